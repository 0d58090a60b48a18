import PyProof.Rows.All
import Wide.All
import OpenK.AllK
import Wide.FinOn
import HandS.ForMost
import HandS.Codes
import HandS.Walk
import HandS.Wide
import HandS.IsInst
import HandS.Style
import HandS.Exc
import HandS.TryOnly
import HandS.ExcOwn
import HandS.WordsExc
import HandS.Defaults
import HandS.Steps
import HandS.Property
import HandS.StrMore
import HandS.TupLe
import HandS.ExcInit
import HandS.ExcField
import HandS.RaiseMore
import PyProof.Rows.ReprR
import PyProof.StrLawsRepr
import KE.GoesEnum
import KE.GoesMore
import HandS.MakeKw
import HandS.MakeKwOnly
import HandS.ExcIs
import HandS.FStr
import KE.KExcIs
import HandS.Star
import HandS.ClsMeth
import PyProof.ListStr
import KE.KOpsOwn
import KE.KExcInit
import HandS.ForDict
import HandS.WordsDict
import HandS.More
import PyProof.Rows.StrPadFill
import PyProof.ListRange
import HandS.Deep
import KE.DataFind
import PyProof.StrBlock2
import PyProof.ExcClass2
import HandS.ExcValue
import HandS.Text
import HandS.NoneIn
import PyProof.StrLawsChain
import PyProof.Rows.StrItems
import PyProof.Rows.StrSplitAre
import HandS.Set
import HandS.SetFor
import PyProof.StrWalks
import PyProof.Rows.SortStr
import HandS.Strs
import PyProof.Rows.StrRev
import HandS.Flt
import HandS.CallSlots
import HandS.TupAny
import PyProof.TupleOfSeq
import PySem.Challenge.RW_workerworlds_k29_programs_written_and_re
set_option Elab.async false
set_option linter.all false
set_option maxRecDepth 100000
set_option maxHeartbeats 4000000
namespace WB
open PySem L2
/-! ### marks -/
def mk : List Nat := List.range' 65 26 ++ List.range' 97 26
abbrev S (l : List Nat) : Str := ⟨l.toArray⟩
def sb (p : Nat → Bool) : Str := S (mk.filter p)
def mem (z : Str) (c : Nat) : Bool := decide (c ∈ z.cps.toList)
def IsC (z : Str) : Prop := ∃ p, z = sb p
theorem marks_eq : ("ABCDEFGHIJKLMNOPQRSTUVWXYZabcdefghijklmnopqrstuvwxyz" : Str) = S mk := by decide +kernel
theorem mem_sb (p : Nat → Bool) (c : Nat) : mem (sb p) c = (decide (c ∈ mk) && p c) := by
  unfold mem sb
  simp [List.mem_filter]
theorem sb_ext {p q : Nat → Bool} (h : ∀ c ∈ mk, p c = q c) : sb p = sb q := by
  unfold sb
  rw [List.filter_congr h]
theorem IsC.eq {z : Str} (h : IsC z) : z = sb (mem z) := by
  obtain ⟨p, rfl⟩ := h
  exact sb_ext fun c hc => by rw [mem_sb, decide_eq_true hc, Bool.true_and]
theorem sb_len (p : Nat → Bool) : (sb p).length ≤ 52 := by
  show (mk.filter p).toArray.size ≤ 52
  rw [List.size_toArray]
  exact List.length_filter_le p mk
/-! ### heaps -/
/-- all that was tracked is as it was, but what stands at p -/
def Bar (p : Addr) (H H' : Hp) : Prop := ∀ b o, b ≠ p → H b = some o → H' b = some o
theorem Bar.refl (p : Addr) (H : Hp) : Bar p H H := fun _ _ _ h => h
theorem Bar.trans {p : Addr} {H H1 H2 : Hp} (a : Bar p H H1) (b : Bar p H1 H2) : Bar p H H2 := fun c o n h => b c o n (a c o n h)
theorem bar_of {p : Addr} {H H' : Hp} (a : Same H H') : Bar p H H' := fun c o _ h => a c o h
theorem same_new {H : Hp} {p : Addr} {o : HO} (h : H p = none) : Same H (upd H p o) := fun b u e => by
  rw [upd_ne (ne_of_none e h)]
  exact e
theorem bar_upd {p : Addr} {H : Hp} {o : HO} : Bar p H (upd H p o) := fun b u n e => by
  rw [upd_ne n]
  exact e
theorem bar_new {p q : Addr} {H : Hp} {o : HO} (h : H q = none) : Bar p H (upd H q o) := fun b u _ e => same_new h b u e
/-! ### readings: the joining of two ways -/
theorem ite_val {c : Bool} {te1 te2 : TE} {σ : L2.St} {H : Hp} {Q : VK} (C : V → Hp → Prop) (h1 : c = true → ∀ Q' : VK, (∀ v H', C v H' → Q' v H') → te1 σ H Q')
    (h2 : c = false → ∀ Q' : VK, (∀ v H', C v H' → Q' v H') → te2 σ H Q') (h : ∀ v H', C v H' → Q v H') : if c = true then te1 σ H Q else te2 σ H Q := by
  cases c with
  | true => exact iteT (h1 rfl Q h)
  | false => exact iteF (h2 rfl Q h)
theorem ite_b {c : Bool} {A B : Prop} (h1 : c = true → A) (h2 : c = false → B) : if c = true then A else B := by
  cases c with
  | true => exact iteT (h1 rfl)
  | false => exact iteF (h2 rfl)
theorem ints_at {ns : List Int} {i : Nat} (h : i < ns.length) : (ns.map V.int)[i]? = some (V.int (ns[i]'h)) := by
  rw [List.getElem?_map, List.getElem?_eq_getElem h]
  rfl
theorem abs_nonneg (n : Int) : 0 ≤ (if n < 0 then -n else n) := by
  split <;> omega
theorem cut_to (xs : List V) (k : Nat) : cutV xs none (some (k : Int)) = xs.take k := by
  unfold cutV
  rw [HT.sIx_none, HT.sIx_nat, List.drop_zero, Nat.sub_zero]
  by_cases h : k ≤ xs.length
  · rw [Nat.min_eq_left h]
  · rw [Nat.min_eq_right (by omega), List.take_of_length_le (Nat.le_refl _), List.take_of_length_le (by omega)]
theorem cdw {i j : Int} (h : 0 < j) (h2 : j < 2 ^ 200) : CDivW i j := by
  refine ⟨h, ?_⟩
  have e : (j.natAbs : Int) = j := Int.natAbs_of_nonneg (by omega)
  have h3 : j.natAbs < 2 ^ 200 := by
    have : (j.natAbs : Int) < ((2 ^ 200 : Nat) : Int) := by
      rw [e]
      exact h2
    exact Int.ofNat_lt.mp this
  exact Nat.lt_trans ((Nat.log2_lt (by omega)).mpr h3) (by decide)
/-! ### data -/
theorem dp_all_ints {K : PySem.W.Frag} {H : Hp} : ∀ ns : List Int, DpAll K H (ns.map V.int) (ns.map PyData.int)
  | [] => .nil
  | n :: r => .cons (.int n) (dp_all_ints r)
theorem dp_ints {K : PySem.W.Frag} {H : Hp} {a : Addr} {ns : List Int} (h : SqL K H a (ns.map V.int)) : Dp K H (.ref a) (.list (ns.map PyData.int)) := .lst h (dp_all_ints ns)
theorem lay_ints : ∀ ns : List Int, PyData.canLayAll0 (ns.map PyData.int) = true ∧ PyData.depthAll (ns.map PyData.int) = 0
  | [] => ⟨rfl, rfl⟩
  | n :: r => by
    obtain ⟨h1, h2⟩ := lay_ints r
    refine ⟨?_, ?_⟩
    · show (PyData.canLay0 (.int n) && PyData.canLayAll0 (r.map PyData.int)) = true
      rw [h1]
      rfl
    · show max (PyData.depth (.int n)) (PyData.depthAll (r.map PyData.int)) = 0
      rw [h2]
      rfl
theorem shaped_ints (ns : List Int) : SeqAt.shaped (.list (ns.map PyData.int)) = true := by
  obtain ⟨h1, h2⟩ := lay_ints ns
  have e1 : PyData.canLay0 (.list (ns.map PyData.int)) = true := h1
  have e2 : PyData.depth (.list (ns.map PyData.int)) ≤ 64 := by
    show PyData.depthAll (ns.map PyData.int) + 1 ≤ 64
    omega
  unfold SeqAt.shaped
  rw [e1, decide_eq_true e2]
  rfl
theorem eqv_nil_ints (ns : List Int) : PyData.eqv (.list (ns.map PyData.int)) (.list []) = decide (ns = []) := by
  cases ns with
  | nil => rfl
  | cons n r =>
    rw [decide_eq_false (by simp)]
    rfl
/-! ### the bag of draws -/
def BagAt (H : Hp) (p q : Addr) : Prop := ∃ (c s i : Int) (ns : List Int),
  H p = some (.lst [.int c, .int s, .int i, .ref q]) ∧ H q = some (.lst (ns.map V.int)) ∧ ns.length ≤ 63 ∧ 0 ≤ c ∧ 0 ≤ s ∧ s < 2 ^ 40 ∧ 0 ≤ i
theorem BagAt.same {H H' : Hp} {p q : Addr} (h : BagAt H p q) (e : Same H H') : BagAt H' p q := by
  obtain ⟨c, s, i, ns, h1, h2, h3⟩ := h
  exact ⟨c, s, i, ns, e _ _ h1, e _ _ h2, h3⟩
theorem BagAt.bar {H H' : Hp} {p q x : Addr} (h : BagAt H p q) (e : Bar x H H') (n : p ≠ x) (m : q ≠ x) : BagAt H' p q := by
  obtain ⟨c, s, i, ns, h1, h2, h3⟩ := h
  exact ⟨c, s, i, ns, e _ _ n h1, e _ _ m h2, h3⟩
theorem BagAt.pq {H : Hp} {p q : Addr} (h : BagAt H p q) : q ≠ p := fun e => by
  obtain ⟨c, s, i, ns, h1, h2, _⟩ := h
  rw [e, h1] at h2
  have e2 := congrArg (fun l : List V => l[3]?) (HO.lst.inj (Option.some.inj h2))
  have e3 : (some (V.ref q) : Option V) = (ns.map V.int)[3]? := e2
  rw [List.getElem?_map] at e3
  cases e4 : ns[3]? <;> rw [e4] at e3 <;> cases e3
theorem BagAt.there {H : Hp} {p q l : Addr} (h : BagAt H p q) (hl : H l = none) : l ≠ p := by
  obtain ⟨c, s, i, ns, h1, _⟩ := h
  exact (ne_of_none h1 hl).symm
theorem BagAt.there2 {H : Hp} {p q l : Addr} (h : BagAt H p q) (hl : H l = none) : l ≠ q := by
  obtain ⟨c, s, i, ns, _, h1, _⟩ := h
  exact (ne_of_none h1 hl).symm
def spBag (K : PySem.W.Frag) : Sp := fun vs H Q _ => ∃ (a : Addr) (ns : List Int) (j : Nat), vs = [.ref a, .int (j : Int)] ∧ SqL K H a (ns.map V.int) ∧ ns.length ≤ 63 ∧ j < 63 ∧
  ∀ H' p q, Same H H' → H p = none → H q = none → BagAt H' p q → Q (.ref p) H'
def spTake : Sp := fun vs H Q _ => ∃ (p q : Addr) (m : Int), vs = [.ref p, .int m] ∧ BagAt H p q ∧ 0 < m ∧ m < 2 ^ 200 ∧
  ∀ H' (d : Int), Bar p H H' → BagAt H' p q → 0 ≤ d → d < m → Q (.int d) H'
/-! ### parts of the marks -/
theorem sub_filter {m l : List Nat} (h : l.Sublist m) : m.Nodup → l = m.filter (fun c => decide (c ∈ l)) := by
  induction h with
  | slnil => intro _; rfl
  | @cons l m a h ih =>
    intro hn
    have hn2 := List.nodup_cons.mp hn
    have ha : a ∉ l := fun q => hn2.1 (h.subset q)
    rw [List.filter_cons_of_neg (by simp [ha])]
    exact ih hn2.2
  | @cons_cons l m a h ih =>
    intro hn
    have hn2 := List.nodup_cons.mp hn
    rw [List.filter_cons_of_pos (by simp)]
    have e := ih hn2.2
    have e2 : m.filter (fun c => decide (c ∈ a :: l)) = m.filter (fun c => decide (c ∈ l)) := List.filter_congr fun c hc => by
      have hca : c ≠ a := fun q => hn2.1 (q ▸ hc)
      simp [hca]
    rw [e2, ← e]
theorem mk_nodup : mk.Nodup := by decide +kernel
theorem mk_len : mk.length = 52 := by decide +kernel
theorem isC_of {l : List Nat} (h : l.Sublist mk) : IsC (S l) := ⟨fun c => decide (c ∈ l), congrArg S (sub_filter h mk_nodup)⟩
theorem sub_step {l : List Nat} {i c : Nat} (h : l.Sublist (mk.take i)) (hc : mk[i]? = some c) : (l ++ [c]).Sublist (mk.take (i + 1)) ∧ l.Sublist (mk.take (i + 1)) := by
  have e : mk.take (i + 1) = mk.take i ++ [c] := by
    rw [List.take_add_one, hc]
    rfl
  rw [e]
  exact ⟨List.Sublist.append h (List.Sublist.refl _), h.trans (List.sublist_append_left _ _)⟩
def sg (c : Nat) : V := .str ⟨#[c]⟩
theorem joinL_one : ∀ l : List Nat, TL.joinL [] (l.map fun c => [c]) = l
  | [] => rfl
  | [c] => rfl
  | c :: d :: r => by
    have ih := joinL_one (d :: r)
    show [c] ++ [] ++ TL.joinL [] ((d :: r).map fun c => [c]) = c :: d :: r
    rw [ih]
    rfl
theorem join_signs (l : List Nat) : Txt.join (S []) (l.map fun c => S [c]) = S l := by
  have e := SX.join_S [] (l.map fun c => [c])
  rw [List.map_map] at e
  rw [joinL_one] at e
  exact e
def spOf : Sp := fun vs H Q _ => ∃ (p q : Addr) (y : V), vs = [.ref p, y] ∧ BagAt H p q ∧
  ((∃ l xs, y = .ref l ∧ l ≠ p ∧ H l = some (.lst xs) ∧ 0 < xs.length ∧ xs.length < 1000 ∧ ∀ H' x, Bar p H H' → BagAt H' p q → x ∈ xs → Q x H') ∨
   (∃ z : List Nat, y = .str (S z) ∧ 0 < z.length ∧ z.length < 1000 ∧ ∀ H' c, Bar p H H' → BagAt H' p q → c ∈ z → Q (sg c) H'))
def spContents : Sp := fun vs H Q _ => ∃ p q : Addr, vs = [.ref p] ∧ BagAt H p q ∧ ∀ H' z, Bar p H H' → BagAt H' p q → IsC z → Q (.str z) H'
theorem mk_at {i c : Nat} (h : (("ABCDEFGHIJKLMNOPQRSTUVWXYZabcdefghijklmnopqrstuvwxyz" : Str)).cps[i]? = some c) : mk[i]? = some c := by
  rw [marks_eq] at h
  rw [← List.getElem?_toArray]
  exact h
theorem arr_at {z : Str} {i c : Nat} (h : z.cps[i]? = some c) : z.cps.toList[i]? = some c := by
  rw [Array.getElem?_toList]
  exact h
/-- the signs of the first i that keep t -/
def filt (z : List Nat) (t : Nat → Bool) (i : Nat) : List V := ((z.take i).filter t).map sg
theorem filt_yes {z : List Nat} {t : Nat → Bool} {i c : Nat} (h : z[i]? = some c) (ht : t c = true) : filt z t (i + 1) = filt z t i ++ [sg c] := by
  unfold filt
  rw [List.take_add_one, h]
  show ((z.take i ++ [c]).filter t).map sg = _
  rw [List.filter_append, List.filter_cons_of_pos ht, List.filter_nil, List.map_append]
  rfl
theorem filt_no {z : List Nat} {t : Nat → Bool} {i c : Nat} (h : z[i]? = some c) (ht : t c = false) : filt z t (i + 1) = filt z t i := by
  unfold filt
  rw [List.take_add_one, h]
  show ((z.take i ++ [c]).filter t).map sg = _
  rw [List.filter_append, List.filter_cons_of_neg (by rw [ht]; exact Bool.false_ne_true), List.filter_nil, List.append_nil]
theorem filt_len {z : List Nat} {t : Nat → Bool} {i : Nat} : (filt z t i).length ≤ z.length := by
  unfold filt
  rw [List.length_map]
  exact Nat.le_trans (List.length_filter_le _ _) (by rw [List.length_take]; omega)
theorem filt_end {z : List Nat} {t : Nat → Bool} {n : Nat} (h : z.length ≤ n) : filt z t n = (z.filter t).map sg := by
  unfold filt
  rw [List.take_of_length_le h]
theorem sum_ones : ∀ l : List Nat, ((l.map fun c => S [c]).map (·.length)).sum = l.length
  | [] => rfl
  | c :: r => by
    have ih := sum_ones r
    show 1 + ((r.map fun c => S [c]).map (·.length)).sum = r.length + 1
    rw [ih]
    omega
theorem join_ok {K : PySem.W.Frag} {H : Hp} {p : Addr} {Q : VK} (l : List Nat) (hl : l.length ≤ 1000000) (hp : H p = some (.lst (l.map sg))) (q : Q (.str (S l)) H) :
    ∃ (a : Str) (p' : Addr) (ys : List Str), V.str "" = .str a ∧ [V.ref p] = [.ref p'] ∧ (SqL K H p' (ys.map V.str) ∨ SqT K H p' (ys.map V.str)) ∧ (ys.map (·.length)).sum + ys.length * a.length ≤ 16777216 ∧ Q (.str (Txt.join a ys)) H := by
  have e : ("" : Str) = S [] := by decide +kernel
  refine ⟨S [], p, l.map fun c => S [c], by rw [e], rfl, .inl (SqL.of ?_), ?_, ?_⟩
  · rw [List.map_map]
    exact hp
  · rw [sum_ones]
    show l.length + _ * 0 ≤ _
    omega
  · rw [join_signs]
    exact q
theorem mk_size : ("ABCDEFGHIJKLMNOPQRSTUVWXYZabcdefghijklmnopqrstuvwxyz" : Str).cps.size = 52 := by decide +kernel
/-! ### strings of marks -/
def spEither : Sp := fun vs H Q _ => ∃ a b : Str, vs = [.str a, .str b] ∧ ∀ H', Same H H' → Q (.str (sb fun c => mem a c || mem b c)) H'
def spBoth : Sp := fun vs H Q _ => ∃ a b : Str, vs = [.str a, .str b] ∧ a.length ≤ 1000000 ∧ ∀ H', Same H H' → Q (.str (S (a.cps.toList.filter fun c => mem b c))) H'
def spWithout : Sp := fun vs H Q _ => ∃ a b : Str, vs = [.str a, .str b] ∧ a.length ≤ 1000000 ∧ ∀ H', Same H H' → Q (.str (S (a.cps.toList.filter fun c => !mem b c))) H'
def spExactly : Sp := fun vs H Q _ => ∃ a b : Str, vs = [.str a, .str b] ∧ IsC a ∧ IsC b ∧ ∀ H', Same H H' → Q (.str (sb fun c => mem a c != mem b c)) H'
/-! ### own classes: is it the same object; the signs -/
structure EqC (K : PySem.W.Frag) (C : Addr) : Prop where
  ex : ∃ nm q N bs hdct sn sub ab col dd k0 k1 k2 k3 k5 newId, K.lookup C = some (excClassObj nm q C N bs [.type "object"] hdct sn sub ab col dd k0 k1 k2 k3 k5 newId) ∧
    PySem.W.nsOkIn K N = true ∧ PySem.W.nsIn K N "__eq__" = some none ∧ PySem.W.nsIn K N "__ne__" = some none
theorem EqC.inst {K : PySem.W.Frag} {C a dx : Addr} {h : Heap} (E : EqC K C) (X : K.In h) (e : h.get? a = some (PySem.W.instObj C dx)) : h.CmpInst a C [.type "object"] := by
  obtain ⟨nm, q, N, bs, hdct, sn, sub, ab, col, dd, k0, k1, k2, k3, k5, newId, h1, h2, h3, h4⟩ := E.ex
  exact ⟨_, nm, q, N, bs, hdct, sn, sub, ab, col, dd, k0, k1, k2, k3, k5, newId, h.nsMap N, e, rfl, X _ _ h1, .of_isNs (PySem.W.isNs_of_in X h2), PySem.W.nsMap_none_of_in X h2 h3, PySem.W.nsMap_none_of_in X h2 h4⟩
section
variable {X : Cx} {C : Addr}
theorem ins_at {pins : List (Addr × Obj)} {σ : L2.St} {H : Hp} {s : Shared} {a dx : Addr} {fs : List (Str × V)} (I : Inv X pins σ H s) (e : H a = some (.ins C dx fs)) : s.heap.get? a = some (PySem.W.instObj C dx) := by
  obtain ⟨_, _, _, e2, _⟩ := (show ObjOk X.prog X.w H s.heap a (.ins C dx fs) from I.hok a _ e)
  exact e2
def rSame (C : Addr) (f : Bool → Bool) : R2 := fun x y H Q => ∃ a b dx fs dx' fs', x = .ref a ∧ y = .ref b ∧ H a = some (.ins C dx fs) ∧ H b = some (.ins C dx' fs') ∧ Q (.bl (f (decide (a = b)))) H
theorem op_eqO (E : EqC X.K C) (hu : X.A.units + 1 < cLine) : OpR X (compareOp .Eq) (rSame C id) := by
  intro pins s σ H x y v u Q I rx ry h
  obtain ⟨a, b, dx, fs, dx', fs', rfl, rfl, ha, hb, q⟩ := h
  obtain rfl : v = Value.ref a := rx
  obtain rfl : u = Value.ref b := ry
  have e1 := E.inst I.kIn (ins_at I ha)
  have e2 := E.inst I.kIn (ins_at I hb)
  obtain ⟨hh, g, d, t, os⟩ := s
  by_cases c : a = b
  · subst c
    refine compareOp_eq_same PySem.F.cmp_object e1 (by omega) ⟨.bl true, H, I, rfl, ?_⟩
    rw [decide_eq_true rfl] at q
    exact q
  · refine compareOp_eq_other PySem.F.cmp_object PySem.F.cmp_object e1 e2 c (by omega) ⟨.bl false, H, I, rfl, ?_⟩
    rw [decide_eq_false c] at q
    exact q
theorem op_neO (E : EqC X.K C) (hu : X.A.units + 1 < cLine) : OpR X (compareOp .NotEq) (rSame C not) := by
  intro pins s σ H x y v u Q I rx ry h
  obtain ⟨a, b, dx, fs, dx', fs', rfl, rfl, ha, hb, q⟩ := h
  obtain rfl : v = Value.ref a := rx
  obtain rfl : u = Value.ref b := ry
  have e1 := E.inst I.kIn (ins_at I ha)
  have e2 := E.inst I.kIn (ins_at I hb)
  obtain ⟨hh, g, d, t, os⟩ := s
  by_cases c : a = b
  · subst c
    refine compareOp_ne_same PySem.F.cmp_object e1 hu ⟨.bl false, H, I, rfl, ?_⟩
    rw [decide_eq_true rfl] at q
    exact q
  · refine compareOp_ne_other PySem.F.cmp_object PySem.F.cmp_object e1 e2 c hu ⟨.bl true, H, I, rfl, ?_⟩
    rw [decide_eq_false c] at q
    exact q
/-- one sign of an own class: x op y, by its method -/
structure SignC (K : PySem.W.Frag) (C : Addr) (nm : Str) (f : Addr) : Prop where
  first : PySem.W.selfFirst K C = true
  at_ : PySem.W.findIn K (.ref C) nm = some (some (.ref f))
  fn : PySem.W.isFn K (.ref f) = true
def rSign (C : Addr) (sp : Sp) (E : XK) : R2 := fun x y H Q => ∃ a b dx fs dx' fs', x = .ref a ∧ y = .ref b ∧ H a = some (.ins C dx fs) ∧ H b = some (.ins C dx' fs') ∧ sp [.ref a, .ref b] H (fun v H' => (∃ c, v = .ref c) ∧ Q v H') E
theorem op_sign {CX : CXT} {k : Nat} {f : Addr} {fd : FuncData} {ps : List Str} {sp : Sp} {E : XK} {op : Operator} (S : SignC X.K C (PySem.dunder op.info.2) f) (F : FnOk X.prog X.w X.K X.mg X.base CX k f fd ps sp) (hr : Room k X.A) (hb : Binds X.K fd ps []) (hx : Passes CX X E) :
    OpR X (binaryOp op) (rSign C sp E) := by
  intro pins s σ H x y v u Q I rx ry h
  obtain ⟨a, b, dx, fs, dx', fs', rfl, rfl, ha, hb2, q⟩ := h
  obtain rfl : v = Value.ref a := rx
  obtain rfl : u = Value.ref b := ry
  obtain ⟨m, Fm⟩ := I.fr
  obtain ⟨mA, O, _, _, _, _⟩ := ins_get I.hok ha
  obtain ⟨od, J, _⟩ := O.look
  obtain ⟨mB, O2, _, _, _, _⟩ := ins_get I.hok hb2
  obtain ⟨od2, J2, _⟩ := O2.look
  refine PySem.W.binop_K Fm I.mod.kin J J2.type S.first S.at_ S.fn ?_
  refine wpAny_mono (run_fn F hr hb .nil hx I (us := [.ref a, .ref b]) (vs := [.ref a, .ref b]) (.cons rfl (.cons rfl .nil)) q) (fun r s' hq => ?_) fun _ _ e => e
  obtain ⟨z, H', I', rz, ⟨c, rfl⟩, q'⟩ := hq
  obtain rfl : r = Value.ref c := rz
  exact ⟨.ref c, H', I', rfl, q'⟩
end
/-! ### boxes -/
def boxF (z : Str) : List (Str × V) := [("contents", .str z)]
def BoxAt (C : Addr) (H : Hp) (a : Addr) (z : Str) : Prop := ∃ dx, H a = some (.ins C dx (boxF z))
theorem boxF_lk (z : Str) : (boxF z).lookup ("contents" : Str) = some (.str z) := by simp [boxF, List.lookup]
theorem boxF_put (z y : Str) : putF "contents" (.str y) (boxF z) = boxF y := by
  show (if ("contents" : Str) = "contents" then _ else _) = _
  rw [if_pos rfl]
  rfl
theorem boxF_new (y : Str) : putF "contents" (.str y) [] = boxF y := rfl
theorem boxF_no (z : Str) {m : Str} (h : ¬ m = "contents") : (boxF z).lookup m = none := by
  have e : (m == ("contents" : Str)) = false := by simpa using h
  simp [boxF, List.lookup, e]
theorem BoxAt.same {C a : Addr} {H H' : Hp} {z : Str} (h : BoxAt C H a z) (e : Same H H') : BoxAt C H' a z := by
  obtain ⟨dx, h⟩ := h
  exact ⟨dx, e _ _ h⟩
theorem BoxAt.bar {C a p : Addr} {H H' : Hp} {z : Str} (h : BoxAt C H a z) (e : Bar p H H') (n : a ≠ p) : BoxAt C H' a z := by
  obtain ⟨dx, h⟩ := h
  exact ⟨dx, e _ _ n h⟩
theorem BoxAt.ne {C a b : Addr} {H : Hp} {z : Str} (h : BoxAt C H a z) (hb : H b = none) : a ≠ b := by
  obtain ⟨dx, h⟩ := h
  exact ne_of_none h hb
theorem BoxAt.one {C a : Addr} {H : Hp} {y z : Str} (h : BoxAt C H a z) (h2 : BoxAt C H a y) : z = y := by
  obtain ⟨dx, h⟩ := h
  obtain ⟨dy, h2⟩ := h2
  rw [h] at h2
  have e := Option.some.inj h2
  injection e with _ _ e
  have e3 := congrArg (fun l : List (Str × V) => l.lookup ("contents" : Str)) e
  rw [boxF_lk, boxF_lk] at e3
  injection e3 with e3
  injection e3
theorem BoxAt.bag {C a p q : Addr} {H : Hp} {z : Str} (h : BoxAt C H a z) (hb : BagAt H p q) : a ≠ p := by
  obtain ⟨dx, h⟩ := h
  obtain ⟨c, s, i, ns, h1, _⟩ := hb
  exact ne_of h h1 (by intro e; cases e)
theorem BoxAt.bag2 {C a p q : Addr} {H : Hp} {z : Str} (h : BoxAt C H a z) (hb : BagAt H p q) : a ≠ q := by
  obtain ⟨dx, h⟩ := h
  obtain ⟨c, s, i, ns, _, h1, _⟩ := hb
  exact ne_of h h1 (by intro e; cases e)
/-- what the top says of Box -/
structure BoxC (K : PySem.W.Frag) (mg : Str → Option Value) (C : Addr) : Prop where
  cl : Cls K C
  nC : NoAttr K C "contents"
  gB : ∃ u, mg "Box" = some u ∧ RelV (.ref C) u
  eq : EqC K C
  ca : PySem.W.findIn K (.ref C) "__class__" = some (some (.builtin "object.__class__"))
  cn : PySem.W.specialIn K (.builtin "object.__class__") "__get__" = some (some (.builtin "getset_descriptor.__get__"))
  ct : PySem.W.takesIn K (.builtin "object.__class__") = some true
  cm : PySem.W.mroIn K C (.type "object") = some true
  kit : PySem.W.kitOne K (.ref C) (.ref C) = some true
theorem BoxC.ty {K : PySem.W.Frag} {mg : Str → Option Value} {C a dx : Addr} {H : Hp} {fs : List (Str × V)} (B : BoxC K mg C) (h : H a = some (.ins C dx fs)) : TyX K H (.ref a) (.ref C) :=
  .base (.ins h B.cl B.ca B.cn B.ct B.cm)
def spInit (C : Addr) : Sp := fun vs H Q _ => ∃ (a dx : Addr) (z : Str), vs = [.ref a, .str z] ∧ H a = some (.ins C dx []) ∧ IsC z ∧ ∀ H', Bar a H H' → BoxAt C H' a z → Q .non H'
def spBecome (C : Addr) : Sp := fun vs H Q _ => ∃ (a : Addr) (y z : Str), vs = [.ref a, .str z] ∧ BoxAt C H a y ∧ IsC z ∧ ∀ H', Bar a H H' → BoxAt C H' a z → Q .non H'
def spSign (C : Addr) (g : Bool → Bool → Bool) : Sp := fun vs H Q _ => ∃ (a b : Addr) (y z : Str), vs = [.ref a, .ref b] ∧ BoxAt C H a y ∧ BoxAt C H b z ∧ IsC y ∧ IsC z ∧
  ∀ H' c, Same H H' → H c = none → BoxAt C H' c (sb fun m => g (mem y m) (mem z m)) → Q (.ref c) H'
def spAre (K : PySem.W.Frag) : Sp := fun vs H Q _ => ∃ x : V, vs = [x] ∧ ((∃ z, x = .str z ∧ ∀ H', Same H H' → Q (.bl (decide (z = sb (mem z)))) H') ∨ (∃ t, TyX K H x (.type t) ∧ kitB t "str" = some false ∧ Q (.bl false) H))
def spChecked : Sp := fun vs H Q _ => ∃ z : Str, vs = [.str z] ∧ IsC z ∧ ∀ H', Same H H' → Q (.str z) H'
theorem isC_sb (p : Nat → Bool) : IsC (sb p) := ⟨p, rfl⟩
theorem IsC.len {z : Str} (h : IsC z) : z.length ≤ 52 := by
  obtain ⟨p, rfl⟩ := h
  exact sb_len p
/-- a part of contents is contents again -/
theorem IsC.filt {z : Str} (h : IsC z) (t : Nat → Bool) : S (z.cps.toList.filter t) = sb fun c => mem z c && t c := by
  obtain ⟨p, rfl⟩ := h
  show S ((mk.filter p).filter t) = S (mk.filter _)
  rw [List.filter_filter]
  refine congrArg S (List.filter_congr fun c hc => ?_)
  rw [mem_sb, decide_eq_true hc, Bool.true_and, Bool.and_comm]
/-! ### signs, by their method, in short -/
structure Sgn (P : Program) (w : World) (K : PySem.W.Frag) (mg : Str → Option Value) (base : Heap) (k : Nat) (C : Addr) (op : Operator) (sp : Sp) : Prop where
  ex : ∃ (f : Addr) (fd : FuncData) (ps : List Str), SignC K C (PySem.dunder op.info.2) f ∧ FnOk P w K mg base CX0 k f fd ps sp ∧ Binds K fd ps []
theorem op_sgn {X : Cx} {k j : Nat} {C : Addr} {op : Operator} {sp : Sp} (S : Sgn X.prog X.w X.K X.mg X.base k C op sp) (hr : Room j X.A) (hk : k ≤ j) : OpR X (binaryOp op) (rSign C sp E0) := by
  obtain ⟨f, fd, ps, h1, h2, h3⟩ := S.ex
  exact op_sign h1 h2 (hr.mono hk) h3 pass0
section
variable {σ : L2.St} {H : Hp} {t u c : TT} {a b : Bool} {D : Ends} {t1 t2 : TS}
theorem ans_orB (h1 : Ans t σ H a) (h2 : Ans u σ H b) : Ans (tOr t u) σ H (a || b) := fun Q q => h1 _ (by
  cases a with
  | true => exact iteT q
  | false => exact iteF (h2 _ q))
theorem st_if (h : Ans c σ H b) (q : if b = true then t1 D σ H else t2 D σ H) : tIfS c t1 t2 D σ H := h _ q
end
/-! ### what is due -/
def gs (s : Nat) (x y : Bool) : Bool := if s = 124 then x || y else if s = 38 then x && y else if s = 94 then x != y else x && !y
def isSign (s : Nat) : Prop := s = 124 ∨ s = 38 ∨ s = 94 ∨ s = 45
def spDue : Sp := fun vs H Q _ => ∃ (s : Nat) (a b : Str), vs = [.str (S [s]), .str a, .str b] ∧ isSign s ∧ Q (.str (sb fun c => gs s (mem a c) (mem b c))) H
def spSigned (C : Addr) : Sp := fun vs H Q _ => ∃ (s : Nat) (a b : Addr) (y z : Str), vs = [.str (S [s]), .ref a, .ref b] ∧ isSign s ∧ BoxAt C H a y ∧ BoxAt C H b z ∧ IsC y ∧ IsC z ∧
  ∀ H' c, Same H H' → H c = none → BoxAt C H' c (sb fun m => gs s (mem y m) (mem z m)) → Q (.ref c) H'
theorem due_bool {s : Nat} (hs : isSign s) (x y : Bool) :
    (((decide (V.str (S [s]) = V.str "|") && decide ((0 : Int) < (if x then 1 else 0) + (if y then 1 else 0))) || ((decide (V.str (S [s]) = V.str "&") && decide (V.int ((if x then 1 else 0) + (if y then 1 else 0)) = V.int 2)) || (decide (V.str (S [s]) = V.str "^") && decide (V.int ((if x then 1 else 0) + (if y then 1 else 0)) = V.int 1)))) = (gs s x y && !decide (s = 45))) ∧
    ((decide (V.str (S [s]) = V.str "-") && (x && !y)) = (gs s x y && decide (s = 45))) := by
  rcases hs with rfl | rfl | rfl | rfl <;> cases x <;> cases y <;> decide +kernel
def spRight (C : Addr) : Sp := fun vs H Q _ => ∃ (s : Nat) (a b : Addr) (y z l : Str), vs = [.str (S [s]), .ref a, .ref b, .str l] ∧ isSign s ∧ BoxAt C H a y ∧ BoxAt C H b z ∧ IsC y ∧ IsC z ∧ IsC l ∧
  ∀ H', (∀ x o, x ≠ a → x ≠ b → H x = some o → H' x = some o) → BoxAt C H' a y → BoxAt C H' b z → Q (.bl true) H'
theorem scal_str (a b : Str) : scal (.str a) (.str b) = true := rfl
theorem dec_str_same (z : Str) : decide (V.str z = V.str z) = true := decide_eq_true rfl
theorem if_join {b : Bool} {t1 t2 : TS} {D : Ends} {σ : L2.St} {H : Hp} (C : L2.St → Hp → Prop) (h1 : b = true → ∀ nx' : L2.St → Hp → Prop, (∀ σ' H', C σ' H' → nx' σ' H') → t1 { D with nx := nx' } σ H)
    (h2 : b = false → ∀ nx' : L2.St → Hp → Prop, (∀ σ' H', C σ' H' → nx' σ' H') → t2 { D with nx := nx' } σ H) (h : ∀ σ' H', C σ' H' → D.nx σ' H') : if b = true then t1 D σ H else t2 D σ H := by
  cases b with
  | true => exact iteT (h1 rfl D.nx h)
  | false => exact iteF (h2 rfl D.nx h)
theorem same_made {H H' : Hp} {x dx : Addr} {o o' : HO} (nx : H x = none) (nd : H dx = none) (b : Bar x (upd (upd H dx o) x o') H') : Same H H' := fun c u e => by
  have n1 : c ≠ x := ne_of_none e nx
  refine b c u n1 ?_
  rw [upd_ne n1, upd_ne (ne_of_none e nd)]
  exact e
/-- a change at a place that H0 does not know -/
theorem same_bar {H0 H H' : Hp} {p : Addr} (s : Same H0 H) (n : H0 p = none) (b : Bar p H H') : Same H0 H' := fun c u e => b c u (ne_of_none e n) (s c u e)
def spLaw (K : PySem.W.Frag) : Sp := fun vs H Q _ => ∃ (a : Addr) (ns : List Int), vs = [.ref a] ∧ SqL K H a (ns.map V.int) ∧ ns.length ≤ 63 ∧ ∀ H', Q (.bl true) H'
theorem calOf {P : Program} {w : World} {K : PySem.W.Frag} {mg : Str → Option Value} {base : Heap} {k : Nat} {x q : Str} {st : Stmt} {f : Addr} {fd : FuncData} {ps : List Str} {sp : Sp} (F : L2.Fun K x q st f fd) (g : mg x = some (.ref f)) (b : Binds K fd ps [])
    (ok : FnOk P w K mg base CX0 k f fd ps sp) : C8.Cal P w K mg base k x sp [] := ⟨f, fd, ps, [], ok, g, F.kp, b, .nil⟩
theorem kit_self {K : PySem.W.Frag} {C : Addr} : PySem.W.kitOne K (.ref C) (.ref C) = some true := by
  unfold PySem.W.kitOne
  rw [if_pos (beq_self_eq_true _)]
theorem nsOk_of {K : PySem.W.Frag} {N : Addr} {c : Value} {d : Option Addr} {es : Array DictEntry} {n : Nat} {sl : Array (Option Value)} (l : K.lookup N = some ⟨c, d, .dict es n, sl⟩)
    (h : (es.toList.all fun e => match e.key with | .str _ _ => true | _ => false) = true) : PySem.W.nsOkIn K N = true := by
  unfold PySem.W.nsOkIn
  rw [l]
  show es.all _ = true
  rw [← Array.all_toList]
  exact h
section
open PySem.W PyProof.Rows PySem.Calls
variable {K : PySem.W.Frag} {C f : Addr}
theorem fills_in {M : Model} {h : Heap} {nm : String} {add : Bool} {cd : ClassData} {rest : List Value} (X : K.In h) (hc : clsIn K C = some cd) (hm : cd.mro = .ref C :: rest)
    (hs : findIn K (.ref C) (dunderI nm) = some (some (.ref f))) : Looks M h (fillsInplaceSlot (.ref C) nm add) true := by
  intro A Q E s k q
  unfold fillsInplaceSlot
  refine wpAny_bind ((looks_clsIn X hc).andThen (f := fun cd => pure cd.mro) .now A _ E s k ?_)
  rw [hm, List.anyM_cons]
  refine wpAny_bind (wpAny_bind (looks_findIn X hs A _ E s k ?_))
  dsimp only
  have own : (!ownNameWrapper (.ref f) (dunderI nm)) = true := rfl
  rw [if_pos own]
  exact wpAny_pure (by
    rw [if_pos rfl]
    exact wpAny_pure q)
theorem inplace_own {prog : Program} {w : World} {A : Around} {E : Value → Shared → Prop} {s : Shared} {x : Addr} {ox : Obj} {od : Option Obj} {op : Operator} {b : Value} {Q : Value → Shared → Prop} (X : K.In s.heap) (I : PySem.W.InstAt s.heap x ox C od) (hc : selfFirst K C = true)
    (hs : findIn K (.ref C) (dunderI op.info.2) = some (some (.ref f))) (hf : isFn K (.ref f) = true)
    (h : wpAny (model prog w) A (call (.ref f) [.ref x, b]) (PySem.W.CmpBack Q) E s) : wpAny (model prog w) A (inplaceOp op (.ref x) b) Q E s := by
  obtain ⟨cd, hcd, hm⟩ := any_some hc
  obtain ⟨rest, hm⟩ : ∃ rest, cd.mro = .ref C :: rest := by
    cases q : cd.mro with
    | nil =>
      rw [q] at hm
      cases hm
    | cons a r =>
      rw [q, List.head?_cons] at hm
      cases beq_iff_eq.mp hm
      exact ⟨r, rfl⟩
  unfold inplaceOp
  refine wpAny_holding ?_
  dsimp only
  refine wpAny_bind (I.type.here ?_)
  refine wpAny_bind ((fills_in X hcd hm hs).here ?_)
  rw [if_pos rfl]
  refine wpAny_bind (m := tryMethod (.ref x) _ b) ?_
  unfold tryMethod
  refine wpAny_bind (special_fn X I hs (beq_iff_eq.mp hf) (wpAny_mono h (fun v s' hv => ?_) fun _ _ e => e))
  cases v <;> first | exact hv.elim | exact wpAny_pure (wpAny_bind (wpAny_rule (wpAny_pure hv)))
end
/-- x op= y, by the class's own method -/
structure ISgn (P : Program) (w : World) (K : PySem.W.Frag) (mg : Str → Option Value) (base : Heap) (k : Nat) (C : Addr) (op : Operator) (sp : Sp) : Prop where
  ex : ∃ (f : Addr) (fd : FuncData) (ps : List Str), SignC K C (PySem.dunderI op.info.2) f ∧ FnOk P w K mg base CX0 k f fd ps sp ∧ Binds K fd ps []
theorem ip_sgn {X : Cx} {k j : Nat} {C : Addr} {op : Operator} {sp : Sp} (S : ISgn X.prog X.w X.K X.mg X.base k C op sp) (hr : Room j X.A) (hk : k ≤ j) : PIp X op (rSign C sp E0) := by
  obtain ⟨f, fd, ps, h1, h2, h3⟩ := S.ex
  intro pins s σ H x y v u Q I rx ry h
  obtain ⟨a, b, dx, fs, dx', fs', rfl, rfl, ha, hb2, q⟩ := h
  obtain rfl : v = Value.ref a := rx
  obtain rfl : u = Value.ref b := ry
  obtain ⟨mA, O, _, _, _, _⟩ := ins_get I.hok ha
  obtain ⟨od, J, _⟩ := O.look
  refine inplace_own I.kIn J h1.first h1.at_ h1.fn ?_
  refine wpAny_mono (run_fn h2 (hr.mono hk) h3 .nil pass0 I (us := [.ref a, .ref b]) (vs := [.ref a, .ref b]) (.cons rfl (.cons rfl .nil)) q) (fun r s' hq => ?_) fun _ _ e => e
  obtain ⟨z, H', I', rz, ⟨c, rfl⟩, q'⟩ := hq
  obtain rfl : r = Value.ref c := rz
  exact ⟨.ref c, H', I', rfl, q'⟩
def spISign (C : Addr) (g : Bool → Bool → Bool) : Sp := fun vs H Q _ => ∃ (a b : Addr) (y z : Str), vs = [.ref a, .ref b] ∧ BoxAt C H a y ∧ BoxAt C H b z ∧ IsC y ∧ IsC z ∧
  ∀ H', Bar a H H' → BoxAt C H' a (sb fun m => g (mem y m) (mem z m)) → Q (.ref a) H'
/-- rows[j] in rows[j] op= .. -/
def rGetL (K : PySem.W.Frag) : V → V → Hp → VK → Prop := fun x y H Q => ∃ (p : Addr) (xs : List V) (j : Nat) (v : V), x = .ref p ∧ y = .int (j : Int) ∧ SqL K H p xs ∧ xs[j]? = some v ∧ Q v H
theorem get_list {X : Cx} : PGet X (rGetL X.K) := by
  intro pins s σ H o i ov iv Q I ro ri h
  obtain ⟨p, xs, j, v, rfl, rfl, hq, he, q⟩ := h
  obtain rfl : ov = Value.ref p := ro
  obtain ⟨t, rfl⟩ := ri
  obtain ⟨its, r, pl, hz⟩ := I.list hq
  obtain ⟨w, ew, rw'⟩ := r.get he
  have hl := r.length
  have hn := line63
  have hj : j < xs.length := (List.getElem?_eq_some_iff.mp he).1
  refine wpAny_getItem_list pl.isList (by omega) (by omega) (by rw [Int.toNat_natCast]; simpa using ew) ⟨v, H, I, rw', q⟩
def spChanged (C : Addr) : Sp := fun vs H Q _ => ∃ (s : Nat) (a b : Addr) (y z : Str), vs = [.str (S [s]), .ref a, .ref b] ∧ isSign s ∧ BoxAt C H a y ∧ BoxAt C H b z ∧ IsC y ∧ IsC z ∧
  ∀ H', Bar a H H' → BoxAt C H' a (sb fun m => gs s (mem y m) (mem z m)) → Q (.ref a) H'
theorem ixN_nat {n j : Nat} (h : j < n) : ixN n (j : Int) = some j := by
  unfold ixN
  rw [if_pos (by omega), if_pos (by omega), Int.toNat_natCast]
theorem set_same {α : Type} {xs : List α} {k : Nat} {v : α} (h : xs[k]? = some v) : xs.set k v = xs := by
  refine List.ext_getElem? fun j => ?_
  rw [List.getElem?_set]
  obtain ⟨hk, e⟩ := List.getElem?_eq_some_iff.mp h
  by_cases c : k = j
  · subst c
    rw [if_pos rfl, if_pos hk, h]
  · rw [if_neg c]
def spChangeItem (C : Addr) : Sp := fun vs H Q _ => ∃ (s : Nat) (r a b : Addr) (k : Nat) (xs : List V) (y z : Str), vs = [.str (S [s]), .ref r, .int (k : Int), .ref b] ∧ isSign s ∧ H r = some (.lst xs) ∧ xs[k]? = some (.ref a) ∧ BoxAt C H a y ∧ BoxAt C H b z ∧ IsC y ∧ IsC z ∧
  ∀ H', Bar a H H' → BoxAt C H' a (sb fun m => gs s (mem y m) (mem z m)) → Q .non H'
/-- boxes and their contents, by place -/
def Boxes (C : Addr) (H : Hp) (bs : List Addr) (zs : List Str) : Prop := bs.length = zs.length ∧ ∀ (i : Nat) b z, bs[i]? = some b → zs[i]? = some z → BoxAt C H b z
theorem Boxes.same {C : Addr} {H H' : Hp} {bs : List Addr} {zs : List Str} (h : Boxes C H bs zs) (e : Same H H') : Boxes C H' bs zs := ⟨h.1, fun i b z h1 h2 => (h.2 i b z h1 h2).same e⟩
theorem Boxes.bar {C p : Addr} {H H' : Hp} {bs : List Addr} {zs : List Str} (h : Boxes C H bs zs) (e : Bar p H H') (n : p ∉ bs) : Boxes C H' bs zs :=
  ⟨h.1, fun i b z h1 h2 => (h.2 i b z h1 h2).bar e fun q => n (q ▸ List.mem_of_getElem? h1)⟩
theorem Boxes.set {C b : Addr} {H H' : Hp} {bs : List Addr} {zs : List Str} {i : Nat} {z : Str} (h : Boxes C H bs zs) (nd : bs.Nodup) (hb : bs[i]? = some b) (e : Bar b H H') (n : BoxAt C H' b z) : Boxes C H' bs (zs.set i z) := by
  refine ⟨by rw [List.length_set]; exact h.1, fun j c y h1 h2 => ?_⟩
  rw [List.getElem?_set] at h2
  by_cases q : i = j
  · subst q
    rw [if_pos rfl] at h2
    split at h2
    · rw [hb] at h1
      cases h1
      cases h2
      exact n
    · cases h2
  · rw [if_neg q] at h2
    refine (h.2 j c y h1 h2).bar e fun r => q ?_
    rw [r] at h1
    obtain ⟨hi, ei⟩ := List.getElem?_eq_some_iff.mp hb
    obtain ⟨hj, ej⟩ := List.getElem?_eq_some_iff.mp h1
    exact (List.getElem_inj nd).mp (ei.trans ej.symm)
theorem Boxes.at_ {C : Addr} {H : Hp} {bs : List Addr} {zs : List Str} {i : Nat} (h : Boxes C H bs zs) (hi : i < bs.length) : ∃ b z, bs[i]? = some b ∧ zs[i]? = some z ∧ BoxAt C H b z := by
  have hj : i < zs.length := h.1 ▸ hi
  exact ⟨bs[i], zs[i], List.getElem?_eq_getElem hi, List.getElem?_eq_getElem hj, h.2 i _ _ (List.getElem?_eq_getElem hi) (List.getElem?_eq_getElem hj)⟩
theorem get_snoc {α : Type} {l : List α} {x y : α} {i : Nat} (h : (l ++ [x])[i]? = some y) : l[i]? = some y ∨ (i = l.length ∧ y = x) := by
  by_cases c : i < l.length
  · rw [List.getElem?_append_left c] at h
    exact .inl h
  · rw [List.getElem?_append_right (by omega)] at h
    have e : i - l.length = 0 := by
      cases q : i - l.length with
      | zero => rfl
      | succ n =>
        rw [q] at h
        cases h
    rw [e] at h
    exact .inr ⟨by omega, (Option.some.inj h).symm⟩
theorem Boxes.snoc {C b : Addr} {H : Hp} {bs : List Addr} {zs : List Str} {z : Str} (h : Boxes C H bs zs) (n : BoxAt C H b z) : Boxes C H (bs ++ [b]) (zs ++ [z]) := by
  refine ⟨by rw [List.length_append, List.length_append, h.1]; rfl, fun j c y h1 h2 => ?_⟩
  rcases get_snoc h1 with h1 | ⟨e1, rfl⟩
  · rcases get_snoc h2 with h2 | ⟨e2, rfl⟩
    · exact h.2 j c y h1 h2
    · have := (List.getElem?_eq_some_iff.mp h1).1
      have := h.1
      omega
  · rcases get_snoc h2 with h2 | ⟨e2, rfl⟩
    · have := (List.getElem?_eq_some_iff.mp h2).1
      have := h.1
      omega
    · exact n
theorem Boxes.mem {C b : Addr} {H : Hp} {bs : List Addr} {zs : List Str} (h : Boxes C H bs zs) (hb : b ∈ bs) : ∃ z, BoxAt C H b z := by
  obtain ⟨i, hi, rfl⟩ := List.getElem_of_mem hb
  obtain ⟨b', z, h1, h2, h3⟩ := h.at_ hi
  rw [List.getElem?_eq_getElem hi] at h1
  cases h1
  exact ⟨z, h3⟩
theorem map_at {α β : Type} {f : α → β} {l : List α} {i : Nat} {x : α} (h : l[i]? = some x) : (l.map f)[i]? = some (f x) := by
  rw [List.getElem?_map, h]
  rfl
theorem map_from {α β : Type} {f : α → β} {l : List α} {i : Nat} {y : β} (h : (l.map f)[i]? = some y) : ∃ x, l[i]? = some x ∧ y = f x := by
  rw [List.getElem?_map] at h
  cases e : l[i]? with
  | none =>
    rw [e] at h
    cases h
  | some x =>
    rw [e] at h
    exact ⟨x, rfl, (Option.some.inj h).symm⟩
theorem take_snoc {α : Type} {l : List α} {i : Nat} {x : α} (h : l[i]? = some x) : l.take (i + 1) = l.take i ++ [x] := by
  rw [List.take_add_one, h]
  rfl
theorem Boxes.notin {C l : Addr} {H : Hp} {bs : List Addr} {zs : List Str} {xs : List V} (h : Boxes C H bs zs) (hl : H l = some (.lst xs)) : l ∉ bs := fun m => by
  obtain ⟨z, dx, e⟩ := h.mem m
  rw [hl] at e
  cases e
theorem Boxes.notin2 {C p q : Addr} {H : Hp} {bs : List Addr} {zs : List Str} (h : Boxes C H bs zs) (hB : BagAt H p q) : p ∉ bs ∧ q ∉ bs := by
  obtain ⟨c, s, i, ns, h1, h2, _⟩ := hB
  exact ⟨h.notin h1, h.notin h2⟩
/-- the state of a law with boxes and their due contents, in two lists -/
structure Two (C : Addr) (H0 : Hp) (p q tl bl : Addr) (bs : List Addr) : Prop where
  np : H0 p = none
  nt : H0 tl = none
  nb : H0 bl = none
  nbs : ∀ b ∈ bs, H0 b = none
  tp : tl ≠ p
  tq : tl ≠ q
  bp : bl ≠ p
  bq : bl ≠ q
  tb : tl ≠ bl
  nd : bs.Nodup
structure TwoAt (C : Addr) (H0 : Hp) (p q tl bl : Addr) (bs : List Addr) (zs : List Str) (H : Hp) : Prop where
  sm : Same H0 H
  bag : BagAt H p q
  t : H tl = some (.lst (zs.map V.str))
  b : H bl = some (.lst (bs.map V.ref))
  bx : Boxes C H bs zs
  ic : ∀ z ∈ zs, IsC z
theorem TwoAt.draw {C : Addr} {H0 H H' : Hp} {p q tl bl : Addr} {bs : List Addr} {zs : List Str} (h : TwoAt C H0 p q tl bl bs zs H) (w : Two C H0 p q tl bl bs) (b : Bar p H H') (hB : BagAt H' p q) : TwoAt C H0 p q tl bl bs zs H' :=
  ⟨same_bar h.sm w.np b, hB, b _ _ w.tp h.t, b _ _ w.bp h.b, h.bx.bar b (h.bx.notin2 h.bag).1, h.ic⟩
theorem TwoAt.same {C : Addr} {H0 H H' : Hp} {p q tl bl : Addr} {bs : List Addr} {zs : List Str} (h : TwoAt C H0 p q tl bl bs zs H) (s : Same H H') : TwoAt C H0 p q tl bl bs zs H' :=
  ⟨h.sm.trans s, h.bag.same s, s _ _ h.t, s _ _ h.b, h.bx.same s, h.ic⟩
theorem lc_yes {A B : Hp → Prop} {σ : L2.St} {H : Hp} (h : A H) : tYes σ H (fun b H3 => if b = true then A H3 else B H3) := @iteT (A H) (B H) h
theorem TwoAt.change {C : Addr} {H0 H H' : Hp} {p q tl bl b : Addr} {bs : List Addr} {zs : List Str} {m : Nat} {z : Str} (w : Two C H0 p q tl bl bs) (sm : Same H0 H) (bag : BagAt H p q) (t : H tl = some (.lst ((zs.set m z).map V.str))) (hb : H bl = some (.lst (bs.map V.ref)))
    (bx : Boxes C H bs zs) (ic : ∀ z ∈ zs, IsC z) (hz : IsC z) (hm : bs[m]? = some b) (e : Bar b H H') (n : BoxAt C H' b z) : TwoAt C H0 p q tl bl bs (zs.set m z) H' := by
  have mb := List.mem_of_getElem? hm
  have ne : ∀ {x}, x ∉ bs → x ≠ b := fun h q => h (q ▸ mb)
  have n2 := bx.notin2 bag
  refine ⟨same_bar sm (w.nbs b mb) e, bag.bar e (ne n2.1) (ne n2.2), e _ _ (ne (bx.notin t)) t, e _ _ (ne (bx.notin hb)) hb, bx.set w.nd hm e n, fun y hy => ?_⟩
  rcases List.mem_or_eq_of_mem_set hy with h | h
  · exact ic y h
  · rw [h]
    exact hz
theorem sign_of {y : V} (h : y ∈ [V.str "|", V.str "&", V.str "-", V.str "^"]) : ∃ s, y = .str (S [s]) ∧ isSign s := by
  simp only [List.mem_cons, List.not_mem_nil, or_false] at h
  rcases h with rfl | rfl | rfl | rfl
  · exact ⟨124, rfl, .inl rfl⟩
  · exact ⟨38, rfl, .inr (.inl rfl)⟩
  · exact ⟨45, rfl, .inr (.inr (.inr rfl))⟩
  · exact ⟨94, rfl, .inr (.inr (.inl rfl))⟩
end WB

set_option Elab.async false
set_option linter.all false
set_option maxRecDepth 100000
set_option maxHeartbeats 4000000
namespace WB
open PySem L2 PyProof.Rows
theorem vals_one {x : V} {us : List Value} (r : Vals [x] us) : ∃ u, us = [u] ∧ RelV x u := by
  cases r with
  | cons r1 r2 =>
    cases r2
    exact ⟨_, rfl, r1⟩
section
variable {X : Cx} {CX : CXT} {k j : Nat} {f C : Addr} {fd : FuncData} {ps : List Str} {sp : Sp} {E : XK}
theorem run_below {A : Around} {pins : List (Addr × Obj)} {σ : L2.St} {H : Hp} {s : Shared} {Q : VK} {us : List Value} {vs : List V} (F : FnOk X.prog X.w X.K X.mg X.base CX k f fd ps sp) (hr : Room k A) (e0 : Env0 X.prog X.w X.K X.mg X.base A X.stack s H)
    (hb : Binds X.K fd ps []) (hx : Passes CX X E) (I : Inv X pins σ H s) (r : Vals vs us) (h : sp vs H Q E) : wpAny (model X.prog X.w) A (call (.ref f) us) (EP X pins σ Q) X.xe s := by
  have hl : (us ++ ([] : List Value)).length = ps.length := by
    rw [List.append_nil, ← r.length]
    exact F.len _ _ _ _ h
  have hb2 := hb s us I.kIn hl
  rw [List.append_nil] at hb2
  refine wpAny_call (codeAny_mono (F.run A X.stack s H ⟨us, []⟩ us vs Q E hr e0 hb2 r h) fun r s' hq => ?_)
  cases r with
  | error er => exact hx pins σ H s er s' I hq
  | ok fl =>
    cases fl with
    | ret u => exact I.after hq
    | next => exact hq.elim
    | brk => exact hq.elim
    | cont => exact hq.elim
/-- what the class has under a name: a def that keeps its promise -/
structure Own (P : Program) (w : World) (K : PySem.W.Frag) (mg : Str → Option Value) (base : Heap) (k : Nat) (C : Addr) (nm : Str) (sp : Sp) : Prop where
  ex : ∃ (f : Addr) (fd : FuncData) (ps : List Str), PySem.W.findIn K (.ref C) nm = some (some (.ref f)) ∧ PySem.W.isFn K (.ref f) = true ∧ FnOk P w K mg base CX0 k f fd ps sp ∧ Binds K fd ps []
def rLenO (C : Addr) (sp : Sp) (E : XK) : List V → Hp → VK → Prop := fun xs H Q => ∃ a dx fs, xs = [.ref a] ∧ H a = some (.ins C dx fs) ∧ sp [.ref a] H (fun v H' => ∃ n : Nat, v = .int n ∧ n < 1000000 ∧ Q v H') E
theorem call_lenO (O : Own X.prog X.w X.K X.mg X.base k C "__len__" sp) (hr0 : Room j X.A) (hk : k + 1 ≤ j) : CallR X (.builtin "len") (rLenO C sp E0) := by
  obtain ⟨f, fd, ps, h1, h2, F, hb⟩ := O.ex
  have hr := hr0.mono hk
  intro pins s σ H xs us Q I r h
  obtain ⟨a, dx, fs, rfl, ha, q⟩ := h
  obtain ⟨u, rfl, r1⟩ := vals_one r
  obtain rfl : u = Value.ref a := r1
  obtain ⟨m, Fm⟩ := I.fr
  obtain ⟨mA, O', _, _, _, _⟩ := ins_get I.hok ha
  obtain ⟨od, J, _⟩ := O'.look
  refine PySem.W.len_K Fm I.mod.kin J h1 h2 ?_
  refine wpAny_mono (run_below F hr.in1 I.env0.in1 hb pass0 I (us := [.ref a]) (.cons (show RelV (.ref a) (.ref a) from rfl) .nil) q) (fun v s' hq => ?_) fun _ _ e => e
  obtain ⟨z, H', I', rz, ⟨n, rfl, hn, q'⟩⟩ := hq
  obtain ⟨t, rfl⟩ := rz
  exact ⟨⟨by omega, by omega⟩, ⟨.int n, H', I'.tok _, ⟨_, rfl⟩, q'⟩⟩
def rReprO (C : Addr) (sp : Sp) (E : XK) : List V → Hp → VK → Prop := fun xs H Q => ∃ a dx fs, xs = [.ref a] ∧ H a = some (.ins C dx fs) ∧ sp [.ref a] H (fun v H' => (∃ z, v = .str z) ∧ Q v H') E
theorem call_reprO (O : Own X.prog X.w X.K X.mg X.base k C "__repr__" sp) (hr0 : Room j X.A) (hk : k + 1 ≤ j) : CallR X (.builtin "repr") (rReprO C sp E0) := by
  obtain ⟨f, fd, ps, h1, h2, F, hb⟩ := O.ex
  have hr := hr0.mono hk
  intro pins s σ H xs us Q I r h
  obtain ⟨a, dx, fs, rfl, ha, q⟩ := h
  obtain ⟨u, rfl, r1⟩ := vals_one r
  obtain rfl : u = Value.ref a := r1
  obtain ⟨m, Fm⟩ := I.fr
  obtain ⟨mA, O', _, _, _, _⟩ := ins_get I.hok ha
  obtain ⟨od, J, _⟩ := O'.look
  refine PySem.W.repr_K (hr.in1).units0 Fm I.mod.kin J h1 h2 ?_
  refine wpAny_mono (run_below F hr.in1 I.env0.in1 hb pass0 I (us := [.ref a]) (.cons (show RelV (.ref a) (.ref a) from rfl) .nil) q) (fun v s' hq => ?_) fun _ _ e => e
  obtain ⟨z, H', I', rz, ⟨⟨y, rfl⟩, q'⟩⟩ := hq
  obtain ⟨t, rfl⟩ := rz
  exact ⟨.str y, H', I', ⟨_, rfl⟩, q'⟩
theorem call_strO (O : Own X.prog X.w X.K X.mg X.base k C "__str__" sp) (hr0 : Room j X.A) (hk : k + 2 ≤ j) : CallR X (.type "str") (rReprO C sp E0) := by
  obtain ⟨f, fd, ps, h1, h2, F, hb⟩ := O.ex
  have hr := hr0.mono hk
  intro pins s σ H xs us Q I r h
  obtain ⟨a, dx, fs, rfl, ha, q⟩ := h
  obtain ⟨u, rfl, r1⟩ := vals_one r
  obtain rfl : u = Value.ref a := r1
  obtain ⟨mA, O', _, _, _, _⟩ := ins_get I.hok ha
  obtain ⟨od, J, _⟩ := O'.look
  refine PySem.W.kso_call (hr.in1.in1).units0 I.kIn J h1 h2 ?_
  refine wpAny_mono (run_below F hr.in1.in1 I.env0.in1.in1 hb pass0 I (us := [.ref a]) (.cons (show RelV (.ref a) (.ref a) from rfl) .nil) q) (fun v s' hq => ?_) fun _ _ e => e
  obtain ⟨z, H', I', rz, ⟨⟨y, rfl⟩, q'⟩⟩ := hq
  obtain ⟨t, rfl⟩ := rz
  exact ⟨.str y, H', I', ⟨_, rfl⟩, q'⟩
def rInO (C : Addr) (sp : Sp) (E : XK) (g : Bool → Bool) : R2 := fun x y H Q => ∃ a dx fs, y = .ref a ∧ H a = some (.ins C dx fs) ∧ sp [.ref a, x] H (fun v H' => ∃ b, v = .bl b ∧ Q (.bl (g b)) H') E
theorem op_inO (O : Own X.prog X.w X.K X.mg X.base k C "__contains__" sp) (hr0 : Room j X.A) (hk : k ≤ j) : OpR X (compareOp .In) (rInO C sp E0 id) := by
  obtain ⟨f, fd, ps, h1, h2, F, hb⟩ := O.ex
  have hr := hr0.mono hk
  intro pins s σ H x y v u Q I rx ry h
  obtain ⟨a, dx, fs, rfl, ha, q⟩ := h
  obtain rfl : u = Value.ref a := ry
  obtain ⟨m, Fm⟩ := I.fr
  obtain ⟨mA, O', _, _, _, _⟩ := ins_get I.hok ha
  obtain ⟨od, J, _⟩ := O'.look
  refine PySem.W.in_K Fm I.mod.kin J h1 h2 ?_
  refine wpAny_mono (run_below F hr I.env0 hb pass0 I (us := [.ref a, v]) (.cons (show RelV (.ref a) (.ref a) from rfl) (.cons rx .nil)) q) (fun v s' hq => ?_) fun _ _ e => e
  obtain ⟨z, H', I', rz, ⟨b, rfl, q'⟩⟩ := hq
  obtain rfl : v = Value.bool b := rz
  exact wpAny_truthy_bool ⟨.bl b, H', I', rfl, q'⟩
theorem op_ninO (O : Own X.prog X.w X.K X.mg X.base k C "__contains__" sp) (hr0 : Room j X.A) (hk : k ≤ j) : OpR X (compareOp .NotIn) (rInO C sp E0 not) := by
  obtain ⟨f, fd, ps, h1, h2, F, hb⟩ := O.ex
  have hr := hr0.mono hk
  intro pins s σ H x y v u Q I rx ry h
  obtain ⟨a, dx, fs, rfl, ha, q⟩ := h
  obtain rfl : u = Value.ref a := ry
  obtain ⟨m, Fm⟩ := I.fr
  obtain ⟨mA, O', _, _, _, _⟩ := ins_get I.hok ha
  obtain ⟨od, J, _⟩ := O'.look
  refine PySem.W.notIn_K Fm I.mod.kin J h1 h2 ?_
  refine wpAny_mono (run_below F hr I.env0 hb pass0 I (us := [.ref a, v]) (.cons (show RelV (.ref a) (.ref a) from rfl) (.cons rx .nil)) q) (fun v s' hq => ?_) fun _ _ e => e
  obtain ⟨z, H', I', rz, ⟨b, rfl, q'⟩⟩ := hq
  obtain rfl : v = Value.bool b := rz
  exact wpAny_truthy_bool ⟨.bl (!b), H', I', rfl, q'⟩
/-- a property of the class -/
structure OwnProp (P : Program) (w : World) (K : PySem.W.Frag) (mg : Str → Option Value) (base : Heap) (k : Nat) (C : Addr) (nm : Str) (sp : Sp) : Prop where
  ex : ∃ (p g : Addr) (fd : FuncData) (ps : List Str), PropOf K C nm p g ∧ FnOk P w K mg base CX0 k g fd ps sp ∧ Binds K fd ps []
theorem pe_propO {nm : Str} {e : Expr} {ta : TE} {pos : Pos} (O : OwnProp X.prog X.w X.K X.mg X.base k C nm sp) (c : Cls X.K C) (hr : Room j X.A) (hk : k + 1 ≤ j) (he : PE X e ta)
    (hab : attributeBase e nm X.env (eval e X.env) = eval e X.env) : PE X (.Attribute e nm pos) (tProp C sp [] E0 ta) := by
  obtain ⟨p, g, fd, ps, h1, F, hb⟩ := O.ex
  exact pe_prop he c h1 F (hr.mono hk) hb .nil pass0 hab
end
/-! ### any value -/
def NoStr (K : PySem.W.Frag) (H : Hp) (x : V) : Prop := ∃ t, TyX K H x (.type t) ∧ kitB t "str" = some false
def Thing (K : PySem.W.Frag) (H : Hp) (x : V) : Prop := (∃ z : Str, x = .str z ∧ z.length ≤ 1000) ∨ NoStr K H x
theorem noStr_non {K : PySem.W.Frag} {H : Hp} : NoStr K H .non := ⟨_, .base .non, by decide +kernel⟩
theorem noStr_bl {K : PySem.W.Frag} {H : Hp} {b : Bool} : NoStr K H (.bl b) := ⟨_, .base (.bl b), by decide +kernel⟩
theorem noStr_int {K : PySem.W.Frag} {H : Hp} {i : Int} : NoStr K H (.int i) := ⟨_, .base (.int i), by decide +kernel⟩
theorem noStr_lst {K : PySem.W.Frag} {H : Hp} {a : Addr} {xs : List V} (h : H a = some (.lst xs)) : NoStr K H (.ref a) := ⟨_, .base (.lst h), by decide +kernel⟩
theorem noStr_tup {K : PySem.W.Frag} {H : Hp} {a : Addr} {xs : List V} (h : H a = some (.tup xs)) : NoStr K H (.ref a) := ⟨_, .base (.tup h), by decide +kernel⟩
/-- one of the marks, as a value -/
def hasV (z : Str) : V → Bool
  | .str y => match y.cps.toList with
    | [c] => mem z c
    | _ => false
  | _ => false
theorem hasV_noStr {K : PySem.W.Frag} {H : Hp} {x : V} (h : NoStr K H x) (z : Str) : hasV z x = false := by
  cases x with
  | str y =>
    obtain ⟨t, ty, k⟩ := h
    cases ty with
    | base b =>
      cases b
      exact absurd k (by decide +kernel)
  | non => rfl
  | bl b => rfl
  | int i => rfl
  | byt b => rfl
  | flt b => rfl
  | ref a => rfl
  | ty n => rfl
def spLen (C : Addr) : Sp := fun vs H Q _ => ∃ (a : Addr) (z : Str), vs = [.ref a] ∧ BoxAt C H a z ∧ z.length ≤ 1000 ∧ Q (.int (z.length : Nat)) H
def spHas (K : PySem.W.Frag) (C : Addr) : Sp := fun vs H Q _ => ∃ (a : Addr) (z : Str) (x : V), vs = [.ref a, x] ∧ BoxAt C H a z ∧ Thing K H x ∧ Q (.bl (hasV z x)) H
def plainB (z : Str) : Bool := z.cps.toList.all fun c => decide (97 ≤ c)
def spCross (C : Addr) : Sp := fun vs H Q _ => ∃ (a : Addr) (z : Str), vs = [.ref a] ∧ BoxAt C H a z ∧ IsC z ∧ ∀ H', Same H H' → Q (.bl (plainB z)) H'
def spWithin (C : Addr) : Sp := fun vs H Q _ => ∃ (a b : Addr) (y z : Str), vs = [.ref a, .ref b] ∧ BoxAt C H a y ∧ BoxAt C H b z ∧ IsC y ∧ ∀ H', Same H H' → Q (.bl (y.cps.toList.all fun c => mem z c)) H'
theorem isC_sub {z : Str} (h : IsC z) {c : Nat} (hc : c ∈ z.cps.toList) : c ∈ mk := by
  obtain ⟨p, rfl⟩ := h
  exact (List.mem_filter.mp hc).1
theorem upper_mk : ∀ c ∈ mk, Txt.isupper (S [c]) = !decide (97 ≤ c) := by decide +kernel
theorem filter_nil_all {z : List Nat} {t : Nat → Bool} : decide (z.filter (fun c => !t c) = []) = z.all t := by
  induction z with
  | nil => rfl
  | cons c r ih =>
    cases h : t c with
    | true =>
      rw [List.filter_cons_of_neg (by rw [h]; decide), List.all_cons, h, ih]
      rfl
    | false =>
      rw [List.filter_cons_of_pos (by rw [h]; rfl), List.all_cons, h, decide_eq_false (by simp)]
      rfl
theorem NoStr.mono {K : PySem.W.Frag} {H H' : Hp} {x : V} (h : NoStr K H x) (e : ∀ a o, x = .ref a → H a = some o → H' a = some o) : NoStr K H' x := by
  obtain ⟨t, ty, k⟩ := h
  refine ⟨t, ?_, k⟩
  generalize hT : Value.type t = T at ty
  cases ty with
  | base b =>
    cases b with
    | non => exact .base .non
    | bl b => exact .base (.bl b)
    | int i => exact .base (.int i)
    | str z => exact .base (.str z)
    | flt z => exact .base (.flt z)
    | lst h => exact .base (.lst (e _ _ rfl h))
    | frz h => exact .base (.frz (e _ _ rfl h))
    | tup h => exact .base (.tup (e _ _ rfl h))
    | dK h => exact .base (.dK (e _ _ rfl h))
    | dT h => exact .base (.dT (e _ _ rfl h))
    | ins h a b c d f => exact .base (.ins (e _ _ rfl h) a b c d f)
  | byt b => exact .byt b
  | set h => exact .set (e _ _ rfl h)
  | kList h c => exact .kList h c
  | kTuple h c => exact .kTuple h c
  | kDict h c => exact .kDict h c
  | fTuple h => exact .fTuple (e _ _ rfl h)
  | fDict h => exact .fDict (e _ _ rfl h)
theorem Thing.mono {K : PySem.W.Frag} {H H' : Hp} {x : V} (h : Thing K H x) (e : ∀ a o, x = .ref a → H a = some o → H' a = some o) : Thing K H' x := by
  rcases h with h | h
  · exact .inl h
  · exact .inr (h.mono e)
theorem cut_len {z : Str} {lo hi : Option Int} {n : Nat} (h : z.length ≤ n) : (cutS z lo hi).length ≤ n := Nat.le_trans (cutS_length z lo hi) h
def spPlus : Sp := fun vs H Q _ => ∃ (p q : Addr) (t : Str), vs = [.ref p, .str t] ∧ BagAt H p q ∧ IsC t ∧ ∀ H' z, Bar p H H' → BagAt H' p q → IsC z → Q (.str z) H'
def spAsked (K : PySem.W.Frag) : Sp := fun vs H Q _ => ∃ (p q : Addr) (t : Str), vs = [.ref p, .str t] ∧ BagAt H p q ∧ IsC t ∧ ∀ H' x, Bar p H H' → BagAt H' p q → Thing K H' x → Q x H'
def spHolds (K : PySem.W.Frag) : Sp := fun vs H Q _ => ∃ (t : Str) (x : V), vs = [.str t, x] ∧ IsC t ∧ Thing K H x ∧ Q (.bl (hasV t x)) H
def spRight4 (C : Addr) : Sp := fun vs H Q _ => ∃ (p q b : Addr) (t : Str), vs = [.ref p, .ref b, .str t] ∧ BagAt H p q ∧ BoxAt C H b t ∧ IsC t ∧ ∀ H', Bar p H H' → BagAt H' p q → Q (.bl true) H'
/-- the mark at a place is asked for -/
theorem hasV_sg {z : Str} {c : Nat} : hasV z (sg c) = mem z c := rfl
theorem hasV_none {z : Str} {x : V} (h : ∀ c ∈ z.cps.toList, x ≠ sg c) : hasV z x = false := by
  cases x with
  | str y =>
    unfold hasV
    simp only
    split
    · rename_i c hc
      have ey : y = ⟨#[c]⟩ := by
        rw [← SX.S_tl y, hc]
      cases q : mem z c with
      | false => rfl
      | true => exact absurd (show V.str y = sg c by rw [ey]; rfl) (h c (of_decide_eq_true q))
    · rfl
  | non => rfl
  | bl b => rfl
  | int i => rfl
  | byt b => rfl
  | flt b => rfl
  | ref a => rfl
  | ty n => rfl
theorem lay_strs : ∀ ns : List Nat, (∀ c ∈ ns, c < 1000) → PyData.canLayAll0 (ns.map fun c => PyData.str (S [c])) = true ∧ PyData.depthAll (ns.map fun c => PyData.str (S [c])) = 0
  | [], _ => ⟨rfl, rfl⟩
  | n :: r, h => by
    obtain ⟨h1, h2⟩ := lay_strs r fun c hc => h c (List.mem_cons_of_mem _ hc)
    refine ⟨?_, ?_⟩
    · show (PyData.canLay0 (.str (S [n])) && PyData.canLayAll0 (r.map _)) = true
      rw [h1, Bool.and_true]
      show (#[n] : Array Nat).all (fun c => decide (c < 0x110000)) = true
      have := h n List.mem_cons_self
      simp
      omega
    · show max (PyData.depth (.str (S [n]))) (PyData.depthAll (r.map _)) = 0
      rw [h2]
      rfl
theorem dp_strs {K : PySem.W.Frag} {H : Hp} : ∀ ns : List Nat, DpAll K H (ns.map sg) (ns.map fun c => PyData.str (S [c]))
  | [] => .nil
  | n :: r => .cons (.str _) (dp_strs r)
theorem shaped_strs {ns : List Nat} (h : ∀ c ∈ ns, c < 1000) : SeqAt.shaped (.list (ns.map fun c => PyData.str (S [c]))) = true := by
  obtain ⟨h1, h2⟩ := lay_strs ns h
  have e1 : PyData.canLay0 (.list (ns.map fun c => PyData.str (S [c]))) = true := h1
  have e2 : PyData.depth (.list (ns.map fun c => PyData.str (S [c]))) ≤ 64 := by
    show PyData.depthAll (ns.map _) + 1 ≤ 64
    omega
  unfold SeqAt.shaped
  rw [e1, decide_eq_true e2]
  rfl
theorem eqv_nil_strs (ns : List Nat) : PyData.eqv (.list (ns.map fun c => PyData.str (S [c]))) (.list []) = decide (ns = []) := by
  cases ns with
  | nil => rfl
  | cons n r =>
    rw [decide_eq_false (by simp)]
    rfl
theorem mk_small : ∀ c ∈ mk, c < 1000 := by decide +kernel
end WB

set_option Elab.async false
set_option linter.all false
set_option maxRecDepth 100000
set_option maxHeartbeats 4000000
namespace WB
open PySem L2 PyProof.Rows
/-! ### a def that is called where no repr is under way -/
structure FnG (P : Program) (w : World) (K : PySem.W.Frag) (mg : Str → Option Value) (base : Heap) (CX : CXT) (k : Nat) (f : Addr) (fd : FuncData) (ps : List Str) (sp : Sp) : Prop where
  len : ∀ vs H Q E, sp vs H Q E → vs.length = ps.length
  run : ∀ (A : Around) (outer : List Env) (s : Shared) (H : Hp) (args : Args) (us : List Value) (vs : List V) (Q : VK) (E : XK), A.guards = some [] → Room k A → Env0 P w K mg base A outer s H → BindsTo s fd args (ps.zip us) → Vals vs us → sp vs H Q E →
    codeAny (model P w) A (.call (.ref f) args) (CR CX outer P w H s Q E) s
section
variable {P : Program} {w : World} {K : PySem.W.Frag} {mg : Str → Option Value} {base : Heap}
theorem fn_g {x qual : Str} {st : Stmt} {f : Addr} {fd : FuncData} {N ps : List Str} {k : Nat} {sp : Sp} (F : Fun K x qual st f fd) (S : FnScope N ps (defScope st)) (len : ∀ vs H Q E, sp vs H Q E → vs.length = ps.length)
    (body : ∀ (cdv : Value) (A : Around) (outer : List Env) (s : Shared) (H : Hp) (vs : List V) (Q : VK) (E : XK), (A.deeper (envOfC qual (defScope st) s.heap.objs.size f cdv)).guards = some [] → Room k (A.deeper (envOfC qual (defScope st) s.heap.objs.size f cdv)) → sp vs H Q E →
      ∃ t, PSs (cxOf C8.CX0 P w K mg base N qual (defScope st) f cdv A outer s H E).nox (defBody st) t ∧ t { nx := fun _ H' => Q .non H', rt := Q } (start N vs) H) : FnG P w K mg base C8.CX0 (k + 1) f fd ps sp := by
  obtain ⟨oc, od, kV, doc, pm, an, cdv, ct, osl, rfl, lk, hcd⟩ := F.ex
  refine ⟨len, fun A outer s H args us vs Q E gd hr e0 hb r hsp => ?_⟩
  have hl := len _ _ _ _ hsp
  have under : ∀ b o, base.get? b = some o → s.heap.get? b = some o := fun b o e => (e0.bs b o e).1
  have KX : K.In s.heap := e0.mod.kin.keeps under
  have lim : s.heap.NoLimit := e0.mod.nolimit.keeps under
  have kind : ∀ y ∈ ps.zip us, (defScope st).names.lookup y.1 = some .local ∨ ((defScope st).names.lookup y.1 = some .cell ∧ ((cellsFrom (s.heap.objs.size + 1) (defScope st).names []).lookup y.1).isSome = true) := fun ⟨n, v⟩ hy =>
    (S.par n (List.of_mem_zip hy).1).imp id fun q => ⟨q, PySem.W.cellsFrom_some _ _ _ (.inl q)⟩
  refine codeAny_call_function hr.depth (KX _ _ lk) rfl S.co S.gen rfl (PySem.W.codeRec_of KX hcd) (hb _ _ _ _ ?_)
  refine wpAny_newFunctionEnv_cells S.kind kind fun env he s1 x => ?_
  subst he
  refine ⟨lim.keeps x.toInCall.keep, codeAny_func ?_⟩
  obtain ⟨t, ht, hq⟩ := body cdv A outer s H vs Q E gd (hr.deeper _) hsp
  have I : Inv (cxOf C8.CX0 P w K mg base N qual (defScope st) f cdv A outer s H E) [] (start N vs) H s1 := inv_start S hr.hd e0 hl r x
  refine wpAny_mono (ht.nox.run [] s1 (start N vs) H _ I hq) (fun fl s' hs => ?_) fun e s' hs => hs
  cases fl with
  | ret u =>
    obtain ⟨v, σ', H', J, rv, q⟩ := hs
    exact ⟨v, H', J.os, J.bare, J.base, J.hok, rv, q⟩
  | next =>
    obtain ⟨σ', H', J, q⟩ := hs
    exact ⟨.non, H', J.os, J.bare, J.base, J.hok, rfl, q⟩
  | brk =>
    obtain ⟨_, _, _, q⟩ := hs
    exact q.elim
  | cont =>
    obtain ⟨_, _, _, q⟩ := hs
    exact q.elim
end
/-- the law's own call, no repr under way -/
theorem law_g {P : Program} {w : World} {K : PySem.W.Frag} {mg mb : Str → Option Value} {k : Nat} {fa a : Addr} {fd : FuncData} {x : Str} {sp : Sp} {s₁ : Shared} {vs : List Value} {ns : List Int}
    (KX : K.In s₁.heap) (hns : s₁.heap.Ns mainGlobals mg) (hb : s₁.heap.Ns builtinsNs mb) (hbb : ∀ x : Str, x ≠ "__name__" → mb x = bootBuiltins x) (hlim : s₁.heap.NoLimit) (hg : s₁.gens = #[])
    (ha : s₁.heap.get? a = some { cls := .type "list", data := .seq vs.toArray }) (hi : IntsAre vs ns) (hl : ns.length ≤ sizeLine) (hr : Room k callerA)
    (F : ∀ base : Heap, K.In base → base.Ns mainGlobals mg → FnG P w K mg base C8.CX0 k fa fd [x] sp) (hbind : ∀ (s : Shared) (u : Value), BindsTo s fd ⟨[u], []⟩ [(x, u)])
    (hsp : ∀ H : Hp, Only H → SqL K H a (ns.map V.int) → sp [.ref a] H (fun v _ => v = .bl true) fun _ _ _ => False) :
    codeAny (model P w) callerA (.call (.ref fa) ⟨[.ref a], []⟩) (fun r s' => r = .ok (.ret (.bool true)) ∧ OldK s₁.heap s'.heap ∧ s'.os = s₁.os ∧ AllBare s'.gens) s₁ := by
  have rv := vals_ints hi
  have lenV := hi.length
  have core : ∀ H : Hp, SqL K H a (ns.map V.int) → HOk P w H s₁.heap → (H = (fun _ => none) ∨ (K.lookup a = none ∧ ∃ ob xs, H = fun b => if b = a then some (.frz ob (.lst xs)) else none)) →
      codeAny (model P w) callerA (.call (.ref fa) ⟨[.ref a], []⟩) (fun r s' => r = .ok (.ret (.bool true)) ∧ OldK s₁.heap s'.heap ∧ s'.os = s₁.os ∧ AllBare s'.gens) s₁ := by
    intro H hS hok hH
    have only : Only H := fun b => by
      rcases hH with rfl | ⟨_, ob, xs, rfl⟩
      · exact .inl rfl
      · by_cases c : b = a
        · exact .inr ⟨ob, xs, if_pos c⟩
        · exact .inl (if_neg c)
    have off : ∀ {b : Addr}, b ≠ a → H b = none := fun {b} n => by
      rcases hH with rfl | ⟨_, ob, xs, rfl⟩
      · rfl
      · exact if_neg n
    have low : ∀ {b : Addr} {o : Obj}, s₁.heap.get? b = some o → H b = none → (hidT s₁.heap H).get? b = some o := fun e n => hidT_get e n
    have isD : ∀ {b : Addr} {o : Obj} {es : Array DictEntry} {ep : Nat}, s₁.heap.get? b = some o → o.data = .dict es ep → b ≠ a := fun {b o es ep} e d z => by
      rw [z, ha] at e
      cases e
      have d' : Data.seq vs.toArray _ = Data.dict es ep := d
      cases d'
    have nsK : ∀ {b : Addr} {m : Str → Option Value}, s₁.heap.Ns b m → (hidT s₁.heap H).Ns b m := fun {b m} ⟨o, es, ep, e, d, r⟩ => ⟨o, es, ep, low e (off (isD e d)), d, r⟩
    have inB : K.In (hidT s₁.heap H) := fun b o e => low (KX b o e) (by
      rcases hH with rfl | ⟨n, _⟩
      · rfl
      · exact off fun z => by
          rw [z, n] at e
          cases e)
    have hM : Mod K mg (hidT s₁.heap H) := ⟨inB, nsK hns, ⟨mb, nsK hb, hbb⟩, let ⟨mc, h1, h2⟩ := hlim; ⟨mc, nsK h1, h2⟩⟩
    have e0 : Env0 P w K mg (hidT s₁.heap H) callerA [] s₁ H := ⟨rfl, hM, fun b o e => of_hidT e, Nat.le_of_eq (hidT_size _ _), trivial, fun b hb => absurd hb (List.not_mem_nil), hok, .of_eq hg⟩
    refine codeAny_mono ((F _ inB (nsK hns)).run callerA [] s₁ H ⟨[.ref a], []⟩ [.ref a] [.ref a] _ _ rfl hr e0 (hbind s₁ (.ref a)) (.cons rfl .nil) (hsp H only hS)) fun r s' h => ?_
    cases r with
    | error e => exact False.elim h
    | ok fl =>
      cases fl with
      | next => exact False.elim h
      | brk => exact False.elim h
      | cont => exact False.elim h
      | ret u =>
        obtain ⟨v, H', os, bare, un, hok', r', q⟩ := h
        obtain rfl : v = V.bl true := q
        obtain rfl : u = Value.bool true := r'
        refine ⟨rfl, OldK.of_keep fun b o e => ?_, os, bare⟩
        rcases only b with n | ⟨ob, xs, z⟩
        · exact un.keep b o e n (List.not_mem_nil) (List.not_mem_nil)
        · have z2 := un.frzs b ob _ z
          obtain ⟨e1, _⟩ := hok b _ z
          obtain ⟨e2, _⟩ := hok' b _ z2
          rw [e] at e1
          cases e1
          exact e2
  cases hk : K.lookup a with
  | some o =>
    have e := KX a o hk
    rw [ha] at e
    cases e
    exact core (fun _ => none) (.inr ⟨_, vs.toArray, _, hk, rfl, rfl, rfl, by rw [List.size_toArray, lenV]; exact hl, by simpa using rv⟩) (fun b u z => by cases z) (.inl rfl)
  | none =>
    refine core (fun b => if b = a then some (.frz { cls := .type "list", data := .seq vs.toArray } (.lst (ns.map V.int))) else none) (.inl (.inr ⟨{ cls := .type "list", data := .seq vs.toArray }, if_pos rfl⟩)) (fun b u z => ?_) (.inr ⟨hk, _, _, rfl⟩)
    by_cases hb : b = a
    · have z' := (if_pos hb).symm.trans z
      cases z'
      subst hb
      exact ⟨ha, by rw [List.length_map]; exact hl, vs, _, rv, ha⟩
    · have z' := (if_neg hb).symm.trans z
      cases z'
theorem walk_g {l : PySem.W.OpenLaw} {n k : Nat} {q : Program} {loose : List Str} {XP : (Str → Option Value) → Heap → Prop} {YP : World → Heap → Prop} {d : DefRec} {K : Params → PySem.W.Frag} {sp : World → Sp} {x : Str}
    (hn : l.most = some n) (hn2 : n ≤ sizeLine) (hdf : d.params.defaults = []) (hr : Room k callerA)
    (hY : ∀ (w : World) (h : Heap), YP w h → (K w.params).In h)
    (F : ∀ (w : World) (mg : Str → Option Value) (fa : Addr) (h : Heap), (K w.params).In h → h.Ns mainGlobals mg → mg d.name = some (.ref fa) →
      ∃ fd : FuncData, (∀ (s : Shared) (u : Value), BindsTo s fd ⟨[u], []⟩ [(x, u)]) ∧
        ∀ base : Heap, (K w.params).In base → base.Ns mainGlobals mg → FnG l.prog w (K w.params) mg base C8.CX0 k fa fd [x] (sp w))
    (hsp : ∀ (w : World) (H : Hp) (a : Addr) (ns : List Int), ns.length ≤ n → Only H → SqL (K w.params) H a (ns.map V.int) → sp w [.ref a] H (fun v _ => v = .bl true) fun _ _ _ => False) :
    PySem.W.WalkO q loose XP YP l.row.toRowW d [] (fun f vs => PySem.call f vs) := by
  refine Att.attach_call hn hdf fun w s₀ s₁ mg mb fa o pm cd doc a vs ns G Y ho hd hcd hmg hobj hints hlen hg => ?_
  have KX := hY w _ Y
  obtain ⟨fd, hb, hF⟩ := F w mg fa _ KX G.T.g hmg
  exact law_g KX G.T.g G.T.b G.T.builtins G.T.nolimit hg hobj hints (Nat.le_trans hlen hn2) hr hF hb fun H hO hS => hsp w H a ns hlen hO hS
/-! ### repr of data -/
structure OkD (d : PyData) : Prop where
  sh : d.showable = true
  nd : d.hasDict = false
  dp : d.depth ≤ 64
  sz : (∃ i, d = .int i) ∨ d.shown.length ≤ sizeLine
theorem OkD.len {d : PyData} (h : OkD d) (n : ∀ i, d ≠ .int i := by intro _ z; cases z) : d.shown.length ≤ sizeLine := h.sz.resolve_left fun ⟨i, e⟩ => n i e
def rReprD (K : PySem.W.Frag) : List V → Hp → VK → Prop := fun xs H Q => ∃ x d, xs = [x] ∧ Dp K H x d ∧ OkD d ∧ Q (.str d.shown) H
theorem call_reprD {X : Cx} (gd : X.A.guards = some []) (hu : X.A.units + 70 < cLine) : CallR X (.builtin "repr") (rReprD X.K) := by
  intro pins s σ H xs us Q I r h
  obtain ⟨x, d, rfl, hd, ok, q⟩ := h
  obtain ⟨u, rfl, r1⟩ := vals_one r
  obtain ⟨as, rd⟩ := Dp.reads I d x u hd r1
  cases hd with
  | non =>
    obtain rfl : u = Value.none := r1
    exact PySem.P.repr_of_none ⟨.str _, H, I.tok _, ⟨_, rfl⟩, q⟩
  | bl b =>
    obtain rfl : u = Value.bool b := r1
    exact PySem.P.repr_of_bool ⟨.str _, H, I.tok _, ⟨_, rfl⟩, q⟩
  | int i =>
    obtain ⟨t, rfl⟩ := r1
    exact PySem.P.repr_of_int (of_decide_eq_true ok.sh) ⟨.str _, H, I.tok _, ⟨_, rfl⟩, q⟩
  | str z =>
    obtain ⟨t, rfl⟩ := r1
    exact PySem.P.repr_of_str ⟨.str _, H, I.tok _, ⟨_, rfl⟩, q⟩ ok.len
  | lst h1 h2 =>
    rename_i a xs ds
    obtain rfl : u = Value.ref a := r1
    refine repr_of_reads' rd ok.sh (PyData.noDict_hsm ok.nd) gd (by have := ok.dp; omega) (fun _ _ e => e) (fun h' u tk hk => ⟨.str _, H, I.kept hk, ⟨_, rfl⟩, q⟩) ok.len
  | tup h1 h2 =>
    rename_i a xs ds
    obtain rfl : u = Value.ref a := r1
    refine repr_of_reads' rd ok.sh (PyData.noDict_hsm ok.nd) gd (by have := ok.dp; omega) (fun _ _ e => e) (fun h' u tk hk => ⟨.str _, H, I.kept hk, ⟨_, rfl⟩, q⟩) ok.len
end WB

set_option Elab.async false
set_option linter.all false
set_option maxRecDepth 100000
set_option maxHeartbeats 4000000
namespace WB
open PySem L2 PyProof.Rows
/-! ### for i, c in enumerate(text) -/
theorem new_enum_text {x : Str} {t : Tok} :
    Meets (Builtin.«enumerate.__new__» ⟨[.type "enumerate", .str x t], []⟩) (fun _ R s =>
      R (.ok (.ret (.ref (s.heap.push { cls := .type (strIterType x), data := .fields #[.str x t, .int 0 0] }).objs.size))) { s with heap := (s.heap.push { cls := .type (strIterType x), data := .fields #[.str x t, .int 0 0] }).push { cls := .type "enumerate", data := .fields #[.none, .bool false, .ref s.heap.objs.size, rawInt 0, .none, .none] } }) :=
  .of_wp fun prog w A R s h => by
    obtain ⟨hp, g, d, tk, os⟩ := s
    have hsub := sub_enumerate
    have B := begins_text x t
    have q1 : ∀ {A' : Around} {E : Value → Shared → Prop} {Q : Value → Shared → Prop}, Q (.ref hp.objs.size) ⟨hp.push { cls := .type (strIterType x), data := .fields #[.str x t, .int 0 0] }, g, d, tk, os⟩ → wpAny (model prog w) A' (pyIter (.str x t)) Q E ⟨hp, g, d, tk, os⟩ :=
      fun q => B.iter prog w _ _ ⟨hp, g, d, tk, os⟩ _ trivial q
    wp_walk using q1
    refine wpAny_stack_any fun st => wpAny_pure ?_
    split
    · rename_i c _ _ _ _ _
      cases (c == Value.type "enumerate")
      · wp_walk using q1
        exact ⟨_, rfl, h⟩
      · wp_walk using q1
        exact ⟨_, rfl, h⟩
    · wp_walk using q1
      exact ⟨_, rfl, h⟩
theorem call_enum_text {prog : Program} {w : World} {A : Around} {E : Value → Shared → Prop} {s : Shared} {x : Str} {t : Tok} {Q : Value → Shared → Prop}
    (h : ∀ h', IsEnum h' (s.heap.objs.size + 1) s.heap.objs.size 0 .none → h'.IsStrIter s.heap.objs.size (strIterType x) x t 0 →
      (∀ b o, s.heap.get? b = some o → h'.get? b = some o) → Q (.ref (s.heap.objs.size + 1)) { s with heap := h' }) :
    wpAny (model prog w) A (call (.type "enumerate") [.str x t]) Q E s := by
  refine callType_new F.called_enumerate (by decide) (F.typeCall_enumerate_1 _) (F.newCall_enumerate_1 _) (fun obj => F.args_object_init_2 obj _) F.entry_enumerate_new new_enum_text ?_
  have hz : (s.heap.push { cls := .type (strIterType x), data := .fields #[.str x t, .int 0 0] }).objs.size = s.heap.objs.size + 1 := Heap.size_push ..
  show _ ∧ _
  rw [hz]
  have he : IsEnum ((s.heap.push { cls := .type (strIterType x), data := .fields #[.str x t, .int 0 0] }).push { cls := .type "enumerate", data := .fields #[.none, .bool false, .ref s.heap.objs.size, rawInt 0, .none, .none] }) (s.heap.objs.size + 1) s.heap.objs.size 0 .none := by
    have := Heap.get?_push_size (s.heap.push { cls := .type (strIterType x), data := .fields #[.str x t, .int 0 0] }) (o := { cls := .type "enumerate", data := .fields #[.none, .bool false, .ref s.heap.objs.size, rawInt 0, .none, .none] }) rfl
    rw [hz] at this
    exact this
  refine ⟨⟨_, he, rfl⟩, h _ he ⟨_, Heap.get?_push_of_some _ (Heap.get?_push_size _ rfl), rfl, rfl⟩ fun b o y => Heap.get?_push_of_some _ (Heap.get?_push_of_some _ y)⟩
def Ites (x : Str) : It :=
  ⟨fun i _ => i < x.cps.size, fun i H v H' => ∃ T c, v = .ref T ∧ H T = none ∧ H' = upd H T (.tup [.int (i : Nat), .str ⟨#[c]⟩]) ∧ x.cps[i]? = some c, fun i _ => i = x.cps.size⟩
theorem turn_enumS {P : Program} {w : World} {K : PySem.W.Frag} {elts : List Expr} {kk : Nat} {tpos : Pos} (x : Str) (t : Tok) (e it : Addr) :
    Turn P w K (.Tuple elts kk tpos) (Ites x) [e, it] e (fun i h => (∃ old, IsEnum h e it ((i : Nat) : Int) old) ∧ h.IsStrIter it (strIterType x) x t i ∧ e ≠ it) where
  mem := by simp
  obj := fun i h st b hb => by
    obtain ⟨⟨old, he⟩, ⟨o, ho, hc, hd⟩, _⟩ := st
    have e' : b = e ∨ b = it := by simpa using hb
    rcases e' with z | z
    · rw [z]
      exact ⟨_, he, fun v q => nomatch q⟩
    · rw [z]
      exact ⟨o, ho, fun v q => by rw [hd] at q; cases q⟩
  keep := fun i h h' st k => by
    obtain ⟨⟨old, he⟩, ⟨o, ho, r⟩, hne⟩ := st
    exact ⟨⟨old, k e (by simp) _ he⟩, ⟨o, k it (by simp) o ho, r⟩, hne⟩
  item := by
    intro X hP hw hK hc i pins s σ H E I hf st hg
    subst hP hw hK
    obtain ⟨⟨old, he⟩, hit, hne⟩ := st
    have hel : e < s.heap.objs.size := Heap.lt_size he
    have hil : it < s.heap.objs.size := by
      obtain ⟨_, q, _⟩ := hit
      exact Heap.lt_size q
    have D := Draws.text (prog := X.prog) (w := X.w) (A := X.A.in1) (I.ok.hd hc) it x t
    refine wpAny_pyNext_enum_itemD D he hit hg hne (by simpa using hne) fun v h' tk hv ho hit' hT hsz hk => ?_
    obtain ⟨c, u, hcx, rfl⟩ := hv
    refine ⟨_, rfl, wpAny_letOwnedTupleGo_enum (s := { s with heap := h', toks := tk + 1 }) ho fun h'' he' sb => ?_⟩
    have hT2 : h''.get? s.heap.objs.size = some { cls := .type "tuple", data := .seq #[.int i tk, .str ⟨#[c]⟩ u] } := (sb.2 _ (Nat.ne_of_gt hel)).trans hT
    have new : ObjOk X.prog X.w (upd H s.heap.objs.size (.tup [.int (i : Nat), .str ⟨#[c]⟩])) h'' s.heap.objs.size (.tup [.int (i : Nat), .str ⟨#[c]⟩]) :=
      ⟨by show 2 ≤ sizeLine; decide, [.int i tk, .str ⟨#[c]⟩ u], .cons ⟨_, rfl⟩ (.cons ⟨u, rfl⟩ .nil), ⟨_, hT2, rfl, _, rfl⟩⟩
    have I1 : Inv X pins σ (upd H s.heap.objs.size (.tup [.int (i : Nat), .str ⟨#[c]⟩])) { s with heap := h'', toks := tk + 1 } :=
      I.turnedNew (ch := [e, it]) (fun b ob hb q => (sb.2 b (fun z => hb (by simp [z]))).trans (hk b ob (fun z => hb (by simp [z])) (fun z => hb (by simp [z])) q)) hf (Nat.le_refl _) new
    refine ⟨.ref s.heap.objs.size, _, I1, rfl, ⟨_, c, rfl, I.hok.fresh (Nat.le_refl _), rfl, hcx⟩, ⟨⟨.str ⟨#[c]⟩ u, ?_⟩, ?_, hne⟩, fun b hb => ?_⟩
    · have e1 : ((i + 1 : Nat) : Int) = (i : Int) + 1 := by omega
      rw [e1]
      exact he'
    · obtain ⟨o, q1, q2⟩ := hit'
      exact ⟨o, (sb.2 it (Ne.symm hne)).trans q1, q2⟩
    · have hb' : b < s.heap.objs.size := by
        have e' : b = e ∨ b = it := by simpa using hb
        rcases e' with z | z
        · rw [z]
          exact hel
        · rw [z]
          exact hil
      rw [upd_ne (Nat.ne_of_lt hb')]
      exact (hf b hb).1
  done := by
    intro X hP hw hK hc i pins s σ H E I hf st hg
    subst hP hw hK
    obtain ⟨⟨old, he⟩, hit, hne⟩ := st
    obtain ⟨f0, f1, f2, f3, f4, f5⟩ := hf it (by simp)
    have D := Draws.text (prog := X.prog) (w := X.w) (A := X.A.in1) (I.ok.hd hc) it x t
    have hg : i = x.cps.size := hg
    rw [hg] at hit
    exact wpAny_pyNext_enum_endD D he hit fun h' eb => ⟨rfl, I.turned (t' := s.toks) (fun b o hb q => eb b o hb q) f0 f1 f3 f4 f5⟩
  self := fun A i s Q E st h => by
    obtain ⟨⟨_, he⟩, _⟩ := st
    exact wpAny_pyIter_enum he h
def iEnumS (te : TE) : TI := fun σ H R => te σ H fun v H1 => ∃ x, v = .str x ∧ R (Ites x) H1
theorem pi_enumS {X : Cx} {e : Expr} {te : TE} {p pos tpos : Pos} {elts : List Expr} {kk : Nat} (hg : Gl X "enumerate") (hm : X.mg "enumerate" = none) (he : PE X e te) (hs : starEach [e] X.env = [(false, eval e X.env)] := by rfl) :
    PI X (.Tuple elts kk tpos) (.Call (.Name "enumerate" p) [e] [] pos) (iEnumS te) := by
  refine ⟨fun pins s σ H R I h => ?_⟩
  refine Call_ (ld_blt I hg hm boot_enumerate (PyProof.Rows.callWith_type1 (thn ((pa_cons he pa_nil hs).run pos pins s σ H (fun vs H1 => ∃ x, vs = [V.str x] ∧ R (Ites x) H1) I ?_) fun us s1 ⟨vs, H1, I1, r1, q1⟩ => ?_) hs rfl))
  · show te σ H _
    have e : (fun v H1 => tNil σ H1 fun vs H2 => ∃ x, v :: vs = [V.str x] ∧ R (Ites x) H2) = fun (v : V) H1 => ∃ x, v = .str x ∧ R (Ites x) H1 := by
      funext v H1
      refine propext ⟨fun ⟨x, e, q⟩ => ?_, fun ⟨x, e, q⟩ => ⟨x, by rw [e], q⟩⟩
      cases e
      exact ⟨x, rfl, q⟩
    exact e ▸ h
  · obtain ⟨x, ex, q⟩ := q1
    subst ex
    obtain ⟨u, rfl, t, rfl⟩ := vals_one r1
    refine call_enum_text fun h' he hit hk => wpAny_pyIter_enum he ?_
    have I2 : Inv X pins σ H1 { s1 with heap := h' } := I1.kept (t' := s1.toks) hk
    refine ⟨s1.heap.objs.size + 1, [s1.heap.objs.size + 1, s1.heap.objs.size], _, _, H1, rfl, I2, turn_enumS x t (s1.heap.objs.size + 1) s1.heap.objs.size, ⟨⟨.none, he⟩, hit, Nat.succ_ne_self _⟩, fun b hb => ?_, q⟩
    have hle : s1.heap.objs.size ≤ b := by
      have e' : b = s1.heap.objs.size + 1 ∨ b = s1.heap.objs.size := by simpa using hb
      rcases e' with z | z
      · rw [z]
        exact Nat.le_succ _
      · rw [z]
        exact Nat.le_refl _
    exact I1.fpOk hle (I1.hok.fresh hle)
theorem walk_enumS {z : Str} : Walk (Ites z) z.cps.size (fun _ => True) (fun i H v H' => ∃ T c, v = .ref T ∧ H T = none ∧ H' = upd H T (.tup [.int (i : Nat), sg c]) ∧ z.cps[i]? = some c) :=
  ⟨fun _ _ hi _ => hi, fun _ _ => rfl, fun _ _ _ _ _ _ y => y⟩
end WB

set_option Elab.async false
set_option linter.all false
set_option maxRecDepth 100000
set_option maxHeartbeats 4000000
namespace WB
open PySem L2 PyProof.Rows
section
variable {X : Cx} {CX : CXT} {k j : Nat} {f C : Addr} {fd : FuncData} {ps : List Str} {sp : Sp} {E : L2.St → XK} {x m : Str} {p pos apos : Pos} {e o : Expr} {es : List Expr} {ta : TE} {t : TA}
/-! ### calls within try: what they let out is told at the slots -/
def tMethS (C : Addr) (m : Str) (sp : Sp) (E : L2.St → XK) (ta : TE) (t : TA) : TE := fun σ H Q => ta σ H fun x H1 => ∃ a dx fs, x = .ref a ∧ H1 a = some (.ins C dx fs) ∧ fs.lookup m = none ∧ t σ H1 fun vs H2 => sp (x :: vs) H2 Q (E σ)
theorem pe_methS {pl : Sem Bool} (he : PE X o ta) (c : Cls X.K C) (hm : Meth X.K C m f) (F : FnOk X.prog X.w X.K X.mg X.base CX k f fd ps sp) (hr : Room k X.A) (hb : Binds X.K fd ps []) (hx : ∀ σ, PassesAt CX X σ (E σ)) (ha : PA X (e :: es) t)
    (hst : starEach (e :: es) X.env = (false, eval e X.env) :: starEach es X.env := by rfl) (hpl : (backTo pos (starEach es X.env)).any (·.1) = false := by rfl)
    (ht : eval (.Call (.Attribute o m apos) (e :: es) [] pos) X.env = (do
      let ov ← eval o X.env
      standAt apos.atName
      let (f, first) ← holding [ov] (getMethod ov m pl)
      callWith pos f first (backTo pos (starEach (e :: es) X.env)) (backToKw pos (keywordEach [] X.env))) := by rfl) :
    PE X (.Call (.Attribute o m apos) (e :: es) [] pos) (tMethS C m sp E ta t) := by
  refine ⟨fun pins s σ H Q I h => ?_⟩
  refine PySem.W.methodCall_KW (pl := pl) (thn (he.run pins s σ H _ I h) fun u s1 ⟨y, H1, I1, ry, a, dx, fs, ey, ea, l, q⟩ => ?_) ht
  subst ey
  obtain rfl : u = Value.ref a := ry
  refine getmeth_ok I1 ea c hm l (PySem.W.callWith_K (first := [.ref a]) (h₀ := X.base) I.ok.mod.kin hm.kp (thn (ha.run pos pins s1 σ H1 _ I1 q) fun us s2 ⟨vs, H2, I2, r, q2⟩ => ⟨I2.kIn, ?_⟩) hst hpl)
  exact run_fnS (us := .ref a :: us) (vs := .ref a :: vs) F hr hb (hx σ) I2 (.cons rfl r) q2
def tMakeS (C : Addr) (sp : Sp) (E : L2.St → XK) (t : TA) : TE := fun σ H Q => t σ H fun vs H1 => ∀ x dx, H1 x = none → H1 dx = none → dx ≠ x →
  sp (.ref x :: vs) (upd (upd H1 dx (.own x)) x (.ins C dx [])) (fun v H2 => v = .non ∧ Q (.ref x) H2) (E σ)
theorem pe_makeS (M : Mk X.K C f) (F : FnOk X.prog X.w X.K X.mg X.base CX k f fd ps sp) (hr : Room (k + 1) X.A) (hg : Gl X x) (hm : X.mg x = some (.ref C)) (hb : Binds X.K fd ps []) (hx : ∀ σ, PassesAt CX X σ (E σ)) (ha : PA X (e :: es) t)
    (hdb : (x == ("__debug__" : Str)) = false := by decide) (he : starEach (e :: es) X.env = (false, eval e X.env) :: starEach es X.env := by rfl) (hpl : (backTo pos (starEach es X.env)).any (·.1) = false := by rfl) :
    PE X (.Call (.Name x p) (e :: es) [] pos) (tMakeS C sp E t) := by
  refine ⟨fun pins s σ H Q I h => ?_⟩
  refine wpAny_Call_Name_kw (ld_glob I hg hm ?_ hdb)
  refine PySem.W.callWith_K (h₀ := X.base) I.ok.mod.kin M.kp (thn (ha.run pos pins s σ H _ I h) fun us s1 ⟨vs, H1, I1, r, q⟩ => ⟨I1.kIn, ?_⟩) he hpl
  have n := s1.heap.objs.size
  have q2 := q (s1.heap.objs.size + 1) s1.heap.objs.size (I1.hok.fresh (Nat.le_succ _)) (I1.hok.fresh (Nat.le_refl _)) (Nat.ne_of_lt (Nat.lt_succ_self _))
  have I2 := Inv.made (C := C) I1
  have r2 : Vals (V.ref (s1.heap.objs.size + 1) :: vs) (Value.ref (s1.heap.objs.size + 1) :: us) := .cons rfl r
  have hl : (Value.ref (s1.heap.objs.size + 1) :: us).length = ps.length := r2.length.symm.trans (F.len _ _ _ _ q2)
  have b := hb _ (Value.ref (s1.heap.objs.size + 1) :: us) I2.kIn (by rw [List.append_nil]; exact hl)
  rw [List.append_nil] at b
  refine wpAny_call (make_map (f := f) I1.kIn M.makes M.init (beq_iff_eq.mp M.fn) (codeAny_mono (F.run _ X.stack _ _ ⟨Value.ref (s1.heap.objs.size + 1) :: us, []⟩ (Value.ref (s1.heap.objs.size + 1) :: us) _ _ (E σ) (hr.make C us []) (I2.env0.make C us []) b r2 q2) fun r s' hq' => ?_))
  cases r with
  | error er => exact hx σ pins _ _ er s' I2 hq'
  | ok fl =>
    cases fl with
    | ret u =>
      obtain ⟨v, H', I3, rv, ev, q3⟩ := I2.after hq'
      subst ev
      exact ⟨rv, ⟨V.ref (s1.heap.objs.size + 1), H', I3, rfl, q3⟩⟩
    | next => exact hq'.elim
    | brk => exact hq'.elim
    | cont => exact hq'.elim
end
/-! ### what may raise, by its name -/
structure CalX (P : Program) (w : World) (K : PySem.W.Frag) (mg : Str → Option Value) (base : Heap) (k : Nat) (x : Str) (sp : Sp) : Prop where
  ex : ∃ (f : Addr) (fd : FuncData) (ps : List Str), FnOk P w K mg base (L2.CX P w) k f fd ps sp ∧ mg x = some (.ref f) ∧ PySem.W.keepIn K (.ref f) = true ∧ Binds K fd ps []
structure MetX (P : Program) (w : World) (K : PySem.W.Frag) (mg : Str → Option Value) (base : Heap) (k : Nat) (C : Addr) (m : Str) (sp : Sp) (kn : Str) : Prop where
  ex : ∃ (f : Addr) (fd : FuncData) (ps : List Str), Cls K C ∧ Meth K C m f ∧ FnOk P w K mg base (L2.CX P w) k f fd ps sp ∧ Binds K fd ps [] ∧ KBn K fd ps 1 [kn] (fun us ws => us ++ ws) (fun vs zs => vs ++ zs)
structure MakX (P : Program) (w : World) (K : PySem.W.Frag) (mg : Str → Option Value) (base : Heap) (k : Nat) (x : Str) (C : Addr) (sp : Sp) (dv : V) (kn : Str) : Prop where
  ex : ∃ (f : Addr) (fd : FuncData) (ps : List Str) (ds : List Value), Mk K C f ∧ FnOk P w K mg base (L2.CX P w) k f fd ps sp ∧ mg x = some (.ref C) ∧ Binds K fd ps [] ∧ Binds K fd ps ds ∧ Vals [dv] ds ∧ KBn K fd ps 1 [kn] (fun us ws => us ++ ws) (fun vs zs => vs ++ zs)
section
variable {X : Cx} {k j : Nat} {C : Addr} {x m kn : Str} {sp : Sp} {p pos apos kpos : Pos} {e o : Expr} {es : List Expr} {ta : TE} {t : TA} {W : WX} {E : XK}
theorem pe_cX (c : CalX X.prog X.w X.K X.mg X.base k x sp) (tk : Takes X (fun cls d _ H => E cls d H)) (hr : Room j X.A) (hk : k ≤ j) (hg : Gl X x) (ha : PA X (e :: es) t)
    (hdb : (x == ("__debug__" : Str)) = false := by decide) (he : starEach (e :: es) X.env = (false, eval e X.env) :: starEach es X.env := by rfl) (hpl : (backTo pos (starEach es X.env)).any (·.1) = false := by rfl) :
    PE X (.Call (.Name x p) (e :: es) [] pos) (tCall sp [] E t) := by
  obtain ⟨f, fd, ps, F, hm, kp, b⟩ := c.ex
  exact pe_call F (hr.mono hk) hg hm kp b .nil (passes_call tk fun _ _ _ _ h => h) ha hdb he hpl
/-- where nothing is let out -/
theorem pe_mtX {pl : Sem Bool} (c : MetX X.prog X.w X.K X.mg X.base k C m sp kn) (hr : Room j X.A) (hk : k ≤ j) (he : PE X o ta) (ha : PA X (e :: es) t)
    (hst : starEach (e :: es) X.env = (false, eval e X.env) :: starEach es X.env := by rfl) (hpl : (backTo pos (starEach es X.env)).any (·.1) = false := by rfl)
    (ht : eval (.Call (.Attribute o m apos) (e :: es) [] pos) X.env = (do
      let ov ← eval o X.env
      standAt apos.atName
      let (f, first) ← holding [ov] (getMethod ov m pl)
      callWith pos f first (backTo pos (starEach (e :: es) X.env)) (backToKw pos (keywordEach [] X.env))) := by rfl) :
    PE X (.Call (.Attribute o m apos) (e :: es) [] pos) (tMeth C m sp [] E0 ta t) := by
  obtain ⟨f, fd, ps, hc, hm, F, b, _⟩ := c.ex
  exact pe_meth (pl := pl) he hc hm F (hr.mono hk) b .nil passL ha hst hpl ht
theorem pe_mkX {dv : V} (c : MakX X.prog X.w X.K X.mg X.base k x C sp dv kn) (hr : Room j X.A) (hk : k + 1 ≤ j) (hg : Gl X x) (ha : PA X (e :: es) t)
    (hdb : (x == ("__debug__" : Str)) = false := by decide) (he : starEach (e :: es) X.env = (false, eval e X.env) :: starEach es X.env := by rfl) (hpl : (backTo pos (starEach es X.env)).any (·.1) = false := by rfl) :
    PE X (.Call (.Name x p) (e :: es) [] pos) (tMake C sp [] E0 t) := by
  obtain ⟨f, fd, ps, ds, M, F, hm, b, _⟩ := c.ex
  exact pe_make M F (hr.mono hk) hg hm b .nil passL ha hdb he hpl
theorem pe_mkX0 {dv : V} (c : MakX X.prog X.w X.K X.mg X.base k x C sp dv kn) (hr : Room j X.A) (hk : k + 1 ≤ j) (hg : Gl X x) (hdb : (x == ("__debug__" : Str)) = false := by decide) :
    PE X (.Call (.Name x p) [] [] pos) (tMake C sp [dv] E0 tNil) := by
  obtain ⟨f, fd, ps, ds, M, F, hm, _, b, d, _⟩ := c.ex
  exact pe_make0 M F (hr.mono hk) hg hm b d passL hdb
/-- o.m(k = e) -/
def tMethK (C : Addr) (m : Str) (sp : Sp) (ta te : TE) : TE := fun σ H Q => ta σ H fun x H1 => ∃ a dx fs, x = .ref a ∧ H1 a = some (.ins C dx fs) ∧ fs.lookup m = none ∧ te σ H1 fun y H2 => sp [x, y] H2 Q E0
theorem pe_mtK {pl : Sem Bool} (c : MetX X.prog X.w X.K X.mg X.base k C m sp kn) (hr : Room j X.A) (hk : k ≤ j) (he : PE X o ta) {te : TE} (ha : PE X e te)
    (hall : (backToKw pos (keywordEach [⟨some kn, e, kpos⟩] X.env)).all (·.1.isSome) = true := by rfl) (hks : (backToKw pos (keywordEach [⟨some kn, e, kpos⟩] X.env)).filterMap (·.1) = [kn] := by rfl)
    (hpl : ((backTo pos (starEach [] X.env)).any (·.1) || (backToKw pos (keywordEach [⟨some kn, e, kpos⟩] X.env)).any (·.1.isNone)) = false := by rfl)
    (ht : eval (.Call (.Attribute o m apos) [] [⟨some kn, e, kpos⟩] pos) X.env = (do
      let ov ← eval o X.env
      standAt apos.atName
      let (f, first) ← holding [ov] (getMethod ov m pl)
      callWith pos f first (backTo pos (starEach [] X.env)) (backToKw pos (keywordEach [⟨some kn, e, kpos⟩] X.env))) := by rfl) :
    PE X (.Call (.Attribute o m apos) [] [⟨some kn, e, kpos⟩] pos) (tMethK C m sp ta te) := by
  obtain ⟨f, fd, ps, hc, hm, F, _, kb⟩ := c.ex
  have hr2 := hr.mono hk
  refine ⟨fun pins s σ H Q I h => ?_⟩
  refine PySem.W.methodCall_KW (pl := pl) (thn (he.run pins s σ H _ I h) fun u s1 ⟨y, H1, I1, ry, a, dx, fs, ey, ea, l, q⟩ => ?_) ht
  subst ey
  obtain rfl : u = Value.ref a := ry
  refine getmeth_ok I1 ea hc hm l (PySem.W.callWith_KW0 (first := [.ref a]) (h₀ := X.base) I1.ok.mod.kin hm.kp hall ?_ hpl)
  refine thn ((pk_cons ha pk_nil).run pos pins s1 σ H1 (fun zs H2 => ∃ z, zs = [z] ∧ sp [.ref a, z] H2 Q E0) I1 ?_) fun ws s2 ⟨zs, H2, I2, rz, z, ez, q2⟩ => ⟨I2.kIn, ?_⟩
  · have e : (fun v H1 => tNil σ H1 fun vs H2 => ∃ z, v :: vs = [z] ∧ sp [.ref a, z] H2 Q E0) = fun (y : V) H2 => sp [.ref a, y] H2 Q E0 := by
      funext v H1
      refine propext ⟨fun ⟨x, e, q⟩ => ?_, fun q => ⟨v, rfl, q⟩⟩
      cases e
      exact q
    show te σ H1 (fun v H1 => tNil σ H1 fun vs H2 => ∃ z, v :: vs = [z] ∧ sp [.ref a, z] H2 Q E0)
    rw [e]
    exact q
  · subst ez
    rw [hks]
    have r2 : Vals [V.ref a, z] (Value.ref a :: ws) := .cons rfl rz
    have hb := kb.to s2 [.ref a] ws I2.kIn rfl rz.length.symm
    refine wpAny_call (codeAny_mono (F.run X.A X.stack s2 H2 ⟨[.ref a], [kn].zip ws⟩ (Value.ref a :: ws) [.ref a, z] Q E0 hr2 I2.env0 hb r2 q2) fun r s' hq => ?_)
    cases r with
    | error er => exact passL pins σ H2 s2 er s' I2 hq
    | ok fl =>
      cases fl with
      | ret u => exact I2.after hq
      | next => exact hq.elim
      | brk => exact hq.elim
      | cont => exact hq.elim
/-- within try -/
theorem pe_mtS {pl : Sem Bool} (c : MetX X.prog X.w X.K X.mg X.base k C m sp kn) (tk : Takes X W) (hr : Room j X.A) (hk : k ≤ j) (he : PE X o ta) (ha : PA X (e :: es) t)
    (hst : starEach (e :: es) X.env = (false, eval e X.env) :: starEach es X.env := by rfl) (hpl : (backTo pos (starEach es X.env)).any (·.1) = false := by rfl)
    (ht : eval (.Call (.Attribute o m apos) (e :: es) [] pos) X.env = (do
      let ov ← eval o X.env
      standAt apos.atName
      let (f, first) ← holding [ov] (getMethod ov m pl)
      callWith pos f first (backTo pos (starEach (e :: es) X.env)) (backToKw pos (keywordEach [] X.env))) := by rfl) :
    PE X (.Call (.Attribute o m apos) (e :: es) [] pos) (tMethS C m sp (WE W) ta t) := by
  obtain ⟨f, fd, ps, hc, hm, F, b, _⟩ := c.ex
  exact pe_methS (pl := pl) he hc hm F (hr.mono hk) b (fun σ => passAt tk σ) ha hst hpl ht
theorem pe_mkS {dv : V} (c : MakX X.prog X.w X.K X.mg X.base k x C sp dv kn) (tk : Takes X W) (hr : Room j X.A) (hk : k + 1 ≤ j) (hg : Gl X x) (ha : PA X (e :: es) t)
    (hdb : (x == ("__debug__" : Str)) = false := by decide) (he : starEach (e :: es) X.env = (false, eval e X.env) :: starEach es X.env := by rfl) (hpl : (backTo pos (starEach es X.env)).any (·.1) = false := by rfl) :
    PE X (.Call (.Name x p) (e :: es) [] pos) (tMakeS C sp (WE W) t) := by
  obtain ⟨f, fd, ps, ds, M, F, hm, b, _⟩ := c.ex
  exact pe_makeS M F (hr.mono hk) hg hm b (fun σ => passAt tk σ) ha hdb he hpl
end
/-! ### BadBox -/
def spBad (C : Addr) : Sp := fun vs H Q _ => ∃ (a : Addr) (y : V), vs = [.ref a, y] ∧ H a = some (exo a C none) ∧ ∀ d, H d = none → d ≠ a → Q .non (upd (upd H d (exd d [("contents", y)])) a (exo a C (some d)))
structure BadT (K : PySem.W.Frag) (mg : Str → Option Value) (C : Addr) : Prop where
  ox : OexC K C
  xf : XfC K C
  no : PySem.W.findIn K (.ref C) "contents" = some none
  g : mg "BadBox" = some (.ref C)
  te : PySem.W.exmOne K (.ref C) (.ref C) = some true
structure BadC (P : Program) (w : World) (K : PySem.W.Frag) (mg : Str → Option Value) (base : Heap) (C : Addr) : Prop where
  t : BadT K mg C
  ini : ∃ (f : Addr) (fd : FuncData), PySem.W.findIn K (.ref C) "__init__" = some (some (.ref f)) ∧ PySem.W.typeIn K (.ref f) = some (.type "function") ∧ FnOk P w K mg base C8.CX0 1 f fd ["self", "contents"] (spBad C) ∧ Binds K fd ["self", "contents"] []
theorem exm_me {K : PySem.W.Frag} {C : Addr} (h1 : PySem.W.subIn K (.ref C) (.type "BaseException") = some true) (h2 : PySem.W.isClsIn K C = true) (h3 : PySem.W.typeIn K (.ref C) = some (.type "type")) (h4 : PySem.W.subIn K (.ref C) (.ref C) = some true) :
    PySem.W.exmOne K (.ref C) (.ref C) = some true := by
  unfold PySem.W.exmOne
  rw [h1, if_pos (by decide)]
  have h2' : (PySem.W.clsIn K C).isSome = true := h2
  unfold PySem.W.kitCls
  dsimp only
  rw [h2', h3]
  exact h4
theorem pmk_bad {X : Cx} {C : Addr} {j : Nat} {e : Expr} {ta : TA} {p pos : Pos} (B : BadC X.prog X.w X.K X.mg X.base C) (hr : Room j X.A) (hk : 2 ≤ j) (hg : Gl X "BadBox") (ha : PA X [e] ta)
    (he : starEach [e] X.env = (false, eval e X.env) :: starEach [] X.env := by rfl) (hpl : (backTo pos (starEach [] X.env)).any (·.1) = false := by rfl) :
    PMk X (.Call (.Name "BadBox" p) [e] [] pos) (tMkO C (spBad C) [] ta) := by
  obtain ⟨f, fd, h1, h2, F, b⟩ := B.ini
  exact pmk_oex B.t.ox h1 h2 F (hr.mono hk) b .nil (fun _ _ _ _ _ _ _ z => z.elim) hg B.t.g ha (by decide) he hpl
theorem bad_ok {C a : Addr} {y : V} {H1 : Hp} {Q E : XK} (na : H1 a = none) (h : ∀ H' d, Same H1 H' → H1 d = none → H' d = some (.xd [("contents", y)]) → Q (.ref C) (some d) H') :
    spBad C [.ref a, y] (upd H1 a (exo a C none)) (fun v H2 => v = .non ∧ ∃ (d : Addr) (fs : List (Str × V)), H2 a = some (exo a C (some d)) ∧ H2 d = some (exd d fs) ∧ H1 d = none ∧ Q (.ref C) (some d) (upd (del H2 a) d (.xd fs))) E := by
  refine ⟨a, y, rfl, upd_same, fun d hd hda => ⟨rfl, d, [("contents", y)], upd_same, (upd_ne hda).trans upd_same, ?_, ?_⟩⟩
  · rw [upd_ne hda] at hd
    exact hd
  · rw [upd_ne hda] at hd
    refine h _ d (fun b o e => ?_) hd upd_same
    have n1 : b ≠ a := ne_of_none e na
    have n2 : b ≠ d := ne_of_none e hd
    rw [upd_ne n2, del_ne n1, upd_ne n1, upd_ne n2, upd_ne n1]
    exact e
def conB : V → Bool
  | .str z => decide (z = sb (mem z))
  | _ => false
theorem conB_str {z : Str} (h : conB (.str z) = true) : IsC z := ⟨_, of_decide_eq_true h⟩
theorem conB_isC {z : Str} (h : IsC z) : conB (.str z) = true := decide_eq_true h.eq
def spCheckX (K : PySem.W.Frag) (C : Addr) : Sp := fun vs H Q E => ∃ x : V, vs = [x] ∧ Thing K H x ∧ (conB x = true → ∀ H', Same H H' → Q x H') ∧
  (conB x = false → ∀ H' d, Same H H' → H d = none → H' d = some (.xd [("contents", x)]) → E (.ref C) (some d) H')
def spBecomeX (K : PySem.W.Frag) (CB C : Addr) : Sp := fun vs H Q E => ∃ (a : Addr) (y : Str) (x : V), vs = [.ref a, x] ∧ BoxAt CB H a y ∧ Thing K H x ∧ (∀ z, x = .str z → IsC z → ∀ H', Bar a H H' → BoxAt CB H' a z → Q .non H') ∧
  (conB x = false → ∀ H' d, Same H H' → H d = none → H' d = some (.xd [("contents", x)]) → E (.ref C) (some d) H')
def spInitX (K : PySem.W.Frag) (CB C : Addr) : Sp := fun vs H Q E => ∃ (a dx : Addr) (x : V), vs = [.ref a, x] ∧ H a = some (.ins CB dx []) ∧ Thing K H x ∧ (∀ z, x = .str z → IsC z → ∀ H', Bar a H H' → BoxAt CB H' a z → Q .non H') ∧
  (conB x = false → ∀ H' d, Same H H' → H d = none → H' d = some (.xd [("contents", x)]) → E (.ref C) (some d) H')
theorem thing_isC {K : PySem.W.Frag} {H : Hp} {z : Str} (h : IsC z) : Thing K H (.str z) := .inl ⟨z, rfl, Nat.le_trans h.len (by decide)⟩
theorem fund_okX {P : Program} {w : World} {K : PySem.W.Frag} {mg : Str → Option Value} {base : Heap} {x qual : Str} {params : Arguments} {body : List Stmt} {scope : Scope} {dvs : List V} {kws : List (Str × V)} {f : Addr} {fd : FuncData} {N ps : List Str} {k : Nat} {sp : Sp}
    (F : FunD K x qual params body scope dvs kws f fd) (S : FnScope N ps scope) (len : ∀ vs H Q E, sp vs H Q E → vs.length = ps.length)
    (hbody : ∀ (cdv : Value) (A : Around) (outer : List Env) (s : Shared) (H : Hp) (vs : List V) (Q : VK) (E : XK), Room k (A.deeper (envOfC qual scope s.heap.objs.size f cdv)) → sp vs H Q E →
      ∃ t, PSs (cxOf (L2.CX P w) P w K mg base N qual scope f cdv A outer s H E) body t ∧ t { nx := fun _ H' => Q .non H', rt := Q } (start N vs) H) : FnOk P w K mg base (L2.CX P w) (k + 1) f fd ps sp := by
  obtain ⟨oc, od, dV, kV, doc, pm, an, cdv, ct, osl, rfl, lk, hcd, _⟩ := F.ex
  exact fn_of lk hcd S len fun A outer s H vs Q E hr hsp => hbody cdv A outer s H vs Q E hr hsp
theorem fun_kb {K : PySem.W.Frag} {x qual : Str} {st : Stmt} {f : Addr} {fd : FuncData} {ps ks : List Str} (F : L2.Fun K x qual st f fd)
    (h : ∀ (kV doc pm : Value) (an : Option Addr) (cdv ct : Value) (us ws : List Value), us.length = 1 → ws.length = ks.length → bindArgs (PySem.W.fnOf x qual (defArgs st) (defBody st) (defScope st) .none kV doc pm an cdv ct) ⟨us, ks.zip ws⟩ = pure (ps.zip (us ++ ws))) :
    KBn K fd ps 1 ks (fun us ws => us ++ ws) (fun vs zs => vs ++ zs) := by
  obtain ⟨oc, od, kV, doc, pm, an, cdv, ct, osl, rfl, lk, hcd⟩ := F.ex
  exact ⟨fun s us ws X l1 l2 => BindsTo.of_eq (h kV doc pm an cdv ct us ws l1 l2), fun r1 r2 => r1.append r2⟩
end WB

set_option Elab.async false
set_option linter.all false
set_option maxRecDepth 100000
set_option maxHeartbeats 4000000
namespace WB
open PySem L2 PyProof.Rows
/-! ### contents, sign by sign -/
theorem sorted_eq : ∀ {l m : List Nat}, l.Pairwise (· < ·) → m.Pairwise (· < ·) → (∀ c, c ∈ l ↔ c ∈ m) → l = m
  | [], [], _, _, _ => rfl
  | [], b :: m, _, _, h => absurd ((h b).mpr List.mem_cons_self) List.not_mem_nil
  | a :: l, [], _, _, h => absurd ((h a).mp List.mem_cons_self) List.not_mem_nil
  | a :: l, b :: m, h1, h2, h => by
    obtain ⟨a1, a2⟩ := List.pairwise_cons.mp h1
    obtain ⟨b1, b2⟩ := List.pairwise_cons.mp h2
    have e : a = b := by
      rcases List.mem_cons.mp ((h a).mp List.mem_cons_self) with e | q
      · exact e
      · rcases List.mem_cons.mp ((h b).mpr List.mem_cons_self) with e | r
        · exact e.symm
        · have := b1 a q
          have := a1 b r
          omega
    subst e
    refine congrArg (a :: ·) (sorted_eq a2 b2 fun c => ⟨fun hc => ?_, fun hc => ?_⟩)
    · rcases List.mem_cons.mp ((h c).mp (List.mem_cons_of_mem _ hc)) with e | q
      · have := a1 c hc
        omega
      · exact q
    · rcases List.mem_cons.mp ((h c).mpr (List.mem_cons_of_mem _ hc)) with e | q
      · have := b1 c hc
        omega
      · exact q
theorem mk_sorted : mk.Pairwise (· < ·) := by decide +kernel
/-- the sign at i is a mark, and it comes behind the one ahead of it -/
def GoodAt (l : List Nat) (i : Nat) : Prop := ∃ c, l[i]? = some c ∧ c ∈ mk ∧ (0 < i → ∃ b, l[i - 1]? = some b ∧ b < c)
theorem good_sorted : ∀ {l : List Nat}, (∀ i, i < l.length → GoodAt l i) → l.Pairwise (· < ·) := by
  intro l h
  rw [List.pairwise_iff_getElem]
  intro i j hi hj hij
  induction j with
  | zero => omega
  | succ j ih =>
    obtain ⟨c, h1, _, h2⟩ := h (j + 1) hj
    obtain ⟨b, h3, h4⟩ := h2 (Nat.succ_pos _)
    have hj' : j < l.length := Nat.lt_of_succ_lt hj
    have e1 : l[j + 1] = c := (List.getElem?_eq_some_iff.mp h1).2
    have e2 : l[j] = b := by
      have : l[j]? = some b := h3
      exact (List.getElem?_eq_some_iff.mp this).2
    by_cases q : i = j
    · subst q
      rw [e1, e2]
      exact h4
    · have := ih hj' (by omega)
      omega
theorem conB_yes {z : Str} (h : ∀ i, i < z.cps.toList.length → GoodAt z.cps.toList i) : conB (.str z) = true := by
  have e : z.cps.toList = mk.filter (mem z) := sorted_eq (good_sorted h) (mk_sorted.filter _) fun c => by
    rw [List.mem_filter]
    refine ⟨fun hc => ⟨?_, decide_eq_true hc⟩, fun hc => of_decide_eq_true hc.2⟩
    obtain ⟨i, hi, e⟩ := List.getElem_of_mem hc
    obtain ⟨d, h1, h2, _⟩ := h i hi
    rw [List.getElem?_eq_getElem hi, e] at h1
    cases h1
    exact h2
  exact decide_eq_true ((SX.S_tl z).symm.trans (congrArg S e))
theorem conB_good {z : Str} (h : conB (.str z) = true) {i : Nat} (hi : i < z.cps.toList.length) : GoodAt z.cps.toList i := by
  have hz := conB_str h
  have hs : z.cps.toList.Pairwise (· < ·) := by
    obtain ⟨p, rfl⟩ := hz
    exact mk_sorted.filter _
  refine ⟨z.cps.toList[i], List.getElem?_eq_getElem hi, isC_sub hz (List.getElem_mem hi), fun h0 => ?_⟩
  have hi' : i - 1 < z.cps.toList.length := by omega
  exact ⟨z.cps.toList[i - 1], List.getElem?_eq_getElem hi', List.pairwise_iff_getElem.mp hs _ _ hi' hi (by omega)⟩
theorem conB_noStr {K : PySem.W.Frag} {H : Hp} {x : V} (h : NoStr K H x) : conB x = false := by
  cases x with
  | str y =>
    obtain ⟨t, ty, k⟩ := h
    cases ty with
    | base b =>
      cases b
      exact absurd k (by decide +kernel)
  | non => rfl
  | bl b => rfl
  | int i => rfl
  | byt b => rfl
  | flt b => rfl
  | ref a => rfl
  | ty n => rfl
/-! ### plain values -/
def SmallS (z : Str) : Prop := z.length ≤ 300 ∧ ∀ c ∈ z.cps.toList, c < 1000
theorem small_cut {z : Str} {lo hi : Option Int} (h : SmallS z) : SmallS (cutS z lo hi) := ⟨cut_len h.1, fun c hc => h.2 c (List.mem_of_mem_drop (List.mem_of_mem_take hc))⟩
theorem small_isC {z : Str} (h : IsC z) : SmallS z := ⟨Nat.le_trans h.len (by decide), fun c hc => mk_small c (isC_sub h hc)⟩
def PlainAt (p : Addr) (H : Hp) (x : V) : Prop :=
  (x = .non ∨ (∃ b, x = .bl b) ∨ (∃ i, x = .int i ∧ i.natAbs.log2 < 1000)) ∨ (∃ z, x = .str z ∧ SmallS z) ∨
  (∃ (l : Addr) (zs : List Str), x = .ref l ∧ l ≠ p ∧ (H l = some (.lst (zs.map V.str)) ∨ H l = some (.tup (zs.map V.str))) ∧ zs.length ≤ 2 ∧ ∀ z ∈ zs, SmallS z)
theorem PlainAt.mono {p : Addr} {H H' : Hp} {x : V} (h : PlainAt p H x) (k : ∀ l o, x = .ref l → l ≠ p → H l = some o → (∀ C dx fs, o ≠ .ins C dx fs) → H' l = some o) : PlainAt p H' x := by
  rcases h with h | h | ⟨l, zs, e, n, q, h⟩
  · exact .inl h
  · exact .inr (.inl h)
  · refine .inr (.inr ⟨l, zs, e, n, ?_, h⟩)
    rcases q with q | q
    · exact .inl (k l _ e n q fun _ _ _ z => by cases z)
    · exact .inr (k l _ e n q fun _ _ _ z => by cases z)
theorem PlainAt.same {p : Addr} {H H' : Hp} {x : V} (h : PlainAt p H x) (s : Same H H') : PlainAt p H' x := h.mono fun l o _ _ e _ => s l o e
theorem PlainAt.bag {p : Addr} {H H' : Hp} {x : V} (h : PlainAt p H x) (s : Bar p H H') : PlainAt p H' x := h.mono fun l o _ n e _ => s l o n e
theorem PlainAt.box {p b C : Addr} {H H' : Hp} {x : V} {z : Str} (h : PlainAt p H x) (s : Bar b H H') (hb : BoxAt C H b z) : PlainAt p H' x := h.mono fun l o _ _ e no => s l o (fun q => by
  obtain ⟨dx, hb⟩ := hb
  rw [q, hb] at e
  exact no _ _ _ (Option.some.inj e).symm) e
theorem PlainAt.thing {K : PySem.W.Frag} {p : Addr} {H : Hp} {x : V} (h : PlainAt p H x) : Thing K H x := by
  rcases h with (rfl | ⟨b, rfl⟩ | ⟨i, rfl, _⟩) | ⟨z, rfl, hz⟩ | ⟨l, zs, rfl, _, q | q, _⟩
  · exact .inr noStr_non
  · exact .inr noStr_bl
  · exact .inr noStr_int
  · exact .inl ⟨z, rfl, Nat.le_trans hz.1 (by decide)⟩
  · exact .inr (noStr_lst q)
  · exact .inr (noStr_tup q)
theorem repr_len {z : Str} (h : SmallS z) : (reprText z).length ≤ 3002 := by
  have := StrLaws.reprText_len z fun c hc => Nat.lt_trans (h.2 c hc) (by decide)
  have := h.1
  omega
theorem showAll_strs : ∀ zs : List Str, PyData.showableAll (zs.map PyData.str) = true ∧ PyData.hasDictAll (zs.map PyData.str) = false ∧ PyData.depthAll (zs.map PyData.str) = 0 ∧ PyData.shownAll (zs.map PyData.str) = zs.map reprText
  | [] => ⟨rfl, rfl, rfl, rfl⟩
  | z :: r => by
    obtain ⟨h1, h2, h3, h4⟩ := showAll_strs r
    refine ⟨?_, ?_, ?_, ?_⟩
    · show (true && PyData.showableAll (r.map _)) = true
      rw [h1]
      rfl
    · show (false || PyData.hasDictAll (r.map _)) = false
      rw [h2]
      rfl
    · show max 0 (PyData.depthAll (r.map _)) = 0
      rw [h3]
      rfl
    · show reprText z :: PyData.shownAll (r.map _) = _
      rw [h4]
      rfl
theorem dp_all_strs {K : PySem.W.Frag} {H : Hp} : ∀ zs : List Str, DpAll K H (zs.map V.str) (zs.map PyData.str)
  | [] => .nil
  | z :: r => .cons (.str _) (dp_all_strs r)
theorem line_big : 20000 ≤ sizeLine := by decide
theorem textFrom_le : ∀ (ts : List Str) (k : Nat) (acc : Str), (textFrom k acc ts).length ≤ acc.length + piled ts
  | [], k, acc => Nat.le_refl _
  | t :: r, k, acc => by
    have ih := textFrom_le r (k + 1) (acc ++ (if k > 0 then ", " else "" : String) ++ t)
    rw [piled_cons]
    refine Nat.le_trans ih ?_
    rw [Str.length_append, Str.length_append]
    have : (Str.ofString (if k > 0 then ", " else "" : String)).length ≤ 2 := by
      split
      · decide +kernel
      · decide +kernel
    omega
theorem piled2 {ts : List Str} (h : ts.length ≤ 2) (hs : ∀ t ∈ ts, t.length ≤ 3002) : piled ts ≤ 6008 := by
  match ts, h, hs with
  | [], _, _ => exact Nat.zero_le _
  | [a], _, hs =>
    have := hs a List.mem_cons_self
    rw [piled_cons, piled_nil]
    omega
  | [a, b], _, hs =>
    have := hs a List.mem_cons_self
    have := hs b (List.mem_cons_of_mem _ List.mem_cons_self)
    rw [piled_cons, piled_cons, piled_nil]
    omega
theorem sum_piled : ∀ ts : List Str, (ts.map (·.length)).sum + ts.length * 2 ≤ piled ts
  | [] => Nat.le_refl _
  | t :: r => by
    have ih := sum_piled r
    rw [piled_cons]
    show (t.length + (r.map (·.length)).sum) + (r.length + 1) * 2 ≤ _
    omega
theorem text_len2 {ts : List Str} (h : ts.length ≤ 2) (hs : ∀ t ∈ ts, t.length ≤ 3002) : (listText ts).length ≤ sizeLine ∧ (tupleText ts).length ≤ sizeLine := by
  have hb := line_big
  have pl := piled2 h hs
  constructor
  · unfold listText
    rw [Str.length_append]
    have h1 := textFrom_le ts 0 "["
    have h2 : ("[" : Str).length = 1 := by decide +kernel
    have h3 : ("]" : Str).length = 1 := by decide +kernel
    omega
  · unfold tupleText
    rw [Str.length_append, Str.length_append]
    have h1 := StrLaws.join_length_le ", " ts
    have h2 : (", " : Str).length = 2 := by decide +kernel
    rw [h2] at h1
    have h3 := sum_piled ts
    have h4 : ("(" : Str).length = 1 := by decide +kernel
    have h5 : (Str.ofString (if ts.length == 1 then ",)" else ")" : String)).length ≤ 2 := by
      split
      · decide +kernel
      · decide +kernel
    omega
theorem PlainAt.data {K : PySem.W.Frag} {p : Addr} {H : Hp} {x : V} (h : PlainAt p H x) : ∃ d, Dp K H x d ∧ OkD d := by
  have two : ∀ {zs : List Str}, zs.length ≤ 2 → (∀ z ∈ zs, SmallS z) → OkD (.list (zs.map PyData.str)) ∧ OkD (.tuple (zs.map PyData.str)) := by
    intro zs hl hs
    obtain ⟨h1, h2, h3, h4⟩ := showAll_strs zs
    have tl := text_len2 (ts := zs.map reprText) (by rw [List.length_map]; exact hl) (fun t ht => by
      obtain ⟨z, hz, rfl⟩ := List.mem_map.mp ht
      exact repr_len (hs z hz))
    refine ⟨⟨h1, h2, ?_, .inr ?_⟩, ⟨h1, h2, ?_, .inr ?_⟩⟩
    · show PyData.depthAll _ + 1 ≤ 64
      rw [h3]
      decide
    · show (listText (PyData.shownAll _)).length ≤ _
      rw [h4]
      exact tl.1
    · show PyData.depthAll _ + 1 ≤ 64
      rw [h3]
      decide
    · show (tupleText (PyData.shownAll _)).length ≤ _
      rw [h4]
      exact tl.2
  rcases h with (rfl | ⟨b, rfl⟩ | ⟨i, rfl, hi⟩) | ⟨z, rfl, hz⟩ | ⟨l, zs, rfl, _, q | q, hl, hs⟩
  · exact ⟨_, .non, rfl, rfl, by decide, .inr (by decide +kernel)⟩
  · exact ⟨_, .bl b, rfl, rfl, by show 0 ≤ 64; decide, .inr (by cases b <;> decide +kernel)⟩
  · exact ⟨_, .int i, decide_eq_true (Nat.lt_trans hi (by decide)), rfl, by show 0 ≤ 64; decide, .inl ⟨i, rfl⟩⟩
  · exact ⟨_, .str z, rfl, rfl, by show 0 ≤ 64; decide, .inr (Nat.le_trans (repr_len hz) (by decide))⟩
  · exact ⟨_, .lst (SqL.of q) (dp_all_strs zs), (two hl hs).1⟩
  · exact ⟨_, .tup (SqT.of q) (dp_all_strs zs), (two hl hs).2⟩
end WB
namespace WB
open PySem L2 PyProof.Rows
theorem conB_ex {x : V} (h : conB x = true) : ∃ z, x = .str z ∧ IsC z := by
  cases x with
  | str y => exact ⟨y, rfl, conB_str h⟩
  | non => cases h
  | bl b => cases h
  | int i => cases h
  | byt b => cases h
  | flt b => cases h
  | ref a => cases h
  | ty n => cases h
def spStr (C : Addr) : Sp := fun vs H Q _ => ∃ (a : Addr) (z : Str), vs = [.ref a] ∧ BoxAt C H a z ∧ Q (.str z) H
def spThing : Sp := fun vs H Q _ => ∃ p q : Addr, vs = [.ref p] ∧ BagAt H p q ∧ ∀ H' x, Bar p H H' → BagAt H' p q → PlainAt p H' x → Q x H'
def spIsC (K : PySem.W.Frag) : Sp := fun vs H Q _ => ∃ x : V, vs = [x] ∧ Thing K H x ∧ ∀ H', Same H H' → Q (.bl (conB x)) H'
def spRaised (K : PySem.W.Frag) (C : Addr) : Sp := fun vs H Q _ => ∃ (a : Addr) (y : Str) (x : V), vs = [.ref a, x] ∧ BoxAt C H a y ∧ Thing K H x ∧
  ∀ H' l ts, H l = none → H' l = some (.lst ts) → ((∃ z, x = .str z ∧ IsC z ∧ ts = [] ∧ Bar a H H' ∧ BoxAt C H' a z) ∨ (conB x = false ∧ ts = [x] ∧ Same H H')) → Q (.ref l) H'
theorem isC_empty : IsC "" := ⟨fun _ => false, by decide +kernel⟩
theorem room70 {k : Nat} {A : Around} (r : Room k A) : A.units + 70 < cLine := by
  have := r.un
  omega
theorem init_ok {K : PySem.W.Frag} {C CB x dx : Addr} {z : Str} {H : Hp} {Q : VK} {E : XK} (hz : IsC z) (h : H x = some (.ins C dx [])) (q : ∀ H', Bar x H H' → BoxAt C H' x z → Q .non H') : spInitX K C CB [.ref x, .str z] H Q E :=
  ⟨x, dx, .str z, rfl, h, thing_isC hz, fun y e _ H' b hb => q H' b (by cases e; exact hb), fun hc => by rw [conB_isC hz] at hc; cases hc⟩
theorem become_ok {K : PySem.W.Frag} {C CB a : Addr} {y z : Str} {H : Hp} {Q : VK} {E : XK} (h : BoxAt C H a y) (hz : IsC z) (q : ∀ H', Bar a H H' → BoxAt C H' a z → Q .non H') : spBecomeX K C CB [.ref a, .str z] H Q E :=
  ⟨a, y, .str z, rfl, h, thing_isC hz, fun y e _ H' b hb => q H' b (by cases e; exact hb), fun hc => by rw [conB_isC hz] at hc; cases hc⟩
theorem seq_join {t1 t2 : TS} {D : Ends} {σ : L2.St} {H : Hp} (C : L2.St → Hp → Prop) (h1 : ∀ nx' : L2.St → Hp → Prop, (∀ σ' H', C σ' H' → nx' σ' H') → t1 { D with nx := nx' } σ H) (h2 : ∀ σ' H', C σ' H' → t2 D σ' H') : tSeq t1 t2 D σ H := h1 (t2 D) h2
end WB
namespace WB
open PySem L2 PyProof.Rows
def Sm (n : Nat) (z : Str) : Prop := z.length ≤ n ∧ ∀ c ∈ z.cps.toList, c < 1000 ∧ c ≠ 10
theorem mk_sm : ∀ c ∈ mk, c < 1000 ∧ c ≠ 10 := by decide +kernel
theorem Sm.cat {m n : Nat} {a b : Str} (ha : Sm m a) (hb : Sm n b) : Sm (m + n) (a ++ b) := by
  refine ⟨?_, fun c hc => ?_⟩
  · rw [Str.length_append]
    exact Nat.add_le_add ha.1 hb.1
  · have e : (a ++ b).cps.toList = a.cps.toList ++ b.cps.toList := by rw [Str.cps_append, Array.toList_append]
    rw [e] at hc
    rcases List.mem_append.mp hc with h | h
    · exact ha.2 c h
    · exact hb.2 c h
theorem Sm.line {m n : Nat} {a b : Str} (ha : Sm m a) (hb : Sm n b) (h : m + n ≤ 20000 := by decide) : a.length + b.length ≤ sizeLine := Nat.le_trans (Nat.add_le_add ha.1 hb.1) (Nat.le_trans h line_big)
theorem Sm.small {n : Nat} {z : Str} (h : Sm n z) (hn : n ≤ 300 := by decide) : SmallS z := ⟨Nat.le_trans h.1 hn, fun c hc => (h.2 c hc).1⟩
theorem Sm.cut {n : Nat} {z : Str} {lo hi : Option Int} (h : Sm n z) : Sm n (cutS z lo hi) := ⟨cut_len h.1, fun c hc => h.2 c (List.mem_of_mem_drop (List.mem_of_mem_take hc))⟩
theorem IsC.sm {z : Str} (h : IsC z) : Sm 52 z := ⟨h.len, fun c hc => mk_sm c (isC_sub h hc)⟩
theorem conB_bad {z : Str} {i : Nat} (hi : i < z.cps.toList.length) (h : ¬ GoodAt z.cps.toList i) : conB (.str z) = false := by
  cases c : conB (.str z) with
  | false => rfl
  | true => exact absurd (conB_good c hi) h
theorem lt_one {b c : Nat} : ([b] < [c]) ↔ b < c := by
  simp [List.cons_lt_cons_iff]
theorem letters : ("ABCDEFGHIJKLMNOPQRSTUVWXYZabcdefghijklmnopqrstuvwxyz" : Str).cps.toList = mk := by decide +kernel
end WB

set_option Elab.async false
set_option linter.all false
set_option maxRecDepth 100000
set_option maxHeartbeats 4000000
namespace WB
open PySem L2 PyProof.Rows
section
variable {X : Cx} {k j : Nat} {C : Addr} {x kn : Str} {sp : Sp} {p pos kpos : Pos} {e : Expr}
theorem pe_mkXK {dv : V} {te : TE} (c : MakX X.prog X.w X.K X.mg X.base k x C sp dv kn) (hr : Room j X.A) (hk : k + 1 ≤ j) (hg : Gl X x) (ha : PE X e te)
    (hall : (backToKw pos (keywordEach [⟨some kn, e, kpos⟩] X.env)).all (·.1.isSome) = true := by rfl) (hks : (backToKw pos (keywordEach [⟨some kn, e, kpos⟩] X.env)).filterMap (·.1) = [kn] := by rfl) (hdb : (x == ("__debug__" : Str)) = false := by decide)
    (hpl : ((backTo pos (starEach [] X.env)).any (·.1) || (backToKw pos (keywordEach [⟨some kn, e, kpos⟩] X.env)).any (·.1.isNone)) = false := by rfl) :
    PE X (.Call (.Name x p) [] [⟨some kn, e, kpos⟩] pos) (tMakeK C 0 1 sp (fun vs zs => vs ++ zs) E0 tNil (tCons te tNil)) := by
  obtain ⟨f, fd, ps, ds, M, F, hm, _, _, _, kb⟩ := c.ex
  exact pe_makeK0 M F (hr.mono hk) hg hm kb passL (pk_cons ha pk_nil) hall hks hdb hpl
end
/-! ### isinstance of a caught error that has its dict -/
def rIsEd (K : PySem.W.Frag) (D a : Addr) (cls : Value) (d : Option Addr) : List V → Hp → VK → Prop := fun xs H Q => ∃ (c : V) (cv : Value) (b : Bool) (dd : Addr) (fs : List (Str × V)), xs = [.ref a, c] ∧ cls = .ref D ∧ d = some dd ∧ H dd = some (.xd fs) ∧ (∀ u, RelV c u → u = cv) ∧ PySem.W.kitOne K (.ref D) cv = some b ∧ Q (.bl b) H
theorem call_isEd {X : Cx} {a D : Addr} {oe : Obj} {cls : Value} {d : Option Addr} {pn : List (Addr × Obj)} (T : ExcC X.K D) (hcl : (PySem.W.clsIn X.K D).isSome = true) (hz : Zc cls d oe) (hf : ∃ vs, oe.data = .fields vs) : CallR (X.suite a ((a, oe) :: pn)) (.builtin "isinstance") (rIsEd X.K D a cls d) := by
  intro pins s σ H xs us Q I r h
  obtain ⟨c, cv, b, dd, fs, rfl, rfl, rfl, ed, hcv, e, q⟩ := h
  cases r with
  | cons rx rr =>
    obtain ⟨u2, rfl, rt⟩ := vals_one rr
    cases rx
    obtain rfl := hcv _ rt
    obtain ⟨hget, _⟩ := I.pin (a, oe) (List.mem_append_left _ List.mem_cons_self)
    obtain ⟨vs, hv⟩ := hf
    obtain ⟨mA, hns, _⟩ := (show ObjOk X.prog X.w H s.heap dd (.xd fs) from I.hok dd _ ed)
    obtain ⟨od, ho, _⟩ := lookIn_ns hns
    have J : PySem.W.InstAt s.heap a oe D (some od) := ⟨hget, hz.1, by unfold PySem.W.notCls; rw [hv] <;> rfl, by rw [hz.2]; exact ho⟩
    exact PySem.W.kia_one (PySem.W.kitx_exc hcl T.hg T.hk T.hs T.ha T.hn T.ht T.hm) I.kIn J e (fun z => nomatch z) fun tk => ⟨.bl b, H, I.kept (t' := tk) fun _ _ z => z, rfl, q⟩
theorem kit_up {K : PySem.W.Frag} {C D : Addr} (h2 : PySem.W.isClsIn K D = true) (h3 : PySem.W.typeIn K (.ref D) = some (.type "type")) (h4 : PySem.W.subIn K (.ref C) (.ref D) = some true) : PySem.W.kitOne K (.ref C) (.ref D) = some true := by
  unfold PySem.W.kitOne
  split
  · rfl
  · have h2' : (PySem.W.clsIn K D).isSome = true := h2
    unfold PySem.W.kitCls
    dsimp only
    rw [h2', h3]
    exact h4
theorem kit_upT {K : PySem.W.Frag} {C : Addr} (h4 : PySem.W.subIn K (.ref C) (.type "ValueError") = some true) : PySem.W.kitOne K (.ref C) (.type "ValueError") = some true := by
  unfold PySem.W.kitOne
  rw [if_neg (by intro z; cases (beq_iff_eq.mp z))]
  unfold PySem.W.kitCls
  dsimp only
  rw [if_pos (by decide +kernel)]
  exact h4
theorem rel_ref {D : Addr} : ∀ u, RelV (.ref D) u → u = .ref D := fun _ r => r
theorem rel_ty {n : String} : ∀ u, RelV (.ty n) u → u = .type n := fun _ r => r
/-- what isinstance asks of BadBox -/
structure BadIs (K : PySem.W.Frag) (mg : Str → Option Value) (C W : Addr) : Prop where
  ex : ExcC K C
  cl : (PySem.W.clsIn K C).isSome = true
  gW : ∃ u, mg "WorkerworldsError" = some u ∧ RelV (.ref W) u
  kW : PySem.W.kitOne K (.ref C) (.ref W) = some true
  kV : PySem.W.kitOne K (.ref C) (.type "ValueError") = some true
def spRepr (C : Addr) : Sp := fun vs H Q _ => ∃ (a : Addr) (z : Str), vs = [.ref a] ∧ BoxAt C H a z ∧ z.length ≤ 1000 ∧ Q (.str ("Box(" ++ z ++ ")")) H
def spMade (K : PySem.W.Frag) (C : Addr) : Sp := fun vs H Q _ => ∃ x : V, vs = [x] ∧ Thing K H x ∧
  ∀ H' l ts, H l = none → H' l = some (.lst ts) → ((∃ z b, x = .str z ∧ IsC z ∧ ts = [.ref b] ∧ Same H H' ∧ BoxAt C H' b z) ∨ (conB x = false ∧ ts = [.non, x, .bl true] ∧ Same H H')) → Q (.ref l) H'
def spShows (C : Addr) : Sp := fun vs H Q _ => ∃ (b : Addr) (z : Str), vs = [.ref b, .str z] ∧ BoxAt C H b z ∧ IsC z ∧ Q (.bl true) H
end WB

set_option Elab.async false
set_option linter.all false
set_option maxRecDepth 100000
set_option maxHeartbeats 4000000
namespace WB
open PySem L2 PyProof.Rows
/-! ### C.m(..), m a static method -/
structure StatC (K : PySem.W.Frag) (mg : Str → Option Value) (Cn : Str) (C : Addr) (m : Str) (g : Addr) : Prop where
  gC : mg Cn = some (.ref C)
  rd : PySem.W.readsIn K C (.type "type") = true
  ga : PySem.W.specialIn K (.ref C) "__getattribute__" = some (some (.builtin "type.__getattribute__"))
  ex : ∃ (p : Addr) (rest : List Value), PySem.W.findCls K (.ref C) (.type "type") m = some (.get (.builtin "staticmethod.__get__") (.ref p) .none (.ref C)) ∧ PySem.W.recIn K p "staticmethod" = some (.ref g :: rest)
  kp : PySem.W.keepIn K (.ref g) = true
section
variable {X : Cx} {k j : Nat} {g C : Addr} {sp : Sp} {Cn m : Str} {e : Expr} {es : List Expr} {t : TA} {p1 apos pos : Pos}
theorem static_meth {pins : List (Addr × Obj)} {σ : L2.St} {H : Hp} {s : Shared} {pl : Sem Bool} {A : Around} {E : Value → Shared → Prop} {Q : Value × List Value → Shared → Prop} (sc : StatC X.K X.mg Cn C m g) (I : Inv X pins σ H s) (h : ∀ s', Inv X pins σ H s' → Q (.ref g, []) s') :
    wpAny (model X.prog X.w) A (getMethod (.ref C) m pl) Q E s := by
  obtain ⟨p, rest, h1, h2⟩ := sc.ex
  exact PySem.W.method_cls I.kIn sc.ga (PySem.W.cls_bind I.kIn sc.rd h1 (wpAny_call (PySem.W.sm_get (s := { s with toks := s.toks + 1 }) I.kIn h2 (PySem.W.handed_on rfl (h _ (I.tok _))))))
theorem pe_stat {pl : Sem Bool} (sc : StatC X.K X.mg Cn C m g) (F : FnR X.prog X.w X.K X.mg X.base CX0 k g sp) (hr : Room j X.A) (hk : k ≤ j) (hg : Gl X Cn) (ha : PA X (e :: es) t) (hdb : (Cn == ("__debug__" : Str)) = false := by decide)
    (hst : starEach (e :: es) X.env = (false, eval e X.env) :: starEach es X.env := by rfl) (hpl : (backTo pos (starEach es X.env)).any (·.1) = false := by rfl)
    (ht : eval (.Call (.Attribute (.Name Cn p1) m apos) (e :: es) [] pos) X.env = (do
      let ov ← eval (.Name Cn p1) X.env
      standAt apos.atName
      let (f, first) ← holding [ov] (getMethod ov m pl)
      callWith pos f first (backTo pos (starEach (e :: es) X.env)) (backToKw pos (keywordEach [] X.env))) := by rfl) :
    PE X (.Call (.Attribute (.Name Cn p1) m apos) (e :: es) [] pos) (fun σ H Q => t σ H fun vs H1 => sp vs H1 Q E0) := by
  refine ⟨fun pins s σ H Q I h => ?_⟩
  refine PySem.W.methodCall_KW (pl := pl) (ld_glob I hg sc.gC ?_ hdb) ht
  refine static_meth sc I fun s1 I1 => ?_
  refine PySem.W.callWith_K (first := []) (h₀ := X.base) I1.ok.mod.kin sc.kp (thn (ha.run pos pins s1 σ H _ I1 h) fun us s2 ⟨vs, H1, I2, r, q⟩ => ⟨I2.kIn, ?_⟩) hst hpl
  exact wpAny_call (run_fnR F (hr.mono hk) pass0 I2 r q)
theorem pe_stat0 {pl : Sem Bool} (sc : StatC X.K X.mg Cn C m g) (F : FnR X.prog X.w X.K X.mg X.base CX0 k g sp) (hr : Room j X.A) (hk : k ≤ j) (hg : Gl X Cn) (hdb : (Cn == ("__debug__" : Str)) = false := by decide)
    (ht : eval (.Call (.Attribute (.Name Cn p1) m apos) [] [] pos) X.env = (do
      let ov ← eval (.Name Cn p1) X.env
      standAt apos.atName
      let (f, first) ← holding [ov] (getMethod ov m pl)
      callWith pos f first (backTo pos (starEach [] X.env)) (backToKw pos (keywordEach [] X.env))) := by rfl) :
    PE X (.Call (.Attribute (.Name Cn p1) m apos) [] [] pos) (fun σ H Q => sp [] H Q E0) := by
  refine ⟨fun pins s σ H Q I h => ?_⟩
  refine PySem.W.methodCall_KW (pl := pl) (ld_glob I hg sc.gC ?_ hdb) ht
  refine static_meth sc I fun s1 I1 => ?_
  exact PySem.W.callWith_K0 (first := []) I1.kIn sc.kp (wpAny_call (run_fnR F (hr.mono hk) pass0 I1 .nil h))
end
/-! ### boxes joined -/
def joinC (zs : List Str) : Str := sb fun c => zs.any fun z => mem z c
def spJoin (C : Addr) : Sp := fun vs H Q _ => ∃ (p : Addr) (bs : List Addr) (zs : List Str), vs = [.ref p] ∧ H p = some (.tup (bs.map V.ref)) ∧ bs.length ≤ 1000 ∧ Boxes C H bs zs ∧ ∀ H' b, Same H H' → H b = none → BoxAt C H' b (joinC zs) → Q (.ref b) H'
def spJoinR (C : Addr) : Sp := fun vs H Q E => ∃ ws rest, vs = ws ++ rest ∧ ws.length = ([] : List Str).length ∧ rest.length ≤ sizeLine ∧ ∀ p, H p = none → spJoin C (ws ++ [V.ref p]) (upd H p (.tup rest)) Q E
theorem joinR_ok {C : Addr} {H : Hp} {Q : VK} {E : XK} {bs : List Addr} {zs : List Str} (hb : Boxes C H bs zs) (hl : bs.length ≤ 1000) (q : ∀ H' b, Same H H' → H b = none → BoxAt C H' b (joinC zs) → Q (.ref b) H') : spJoinR C (bs.map V.ref) H Q E := by
  refine ⟨[], bs.map V.ref, rfl, rfl, by rw [List.length_map]; exact Nat.le_trans hl (by decide), fun p hp => ?_⟩
  have s := same_new (o := .tup (bs.map V.ref)) hp
  exact ⟨p, bs, zs, rfl, upd_same, hl, hb.same s, fun H' b s' nb h => q H' b (s.trans s') (s.free nb) h⟩
def spJoinL (C : Addr) : Sp := fun vs H Q _ => ∃ (l : Addr) (bs : List Addr) (zs : List Str), vs = [.ref l] ∧ H l = some (.lst (bs.map V.ref)) ∧ bs.length ≤ 6 ∧ Boxes C H bs zs ∧ ∀ H' b, Same H H' → H b = none → BoxAt C H' b (joinC zs) → Q (.ref b) H'
def spCopied (C : Addr) : Sp := fun vs H Q _ => ∃ (a : Addr) (z : Str), vs = [.ref a] ∧ BoxAt C H a z ∧ IsC z ∧ ∀ H' b, Same H H' → H b = none → BoxAt C H' b z → Q (.ref b) H'
def spDueJ : Sp := fun vs H Q _ => ∃ (l : Addr) (zs : List Str), vs = [.ref l] ∧ H l = some (.lst (zs.map V.str)) ∧ zs.length ≤ 1000 ∧ ∀ H', Same H H' → Q (.str (joinC zs)) H'
theorem inV_bools {α : Type} (f : α → Bool) (zs : List α) : inV (.bl true) (zs.map fun z => V.bl (f z)) = zs.any f := by
  unfold inV
  rw [List.any_map]
  refine congrArg (fun g => zs.any g) (funext fun z => ?_)
  show eqV (V.bl (f z)) (V.bl true) = f z
  cases f z <;> decide +kernel
theorem flat_bools {α : Type} (f : α → Bool) (zs : List α) : (zs.map fun z => V.bl (f z)).all flatV = true := by
  rw [List.all_map]
  exact List.all_eq_true.mpr fun _ _ => rfl
theorem upd_snoc {H : Hp} {D : Addr} {ys : List V} {j : Nat} {y : V} (h : ys[j]? = some y) : upd (upd H D (.lst (ys.take j))) D (.lst (ys.take j ++ [y])) = upd H D (.lst (ys.take (j + 1))) := by
  rw [upd_upd, take_snoc h]
theorem take_small {ys : List V} {j n : Nat} (h : ys.length ≤ n) (hn : n ≤ 1000 := by decide) : (ys.take j).length < sizeLine := Nat.lt_of_le_of_lt (show (ys.take j).length ≤ ys.length by rw [List.length_take]; exact Nat.min_le_right _ _) (Nat.lt_of_le_of_lt (Nat.le_trans h hn) (by decide))
theorem join_step {zs : List Str} {i : Nat} {z : Str} (h : zs[i]? = some z) : (sb fun c => mem (sb fun c => (zs.take i).any fun z => mem z c) c || mem z c) = sb fun c => (zs.take (i + 1)).any fun z => mem z c := sb_ext fun c hc => by
  rw [mem_sb, decide_eq_true hc, Bool.true_and, take_snoc h, List.any_append, List.any_cons, List.any_nil, Bool.or_false]
theorem join_none : (sb fun c => (([] : List Str)).any fun z => mem z c) = "" := by decide +kernel
theorem lay_texts : ∀ zs : List Str, (∀ z ∈ zs, ∀ c ∈ z.cps.toList, c < 1000) → PyData.canLayAll0 (zs.map PyData.str) = true
  | [], _ => rfl
  | z :: r, h => by
    have ih := lay_texts r fun y hy => h y (List.mem_cons_of_mem _ hy)
    show (PyData.canLay0 (.str z) && PyData.canLayAll0 (r.map _)) = true
    rw [ih, Bool.and_true]
    show z.cps.all (fun c => decide (c < 0x110000)) = true
    rw [← Array.all_toList]
    exact List.all_eq_true.mpr fun c hc => decide_eq_true (Nat.lt_trans (h z List.mem_cons_self c hc) (by decide))
theorem shaped_texts {zs : List Str} (h : ∀ z ∈ zs, IsC z) : SeqAt.shaped (.list (zs.map PyData.str)) = true := by
  have e1 : PyData.canLay0 (.list (zs.map PyData.str)) = true := lay_texts zs fun z hz => (small_isC (h z hz)).2
  obtain ⟨_, _, h3, _⟩ := showAll_strs zs
  have e2 : PyData.depth (.list (zs.map PyData.str)) ≤ 64 := by
    show PyData.depthAll (zs.map _) + 1 ≤ 64
    rw [h3]
    decide
  unfold SeqAt.shaped
  rw [e1, decide_eq_true e2]
  rfl
theorem eqv_texts : ∀ zs : List Str, PyData.eqv (.list (zs.map PyData.str)) (.list (zs.map PyData.str)) = true := by
  have key : ∀ zs : List Str, PyData.eqvAll (zs.map PyData.str) (zs.map PyData.str) = true := by
    intro zs
    induction zs with
    | nil => rfl
    | cons z r ih =>
      show (PyData.eqv (.str z) (.str z) && PyData.eqvAll (r.map _) (r.map _)) = true
      rw [ih, Bool.and_true]
      show (z == z) = true
      exact beq_self_eq_true z
  exact key
theorem TwoAt.off {C : Addr} {H0 H : Hp} {p q tl bl x : Addr} {bs : List Addr} {zs : List Str} (h : TwoAt C H0 p q tl bl bs zs H) (nx : H x = none) : p ≠ x ∧ q ≠ x ∧ tl ≠ x ∧ bl ≠ x ∧ x ∉ bs ∧ H0 x = none := by
  refine ⟨(h.bag.there nx).symm, (h.bag.there2 nx).symm, ne_of_none h.t nx, ne_of_none h.b nx, ?_, h.sm.free nx⟩
  intro m
  obtain ⟨z, dx, e⟩ := h.bx.mem m
  rw [nx] at e
  cases e
theorem TwoAt.other {C : Addr} {H0 H H' : Hp} {p q tl bl x : Addr} {bs : List Addr} {zs : List Str} (h : TwoAt C H0 p q tl bl bs zs H) (e : Bar x H H') (n : p ≠ x ∧ q ≠ x ∧ tl ≠ x ∧ bl ≠ x ∧ x ∉ bs ∧ H0 x = none) : TwoAt C H0 p q tl bl bs zs H' :=
  ⟨same_bar h.sm n.2.2.2.2.2 e, h.bag.bar e n.1 n.2.1, e _ _ n.2.2.1 h.t, e _ _ n.2.2.2.1 h.b, h.bx.bar e n.2.2.2.2.1, h.ic⟩
theorem TwoAt.news {C : Addr} {H0 H H' : Hp} {p q tl bl x : Addr} {bs : List Addr} {zs : List Str} (h : TwoAt C H0 p q tl bl bs zs H) (w : Two C H0 p q tl bl bs) (n : p ≠ x ∧ q ≠ x ∧ tl ≠ x ∧ bl ≠ x ∧ x ∉ bs ∧ H0 x = none)
    (fr : ∀ b o, b ≠ x → b ∉ bs → H b = some o → H' b = some o) (hb : Boxes C H' bs zs) : TwoAt C H0 p q tl bl bs zs H' := by
  obtain ⟨n1, n2⟩ := h.bx.notin2 h.bag
  refine ⟨fun b o e => fr b o (ne_of_none e n.2.2.2.2.2) (fun m => ?_) (h.sm b o e), ?_, fr _ _ n.2.2.1 (h.bx.notin h.t) h.t, fr _ _ n.2.2.2.1 (h.bx.notin h.b) h.b, hb, h.ic⟩
  · rw [w.nbs b m] at e
    cases e
  · obtain ⟨c, s, i, ns, h1, h2, h3⟩ := h.bag
    exact ⟨c, s, i, ns, fr _ _ n.1 n1 h1, fr _ _ n.2.1 n2 h2, h3⟩
theorem getD_at {α : Type} {l : List α} {k : Nat} {d : α} (h : k < l.length) : l[k]? = some (l.getD k d) := by
  rw [List.getD_eq_getElem?_getD, List.getElem?_eq_getElem h]
  rfl
theorem Boxes.pick {C : Addr} {H : Hp} {bs : List Addr} {zs : List Str} (h : Boxes C H bs zs) {ks : List Nat} (hk : ∀ k ∈ ks, k < bs.length) : Boxes C H (ks.map fun k => bs.getD k 0) (ks.map fun k => zs.getD k "") := by
  refine ⟨by rw [List.length_map, List.length_map], fun i b z h1 h2 => ?_⟩
  obtain ⟨k, hki, rfl⟩ := map_from h1
  obtain ⟨k', hki', rfl⟩ := map_from h2
  rw [hki] at hki'
  cases hki'
  have hl := hk k (List.mem_of_getElem? hki)
  exact h.2 k _ _ (getD_at hl) (getD_at (by rw [← h.1]; exact hl))
end WB

set_option Elab.async false
set_option linter.all false
set_option maxRecDepth 100000
set_option maxHeartbeats 4000000
namespace WB
open PySem L2 PyProof.Rows
/-! ### a def that may raise, where it does not -/
theorem fnok_quiet {P : Program} {w : World} {K : PySem.W.Frag} {mg : Str → Option Value} {base : Heap} {k : Nat} {f : Addr} {fd : FuncData} {ps : List Str} {sp sp' : Sp} (F : FnOk P w K mg base (L2.CX P w) k f fd ps sp) (h : ∀ vs H Q E, sp' vs H Q E → sp vs H Q E0) :
    FnOk P w K mg base CX0 k f fd ps sp' := by
  refine ⟨fun vs H Q E q => F.len vs H Q E0 (h vs H Q E q), fun A outer s H args us vs Q E hr e0 hb r q => ?_⟩
  refine codeAny_mono (F.run A outer s H args us vs Q E0 hr e0 hb r (h vs H Q E q)) fun x s' hq => ?_
  cases x with
  | error e =>
    obtain ⟨_, _, _, _, _, _, _, _, _, _, _, _, z⟩ := (show L2.CX P w outer H s E0 e s' from hq)
    exact z.elim
  | ok fl =>
    cases fl with
    | ret u => exact hq
    | next => exact hq
    | brk => exact hq
    | cont => exact hq
theorem init_quiet {K : PySem.W.Frag} {C CB : Addr} (vs : List V) (H : Hp) (Q : VK) (E : XK) (h : spInit C vs H Q E) : spInitX K C CB vs H Q E0 := by
  obtain ⟨a, dx, z, rfl, ha, hz, k⟩ := h
  exact init_ok hz ha k
theorem become_quiet {K : PySem.W.Frag} {C CB : Addr} (vs : List V) (H : Hp) (Q : VK) (E : XK) (h : spBecome C vs H Q E) : spBecomeX K C CB vs H Q E0 := by
  obtain ⟨a, y, z, rfl, hb, hz, k⟩ := h
  exact become_ok hb hz k
/-! ### some of the marks -/
/-- contents out of the marks ms -/
def InM (ms : List Nat) (z : Str) : Prop := ∃ f : Nat → Bool, z = S (ms.filter f)
theorem InM.isC {ms : List Nat} {z : Str} (h : InM ms z) (hs : ms.Sublist mk) : IsC z := by
  obtain ⟨f, rfl⟩ := h
  exact isC_of (List.filter_sublist.trans hs)
def spMarks : Sp := fun vs H Q _ => ∃ p q : Addr, vs = [.ref p] ∧ BagAt H p q ∧ ∀ (H' : Hp) (l : Addr) (ms : List Nat), Bar p H H' → BagAt H' p q → H l = none → H' l = some (.lst (ms.map sg)) → ms.Sublist mk → ms.length ≤ 52 → Q (.ref l) H'
def spContM : Sp := fun vs H Q _ => ∃ (p q l : Addr) (ms : List Nat), vs = [.ref p, .ref l] ∧ BagAt H p q ∧ H l = some (.lst (ms.map sg)) ∧ ms.Sublist mk ∧ l ≠ p ∧ ∀ H' z, Bar p H H' → BagAt H' p q → InM ms z → Q (.str z) H'
/-- the signs 0, 1, 2, 3 -/
def gn (s : Nat) (x y : Bool) : Bool := if s = 0 then x || y else if s = 1 then x && y else if s = 2 then x && !y else x != y
def spDueM : Sp := fun vs H Q _ => ∃ (s : Nat) (a b : Str) (l : Addr) (ms : List Nat), vs = [.int (s : Nat), .str a, .str b, .ref l] ∧ s < 4 ∧ H l = some (.lst (ms.map sg)) ∧ ms.length ≤ 52 ∧ Q (.str (S (ms.filter fun c => gn s (mem a c) (mem b c)))) H
def spSignedN (C : Addr) : Sp := fun vs H Q _ => ∃ (s : Nat) (a b : Addr) (y z : Str), vs = [.int (s : Nat), .ref a, .ref b] ∧ s < 4 ∧ BoxAt C H a y ∧ BoxAt C H b z ∧ IsC y ∧ IsC z ∧
  ∀ H' c, Same H H' → H c = none → BoxAt C H' c (sb fun m => gn s (mem y m) (mem z m)) → Q (.ref c) H'
def spChangeN (C : Addr) : Sp := fun vs H Q _ => ∃ (s : Nat) (r a b : Addr) (k : Nat) (xs : List V) (y z : Str), vs = [.int (s : Nat), .ref r, .int (k : Nat), .ref b] ∧ s < 4 ∧ H r = some (.lst xs) ∧ xs[k]? = some (.ref a) ∧ BoxAt C H a y ∧ BoxAt C H b z ∧ IsC y ∧ IsC z ∧
  ∀ H', Bar a H H' → BoxAt C H' a (sb fun m => gn s (mem y m) (mem z m)) → Q .non H'
def spRefused (C : Addr) : Sp := fun vs H Q _ => ∃ (a : Addr) (y : Str), vs = [.ref a] ∧ BoxAt C H a y ∧ ∀ H', Same H H' → Q (.bl true) H'
/-- what is within ms, told over all the marks -/
theorem sb_in {ms : List Nat} (hs : ms.Sublist mk) {s : Nat} {y z : Str} (hy : InM ms y) (hz : InM ms z) : (sb fun c => gn s (mem y c) (mem z c)) = S (ms.filter fun c => gn s (mem y c) (mem z c)) := by
  unfold sb
  refine congrArg S ?_
  have e : ms = mk.filter fun c => decide (c ∈ ms) := sub_filter hs mk_nodup
  have out : ∀ c, c ∉ ms → mem y c = false ∧ mem z c = false := fun c hc => by
    obtain ⟨f, rfl⟩ := hy
    obtain ⟨g, rfl⟩ := hz
    exact ⟨decide_eq_false fun h => hc (List.mem_filter.mp h).1, decide_eq_false fun h => hc (List.mem_filter.mp h).1⟩
  have e2 : ms.filter (fun c => gn s (mem y c) (mem z c)) = mk.filter fun c => decide (c ∈ ms) && gn s (mem y c) (mem z c) := by
    conv => lhs; rw [e]
    rw [List.filter_filter]
    exact List.filter_congr fun c _ => Bool.and_comm _ _
  rw [e2]
  refine List.filter_congr fun c _ => ?_
  by_cases hc : c ∈ ms
  · rw [decide_eq_true hc, Bool.true_and]
  · rw [decide_eq_false hc, Bool.false_and, (out c hc).1, (out c hc).2]
    unfold gn
    split
    · rfl
    · split
      · rfl
      · split <;> rfl
theorem due_boolN {s : Nat} (hs : s < 4) (x y : Bool) :
    (((decide (V.int (s : Nat) = V.int 0) && decide ((0 : Int) < (if x then 1 else 0) + (if y then 1 else 0))) || ((decide (V.int (s : Nat) = V.int 1) && decide (V.int ((if x then 1 else 0) + (if y then 1 else 0)) = V.int 2)) || (decide (V.int (s : Nat) = V.int 3) && decide (V.int ((if x then 1 else 0) + (if y then 1 else 0)) = V.int 1)))) = (gn s x y && !decide (s = 2))) ∧
    ((decide (V.int (s : Nat) = V.int 2) && (x && !y)) = (gn s x y && decide (s = 2))) := by
  match s, hs with
  | 0, _ => cases x <;> cases y <;> decide +kernel
  | 1, _ => cases x <;> cases y <;> decide +kernel
  | 2, _ => cases x <;> cases y <;> decide +kernel
  | 3, _ => cases x <;> cases y <;> decide +kernel
end WB

set_option Elab.async false
set_option linter.all false
set_option maxRecDepth 100000
set_option maxHeartbeats 4000000
namespace WB
open PySem L2 PyProof.Rows
/-! ### a run of boxes under several names: who owns which text -/
structure Lay (H0 : Hp) (p q bl hl tl ml : Addr) : Prop where
  np : H0 p = none
  nb : H0 bl = none
  nh : H0 hl = none
  nt : H0 tl = none
  pb : bl ≠ p
  ph : hl ≠ p
  pt : tl ≠ p
  pm : ml ≠ p
  qb : bl ≠ q
  qh : hl ≠ q
  qt : tl ≠ q
  bh : bl ≠ hl
  bt : bl ≠ tl
  ht : hl ≠ tl
  mb : ml ≠ bl
  mh : ml ≠ hl
  mt : ml ≠ tl
structure Run (C : Addr) (H0 : Hp) (ms : List Nat) (p q bl hl tl ml : Addr) (ow : List Addr) (hs : List Nat) (zs : List Str) (H : Hp) : Prop where
  sm : Same H0 H
  bag : BagAt H p q
  b : H bl = some (.lst (hs.map fun h => V.ref (ow.getD h 0)))
  h : H hl = some (.lst (hs.map fun h => V.int (h : Nat)))
  t : H tl = some (.lst (zs.map V.str))
  m : H ml = some (.lst (ms.map sg))
  bx : Boxes C H ow zs
  ic : ∀ z ∈ zs, InM ms z
  hk : hs.length = 5
  hz : ∀ h ∈ hs, h < zs.length
  nd : ow.Nodup
  no : ∀ b ∈ ow, H0 b = none
section
variable {C : Addr} {H0 H H' : Hp} {ms : List Nat} {p q bl hl tl ml : Addr} {ow : List Addr} {hs : List Nat} {zs : List Str}
theorem Run.draw (r : Run C H0 ms p q bl hl tl ml ow hs zs H) (w : Lay H0 p q bl hl tl ml) (e : Bar p H H') (hB : BagAt H' p q) : Run C H0 ms p q bl hl tl ml ow hs zs H' :=
  ⟨same_bar r.sm w.np e, hB, e _ _ w.pb r.b, e _ _ w.ph r.h, e _ _ w.pt r.t, e _ _ w.pm r.m, r.bx.bar e (r.bx.notin2 r.bag).1, r.ic, r.hk, r.hz, r.nd, r.no⟩
theorem Run.same (r : Run C H0 ms p q bl hl tl ml ow hs zs H) (s : Same H H') : Run C H0 ms p q bl hl tl ml ow hs zs H' :=
  ⟨r.sm.trans s, r.bag.same s, s _ _ r.b, s _ _ r.h, s _ _ r.t, s _ _ r.m, r.bx.same s, r.ic, r.hk, r.hz, r.nd, r.no⟩
theorem Run.at_ (r : Run C H0 ms p q bl hl tl ml ow hs zs H) {j : Nat} (hj : j < zs.length) : ow[j]? = some (ow.getD j 0) ∧ zs[j]? = some (zs.getD j "") ∧ BoxAt C H (ow.getD j 0) (zs.getD j "") ∧ InM ms (zs.getD j "") := by
  have h1 := getD_at (l := ow) (d := 0) (k := j) (by rw [r.bx.1]; exact hj)
  have h2 := getD_at (l := zs) (d := ("" : Str)) hj
  exact ⟨h1, h2, r.bx.2 j _ _ h1 h2, r.ic _ (List.mem_of_getElem? h2)⟩
theorem Run.held (r : Run C H0 ms p q bl hl tl ml ow hs zs H) {k : Nat} (hk : k < 5) : hs[k]? = some (hs.getD k 0) ∧ hs.getD k 0 < zs.length := by
  have h1 := getD_at (l := hs) (d := 0) (k := k) (by rw [r.hk]; exact hk)
  exact ⟨h1, r.hz _ (List.mem_of_getElem? h1)⟩
/-- the box at j and its text are changed -/
theorem Run.changed (r : Run C H0 ms p q bl hl tl ml ow hs zs H) (w : Lay H0 p q bl hl tl ml) {j : Nat} {z : Str} (hj : j < zs.length) (e : Bar (ow.getD j 0) H H') (n : BoxAt C H' (ow.getD j 0) z) (hz : InM ms z) :
    H' bl = some (.lst (hs.map fun h => V.ref (ow.getD h 0))) ∧ H' hl = some (.lst (hs.map fun h => V.int (h : Nat))) ∧ H' tl = some (.lst (zs.map V.str)) ∧ H' ml = some (.lst (ms.map sg)) ∧ BagAt H' p q ∧
      Run C H0 ms p q bl hl tl ml ow hs (zs.set j z) (upd H' tl (.lst ((zs.set j z).map V.str))) := by
  obtain ⟨h1, h2, h3, h4⟩ := r.at_ hj
  have mo := List.mem_of_getElem? h1
  have ne : ∀ {x : Addr}, x ∉ ow → x ≠ ow.getD j 0 := fun h q => h (q ▸ mo)
  have n2 := r.bx.notin2 r.bag
  have nt := r.bx.notin r.t
  have eb := e _ _ (ne (r.bx.notin r.b)) r.b
  have eh := e _ _ (ne (r.bx.notin r.h)) r.h
  have et := e _ _ (ne nt) r.t
  have em := e _ _ (ne (r.bx.notin r.m)) r.m
  have hB := r.bag.bar e (ne n2.1) (ne n2.2)
  have hx := r.bx.set r.nd h1 e n
  refine ⟨eb, eh, et, em, hB, same_bar (same_bar r.sm (r.no _ mo) e) w.nt bar_upd, hB.bar bar_upd w.pt.symm w.qt.symm, (upd_ne w.bt).trans eb, (upd_ne w.ht).trans eh, upd_same, (upd_ne w.mt).trans em, hx.bar bar_upd nt, fun y hy => ?_, r.hk, fun h hh => by rw [List.length_set]; exact r.hz h hh, r.nd, r.no⟩
  rcases List.mem_or_eq_of_mem_set hy with h | h
  · exact r.ic y h
  · rw [h]
    exact hz
/-- the name at k takes what the name at j holds -/
theorem Run.rebind (r : Run C H0 ms p q bl hl tl ml ow hs zs H) (w : Lay H0 p q bl hl tl ml) {k h : Nat} (hh : h < zs.length) :
    Run C H0 ms p q bl hl tl ml ow (hs.set k h) zs (upd (upd H bl (.lst ((hs.map fun h => V.ref (ow.getD h 0)).set k (.ref (ow.getD h 0))))) hl (.lst ((hs.map fun h => V.int (h : Nat)).set k (.int (h : Nat))))) := by
  have s1 : Bar bl H (upd H bl (.lst ((hs.map fun h => V.ref (ow.getD h 0)).set k (.ref (ow.getD h 0))))) := bar_upd
  have nb := r.bx.notin r.b
  have nh := r.bx.notin r.h
  refine ⟨same_bar (same_bar r.sm w.nb s1) w.nh bar_upd, (r.bag.bar s1 w.pb.symm w.qb.symm).bar bar_upd w.ph.symm w.qh.symm, ?_, ?_, (upd_ne w.ht.symm).trans ((upd_ne w.bt.symm).trans r.t), (upd_ne w.mh).trans ((upd_ne w.mb).trans r.m), (r.bx.bar s1 nb).bar bar_upd nh, r.ic, by rw [List.length_set]; exact r.hk, fun x hx => ?_, r.nd, r.no⟩
  · rw [upd_ne w.bh, upd_same, List.map_set]
  · rw [upd_same, List.map_set]
  · rcases List.mem_or_eq_of_mem_set hx with hx | hx
    · exact r.hz x hx
    · rw [hx]
      exact hh
/-- a new box at c under the name at k -/
theorem Run.fresh (r : Run C H0 ms p q bl hl tl ml ow hs zs H) (w : Lay H0 p q bl hl tl ml) {k : Nat} {c : Addr} {z : Str} (nc : H0 c = none) (ic : c ∉ ow) (hc : BoxAt C H c z) (hz : InM ms z) :
    Run C H0 ms p q bl hl tl ml (ow ++ [c]) (hs.set k zs.length) (zs ++ [z]) (upd (upd (upd H bl (.lst ((hs.map fun h => V.ref (ow.getD h 0)).set k (.ref c)))) tl (.lst (zs.map V.str ++ [.str z]))) hl (.lst ((hs.map fun h => V.int (h : Nat)).set k (.int (zs.length : Nat))))) := by
  have lo : ow.length = zs.length := r.bx.1
  have nb := r.bx.notin r.b
  have nh := r.bx.notin r.h
  have nt := r.bx.notin r.t
  have ncb : ∀ {l : Addr} {xs : List V}, H l = some (.lst xs) → c ≠ l := fun e q => by
    obtain ⟨dx, hc⟩ := hc
    rw [← q, hc] at e
    cases e
  have s1 : Bar bl H (upd H bl (.lst ((hs.map fun h => V.ref (ow.getD h 0)).set k (.ref c)))) := bar_upd
  have hx : Boxes C H (ow ++ [c]) (zs ++ [z]) := r.bx.snoc hc
  have no3 : ∀ {l : Addr} {xs : List V}, H l = some (.lst xs) → l ∉ ow ++ [c] := fun {l xs} e m => by
    rcases List.mem_append.mp m with m | m
    · exact r.bx.notin e m
    · exact ncb e (List.mem_singleton.mp m).symm
  refine ⟨same_bar (same_bar (same_bar r.sm w.nb s1) w.nt bar_upd) w.nh bar_upd, ((r.bag.bar s1 w.pb.symm w.qb.symm).bar bar_upd w.pt.symm w.qt.symm).bar bar_upd w.ph.symm w.qh.symm, ?_, ?_, ?_, (upd_ne w.mh).trans ((upd_ne w.mt).trans ((upd_ne w.mb).trans r.m)), ((hx.bar s1 (no3 r.b)).bar bar_upd (no3 r.t)).bar bar_upd (no3 r.h), fun y hy => ?_, by rw [List.length_set]; exact r.hk, fun x hx => ?_, ?_, fun b hb => ?_⟩
  · rw [upd_ne w.bh, upd_ne w.bt, upd_same, List.map_set]
    refine congrArg (fun l => some (HO.lst l)) ?_
    have e1 : (ow ++ [c]).getD zs.length 0 = c := by
      rw [List.getD_eq_getElem?_getD, List.getElem?_append_right (by omega), lo, Nat.sub_self]
      rfl
    rw [e1]
    refine congrArg (fun l => List.set l k (V.ref c)) (List.map_congr_left fun h hh => ?_)
    have := r.hz h hh
    rw [List.getD_eq_getElem?_getD, List.getD_eq_getElem?_getD, List.getElem?_append_left (by omega)]
  · rw [upd_same, List.map_set]
  · rw [upd_ne w.ht.symm, upd_same, List.map_append]
    rfl
  · rcases List.mem_append.mp hy with hy | hy
    · exact r.ic y hy
    · rw [List.mem_singleton.mp hy]
      exact hz
  · rw [List.length_append]
    rcases List.mem_or_eq_of_mem_set hx with hx | hx
    · exact Nat.lt_of_lt_of_le (r.hz x hx) (Nat.le_add_right _ _)
    · rw [hx]
      exact Nat.lt_succ_self _
  · exact List.nodup_append.mpr ⟨r.nd, by simp, fun x hx y hy e => ic (by rw [List.mem_singleton.mp hy] at e; exact e ▸ hx)⟩
  · rcases List.mem_append.mp hb with hb | hb
    · exact r.no b hb
    · rw [List.mem_singleton.mp hb]
      exact nc
end
def spDeed (C : Addr) : Sp := fun vs H Q _ => ∃ (H0 : Hp) (ms : List Nat) (p q bl hl tl ml : Addr) (ow : List Addr) (hs : List Nat) (zs : List Str), vs = [.ref p, .ref bl, .ref hl, .ref tl, .ref ml] ∧ Lay H0 p q bl hl tl ml ∧ ms.Sublist mk ∧ Run C H0 ms p q bl hl tl ml ow hs zs H ∧ zs.length ≤ 1000 ∧
  ∀ H' ow' hs' zs', Run C H0 ms p q bl hl tl ml ow' hs' zs' H' → zs'.length ≤ zs.length + 1 → Q (.bl true) H'
end WB

set_option Elab.async false
set_option linter.all false
set_option maxRecDepth 100000
set_option maxHeartbeats 4000000
namespace WB
open PySem L2 PyProof.Rows
theorem vals_of : ∀ {l : List V} {us : List Value}, l.length = us.length → (∀ (j : Nat) v u, l[j]? = some v → us[j]? = some u → RelV v u) → Vals l us
  | [], [], _, _ => .nil
  | v :: l, u :: us, h, r => .cons (r 0 v u rfl rfl) (vals_of (Nat.succ.inj h) fun j v u h1 h2 => r (j + 1) v u h1 h2)
  | [], _ :: _, h, _ => by cases h
  | _ :: _, [], h, _ => by cases h
/-- list(text) -/
def rListS : List V → Hp → VK → Prop := fun xs H Q => ∃ x : Str, xs = [.str x] ∧ x.length ≤ sizeLine ∧ ∀ l, H l = none → Q (.ref l) (upd H l (.lst (x.cps.toList.map sg)))
theorem call_listS {X : Cx} (hh : X.A.handled = none) : CallR X (.type "list") rListS := by
  intro pins s σ H xs us Q I r h
  obtain ⟨x, rfl, hz, q⟩ := h
  obtain ⟨u, rfl, t, rfl⟩ := vals_one r
  refine call_list_str hh x t (hn := hz) fun h' tk acc' c' hk hS' hacc => ?_
  have hv : Vals (x.cps.toList.map sg) acc'.toList := vals_of (by rw [List.length_map, Array.length_toList, Array.length_toList, hacc.1]) fun j v u h1 h2 => by
    obtain ⟨c, hc, rfl⟩ := map_from h1
    obtain ⟨c', u', h3, rfl⟩ := hacc.2 j u (by rw [← Array.getElem?_toList]; exact h2)
    rw [Array.getElem?_toList] at hc
    rw [hc] at h3
    cases h3
    exact ⟨u', rfl⟩
  have new : ObjOk X.prog X.w (upd H s.heap.objs.size (.lst (x.cps.toList.map sg))) h' s.heap.objs.size (.lst (x.cps.toList.map sg)) := ⟨by rw [List.length_map]; exact hz, acc'.toList, c', hv, by simpa using hS'⟩
  exact ⟨.ref s.heap.objs.size, _, I.laid (t' := tk) hk (Nat.le_refl _) new, rfl, q _ (I.hok.fresh (Nat.le_refl _))⟩
theorem dp_all_bools {K : PySem.W.Frag} {H : Hp} : ∀ bs : List Bool, DpAll K H (bs.map V.bl) (bs.map PyData.bool)
  | [] => .nil
  | b :: r => .cons (.bl b) (dp_all_bools r)
theorem lay_bools : ∀ bs : List Bool, PyData.canLayAll0 (bs.map PyData.bool) = true ∧ PyData.depthAll (bs.map PyData.bool) = 0 ∧ PyData.eqvAll (bs.map PyData.bool) (bs.map PyData.bool) = true
  | [] => ⟨rfl, rfl, rfl⟩
  | b :: r => by
    obtain ⟨h1, h2, h3⟩ := lay_bools r
    refine ⟨?_, ?_, ?_⟩
    · show (true && PyData.canLayAll0 (r.map _)) = true
      rw [h1]
      rfl
    · show max 0 (PyData.depthAll (r.map _)) = 0
      rw [h2]
      rfl
    · show ((b == b) && PyData.eqvAll (r.map _) (r.map _)) = true
      rw [h3, beq_self_eq_true]
      rfl
theorem shaped_bools (bs : List Bool) : SeqAt.shaped (.list (bs.map PyData.bool)) = true := by
  obtain ⟨h1, h2, _⟩ := lay_bools bs
  have e1 : PyData.canLay0 (.list (bs.map PyData.bool)) = true := h1
  have e2 : PyData.depth (.list (bs.map PyData.bool)) ≤ 64 := by
    show PyData.depthAll (bs.map _) + 1 ≤ 64
    omega
  unfold SeqAt.shaped
  rw [e1, decide_eq_true e2]
  rfl
theorem eqv_bools (bs : List Bool) : PyData.eqv (.list (bs.map PyData.bool)) (.list (bs.map PyData.bool)) = true := (lay_bools bs).2.2
theorem eqv_signs (ns : List Nat) : PyData.eqv (.list (ns.map fun c => PyData.str (S [c]))) (.list (ns.map fun c => PyData.str (S [c]))) = true := by
  have := eqv_texts (ns.map fun c => S [c])
  rw [List.map_map] at this
  exact this
/-- the marks of ms that stand in z, z out of ms -/
theorem inM_list {ms : List Nat} {z : Str} (h : InM ms z) : ms.filter (fun c => mem z c) = z.cps.toList := by
  obtain ⟨f, rfl⟩ := h
  show ms.filter _ = ms.filter f
  refine List.filter_congr fun c hc => ?_
  unfold mem
  cases q : f c with
  | true => exact decide_eq_true (List.mem_filter.mpr ⟨hc, q⟩)
  | false =>
    refine decide_eq_false fun m => ?_
    have h2 := (List.mem_filter.mp (show c ∈ ms.filter f from m)).2
    rw [q] at h2
    cases h2
theorem owner_eq {ow : List Addr} (nd : ow.Nodup) {a b : Nat} (ha : a < ow.length) (hb : b < ow.length) : decide (ow.getD a 0 = ow.getD b 0) = decide (V.int (a : Nat) = V.int (b : Nat)) := by
  by_cases c : a = b
  · subst c
    rw [decide_eq_true rfl, decide_eq_true rfl]
  · rw [decide_eq_false, decide_eq_false]
    · intro e
      have := V.int.inj e
      omega
    · intro e
      have h1 := getD_at (l := ow) (d := 0) ha
      have h2 := getD_at (l := ow) (d := 0) hb
      obtain ⟨i1, e1⟩ := List.getElem?_eq_some_iff.mp h1
      obtain ⟨i2, e2⟩ := List.getElem?_eq_some_iff.mp h2
      exact c ((List.getElem_inj nd).mp (e1.trans (e.trans e2.symm)))
end WB

set_option Elab.async false
set_option linter.all false
set_option maxRecDepth 100000
set_option maxHeartbeats 4000000
namespace WB
open PySem L2 PyProof.Rows
/-! ### x[k] and x[k] = v of an own class -/
section
variable {X : Cx} {CX : CXT} {k j : Nat} {f C : Addr} {fd : FuncData} {ps : List Str} {sp : Sp} {E : L2.St → XK} {p pos pos' : Pos} {e o i value : Expr} {to ti tv : TE}
theorem run_at {A : Around} {pins : List (Addr × Obj)} {σ : L2.St} {H : Hp} {s : Shared} {Q : VK} {E : XK} {us : List Value} {vs : List V} (F : FnOk X.prog X.w X.K X.mg X.base CX k f fd ps sp) (hr : Room k A) (e0 : Env0 X.prog X.w X.K X.mg X.base A X.stack s H)
    (hb : Binds X.K fd ps []) (hx : PassesAt CX X σ E) (I : Inv X pins σ H s) (r : Vals vs us) (h : sp vs H Q E) : wpAny (model X.prog X.w) A (call (.ref f) us) (EP X pins σ Q) X.xe s := by
  have hl : (us ++ ([] : List Value)).length = ps.length := by
    rw [List.append_nil, ← r.length]
    exact F.len _ _ _ _ h
  have hb2 := hb s us I.kIn hl
  rw [List.append_nil] at hb2
  refine wpAny_call (codeAny_mono (F.run A X.stack s H ⟨us, []⟩ us vs Q E hr e0 hb2 r h) fun r s' hq => ?_)
  cases r with
  | error er => exact hx pins H s er s' I hq
  | ok fl =>
    cases fl with
    | ret u => exact I.after hq
    | next => exact hq.elim
    | brk => exact hq.elim
    | cont => exact hq.elim
structure GetX (P : Program) (w : World) (K : PySem.W.Frag) (mg : Str → Option Value) (base : Heap) (k : Nat) (C : Addr) (sp : Sp) : Prop where
  ex : ∃ (f : Addr) (fd : FuncData) (ps : List Str), PySem.W.findIn K (.ref C) "__getitem__" = some (some (.ref f)) ∧ PySem.W.fnIn K f = true ∧ PySem.W.isFn K (.ref f) = true ∧ FnOk P w K mg base (L2.CX P w) k f fd ps sp ∧ Binds K fd ps []
structure SetX (P : Program) (w : World) (K : PySem.W.Frag) (mg : Str → Option Value) (base : Heap) (k : Nat) (C : Addr) (sp : Sp) : Prop where
  ex : ∃ (f : Addr) (fd : FuncData) (ps : List Str), PySem.W.noSeq K C = true ∧ PySem.W.findIn K (.ref C) "__setitem__" = some (some (.ref f)) ∧ PySem.W.isFn K (.ref f) = true ∧ FnOk P w K mg base (L2.CX P w) k f fd ps sp ∧ Binds K fd ps []
def tGetO (C : Addr) (sp : Sp) (E : L2.St → XK) (to ti : TE) : TE := fun σ H Q => to σ H fun x H1 => ti σ H1 fun y H2 => ∃ a dx fs, x = .ref a ∧ H2 a = some (.ins C dx fs) ∧ sp [x, y] H2 Q (E σ)
def sSetO (C : Addr) (sp : Sp) (E : L2.St → XK) (to ti tv : TE) : TS := fun D σ H => tv σ H fun v H1 => to σ H1 fun x H2 => ti σ H2 fun y H3 => ∃ a dx fs, x = .ref a ∧ H3 a = some (.ins C dx fs) ∧ sp [x, y, v] H3 (fun _ H4 => D.nx σ H4) (E σ)
/-- how a plain key is asked of an own class -/
def PlainK (i : Expr) : Prop := ∀ (x : Addr) (v : Value), subscripted i true (.ref x) v = runValue (.builtin "lifetime.subscript" ⟨[.ref x, v], []⟩)
theorem pe_getS (c : GetX X.prog X.w X.K X.mg X.base k C sp) (hx : ∀ σ, PassesAt (L2.CX X.prog X.w) X σ (E σ)) (hr0 : Room j X.A) (hk : k + 1 ≤ j) (ho : PE X o to) (hi : PE X i ti) (hs : PlainK i) : PE X (.Subscript o i pos) (tGetO C sp E to ti) := by
  obtain ⟨f, fd, ps, h1, h2, h3, F, hb⟩ := c.ex
  have hr := hr0.mono hk
  refine ⟨fun pins s σ H Q I h => Subscript_ (thn (ho.run pins s σ H _ I h) fun u s1 ⟨x, H1, I1, rx, q1⟩ => thn (hi.run pins s1 σ H1 _ I1 q1) fun v s2 ⟨y, H2, I2, ry, a, dx, fs, ex, ea, q2⟩ => ?_)⟩
  subst ex
  cases (show u = Value.ref a from rx)
  obtain ⟨m, Fm⟩ := I2.fr
  obtain ⟨mA, O', _, _, _, _⟩ := ins_get I2.hok ea
  obtain ⟨od, J, _⟩ := O'.look
  exact PySem.W.sub_K Fm I2.mod.kin J h1 h2 h3 (run_at F hr.in1 I2.env0.in1 hb (hx σ) I2 (.cons (show RelV (.ref a) (.ref a) from rfl) (.cons ry .nil)) q2) (hs a v)
theorem ps_setS (c : SetX X.prog X.w X.K X.mg X.base k C sp) (hx : ∀ σ, PassesAt (L2.CX X.prog X.w) X σ (E σ)) (hr0 : Room j X.A) (hk : k ≤ j) (ho : PE X o to) (hi : PE X i ti) (hv : PE X value tv) (hs : swapsWith value (some (.Subscript o i pos')) pos.line X.env = pure false) :
    PS X (.Assign [.Subscript o i pos'] value pos) (sSetO C sp E to ti tv) := by
  obtain ⟨f, fd, ps, h1, h2, h3, F, hb⟩ := c.ex
  have hr := hr0.mono hk
  refine ⟨fun pins s σ H D I h => wpAny_Assign_Subscript (thn (hv.run pins s σ H _ I h) fun r s1 ⟨v, H1, I1, rv, q1⟩ => thn (ho.run pins s1 σ H1 _ I1 q1) fun u s2 ⟨x, H2, I2, rx, q2⟩ => thn (hi.run pins s2 σ H2 _ I2 q2) fun iv s3 ⟨y, H3, I3, ry, a, dx, fs, ex, ea, q3⟩ => ?_) hs⟩
  subst ex
  cases (show u = Value.ref a from rx)
  obtain ⟨m, Fm⟩ := I3.fr
  obtain ⟨mA, O', _, _, _, _⟩ := ins_get I3.hok ea
  obtain ⟨od, J, _⟩ := O'.look
  refine PySem.W.ksp_setItem Fm I3.mod.kin J h1 h2 h3 ?_
  exact thn (run_at F hr I3.env0 hb (hx σ) I3 (.cons (show RelV (.ref a) (.ref a) from rfl) (.cons ry (.cons rv .nil))) q3) fun _ s4 ⟨_, H4, I4, _, q4⟩ => ⟨σ, H4, I4, q4⟩
theorem passE0 (σ : L2.St) : PassesAt (L2.CX X.prog X.w) X σ E0 := fun pins H s e s' I h => passL pins σ H s e s' I h
end
section
variable {X : Cx} {k j : Nat} {C : Addr} {sp : Sp} {W : WX} {pos pos' : Pos} {o i value : Expr} {to ti tv : TE}
/-- where nothing is let out -/
theorem pe_own (c : GetX X.prog X.w X.K X.mg X.base k C sp) (hr : Room j X.A) (hk : k + 1 ≤ j) (ho : PE X o to) (hi : PE X i ti) (hs : PlainK i) : PE X (.Subscript o i pos) (tGetO C sp (fun _ => E0) to ti) := pe_getS c passE0 hr hk ho hi hs
theorem ps_own (c : SetX X.prog X.w X.K X.mg X.base k C sp) (hr : Room j X.A) (hk : k ≤ j) (ho : PE X o to) (hi : PE X i ti) (hv : PE X value tv) (hs : swapsWith value (some (.Subscript o i pos')) pos.line X.env = pure false) :
    PS X (.Assign [.Subscript o i pos'] value pos) (sSetO C sp (fun _ => E0) to ti tv) := ps_setS c passE0 hr hk ho hi hv hs
/-- where it is taken -/
theorem pe_ownT (c : GetX X.prog X.w X.K X.mg X.base k C sp) (tk : Takes X W) (hr : Room j X.A) (hk : k + 1 ≤ j) (ho : PE X o to) (hi : PE X i ti) (hs : PlainK i) : PE X (.Subscript o i pos) (tGetO C sp (WE W) to ti) := pe_getS c (fun σ => passAt tk σ) hr hk ho hi hs
theorem ps_ownT (c : SetX X.prog X.w X.K X.mg X.base k C sp) (tk : Takes X W) (hr : Room j X.A) (hk : k ≤ j) (ho : PE X o to) (hi : PE X i ti) (hv : PE X value tv) (hs : swapsWith value (some (.Subscript o i pos')) pos.line X.env = pure false) :
    PS X (.Assign [.Subscript o i pos'] value pos) (sSetO C sp (WE W) to ti tv) := ps_setS c (fun σ => passAt tk σ) hr hk ho hi hv hs
end
theorem fnIn_of {K : PySem.W.Frag} {f : Addr} {c : Value} {d : Option Addr} {fd : FuncData} {sl : Array (Option Value)} (h : K.lookup f = some ⟨c, d, .func fd, sl⟩) : PySem.W.fnIn K f = true := by
  unfold PySem.W.fnIn
  rw [h]
end WB

set_option Elab.async false
set_option linter.all false
set_option maxRecDepth 100000
set_option maxHeartbeats 4000000
namespace WB
open PySem L2 PyProof.Rows
/-! ### exceptions of an own class over any built-in base, with an own __init__ -/
structure OexB (K : PySem.W.Frag) (C : Addr) (B newId initId : String) (bmB : List Value) : Prop where
  fb : ExcBaseFacts B newId initId bmB
  sf : StoreFacts B bmB "object.__setattr__" "object"
  cls : ∃ nm q N bs bm sn sub ab col dd k0 k1 k2 k3 k5, K.lookup C = some (excClassObj nm q C N bs bm true sn sub ab col dd k0 k1 k2 k3 k5 newId) ∧ PySem.W.excTail bmB bm = true
  sa : PySem.W.findIn K (.ref C) "__setattr__" = some (some (.builtin "object.__setattr__"))
  exC : PySem.W.subIn K (.ref C) (.type "BaseException") = some true
  tyC : PySem.W.typeIn K (.ref C) = some (.type "type")
  kC : PySem.W.keepIn K (.ref C) = true
section
variable {K : PySem.W.Frag} {C : Addr} {B newId initId : String} {bmB : List Value}
theorem OexB.cd (T : OexB K C B newId initId bmB) : ∃ cd bm, PySem.W.clsIn K C = some cd ∧ cd.mro = .ref C :: bm ∧ PySem.W.excTail bmB bm = true ∧ cd.hasDict = true := by
  obtain ⟨nm, q, N, bs, bm, sn, sub, ab, col, dd, k0, k1, k2, k3, k5, l, ht⟩ := T.cls
  have e : PySem.W.clsIn K C = some { name := nm, bases := bs, mro := .ref C :: bm, ns := N, qualname := q, hasDict := true, slotNames := sn, subclasses := sub, abstract := ab, collection := col, hasDel := false } := by
    unfold PySem.W.clsIn
    rw [l] <;> rfl
  exact ⟨_, bm, e, rfl, ht, rfl⟩
theorem OexB.over (T : OexB K C B newId initId bmB) : PySem.W.excOver K C bmB = true := by
  obtain ⟨cd, bm, e, em, ht, _⟩ := T.cd
  unfold PySem.W.excOver
  rw [e]
  show (match cd.mro with | .ref C' :: bm => C' == C && PySem.W.excTail bmB bm | _ => false) = true
  rw [em]
  show (C == C && PySem.W.excTail bmB bm) = true
  rw [ht, beq_self_eq_true]
  rfl
theorem taker_none {f : Str} (h : PySem.W.findIn K (.ref C) f = some none) : PySem.W.takerIn K C f = some none := by
  unfold PySem.W.takerIn
  rw [h]
  rfl
end
section
variable {prog : Program} {w : PySem.World} {A : Around} {E : Value → Shared → Prop} {R : Result → Shared → Prop} {h0 : Heap} {gs0 : Array GenState} {dr : Drawn} {tt : Nat} {os : OsState} {K : PySem.W.Frag} {C : Addr} {B newId initId : String} {bmB : List Value}
open PySem.Builtin.ObjectAttr in
theorem osb_new {f : Str} {tk : Tok} {v : Value} {x t1 : Addr} (T : OexB K C B newId initId bmB) (X : K.In h0) (hx : h0.get? x = some (PySem.W.excObj C t1 none .none)) (hno : PySem.W.findIn K (.ref C) f = some none)
    (hq : ∀ h' tk' dx, (∀ b o, b ≠ x → h0.get? b = some o → h'.get? b = some o) → h0.objs.size ≤ dx → dx ≠ x → h'.get? x = some (PySem.W.excObj C t1 (some dx) .none) → h'.Ns1 dx (fun y => if y = f then some v else none) → R (.ok (.ret .none)) ⟨h', gs0, dr, tk', os⟩) :
    codeAny (model prog w) A (.call (.builtin "object.__setattr__") ⟨[.ref x, .str f tk, v], []⟩) R ⟨h0, gs0, dr, tt, os⟩ := by
  obtain ⟨cd, bm, e, em, ht, hd⟩ := T.cd
  have nx : x ≠ h0.objs.size := Nat.ne_of_lt (Heap.lt_size hx)
  refine PySem.W.osa_openX (od := none) T.sf X ⟨hx, rfl, rfl, trivial⟩ T.over (taker_none hno) fun b => ?_
  refine wpAny_bind (wpAny_pure (wpAny_bind (PySem.W.instanceDict_exc hx (PySem.W.looks_clsIn X e) hd ?_)))
  have hx1 : (h0.push (PySem.W.dictOf [] 0)).get? x = some (PySem.W.excObj C t1 none .none) := Heap.get?_push_of_some _ hx
  refine PySem.HandSPX.store_in_new ⟨PySem.W.dictOf [] 0, #[], 0, (Heap.get?_update_ne _ _ _ _ nx.symm).trans (Heap.get?_push_at rfl rfl), rfl, fun e he => absurd he (by simp), fun _ => rfl⟩ fun h' tk' hn hs => ?_
  refine hq h' tk' h0.objs.size (fun c o hc ho => ?_) (Nat.le_refl _) nx.symm ((hs.2 x nx).trans (Heap.get?_update_self _ hx1 rfl)) hn
  exact (hs.2 c (Nat.ne_of_lt (Heap.lt_size ho))).trans ((Heap.get?_update_ne _ _ _ _ hc).trans (Heap.get?_push_of_some _ ho))
open PySem.Builtin.ObjectAttr in
theorem osb_old {f : Str} {tk : Tok} {v : Value} {x t1 dx : Addr} {m0 : Str → Option Value} {nl : List Str} (T : OexB K C B newId initId bmB) (X : K.In h0) (hx : h0.get? x = some (PySem.W.excObj C t1 (some dx) .none)) (hns : h0.Ns1 dx m0) (hw : Within m0 nl) (hz : nl.length ≤ 1000)
    (hno : PySem.W.findIn K (.ref C) f = some none)
    (hq : ∀ h' tk', (∀ b o, b ≠ dx → h0.get? b = some o → h'.get? b = some o) → h'.Ns1 dx (fun y => if y = f then some v else m0 y) → R (.ok (.ret .none)) ⟨h', gs0, dr, tk', os⟩) :
    codeAny (model prog w) A (.call (.builtin "object.__setattr__") ⟨[.ref x, .str f tk, v], []⟩) R ⟨h0, gs0, dr, tt, os⟩ := by
  obtain ⟨cd, bm, e, em, ht, hd⟩ := T.cd
  obtain ⟨oD, _, _, ho, _, _⟩ := hns.count hw
  refine PySem.W.osa_openX (od := some oD) T.sf X ⟨hx, rfl, rfl, ho⟩ T.over (taker_none hno) fun b => ?_
  refine wpAny_bind (wpAny_pure (wpAny_bind (wpAny_bind (wpAny_loadPart hx (wpAny_bind ((PySem.W.looks_clsIn X e).here ?_))))))
  rw [hd]
  refine wpAny_pure (a := some dx) ?_
  exact PySem.OEX.store_in_old hns hw hz fun h' tk' hn hs => hq h' tk' (fun c o hc ho => (hs.2 c hc).trans ho) hn
end
section
variable {X : Cx} {pins : List (Addr × Obj)} {σ : L2.St} {H : Hp} {s : Shared} {a C dx : Addr} {f : Str} {y : V} {u : Value} {fs : List (Str × V)} {Q : Unit → Shared → Prop} {E : Value → Shared → Prop} {A : Around} {B newId initId : String} {bmB : List Value}
theorem ostb_new (T : OexB X.K C B newId initId bmB) (I : Inv X pins σ H s) (e : H a = some (exo a C none)) (hno : PySem.W.findIn X.K (.ref C) f = some none) (ry : RelV y u)
    (h : ∀ dx s', H dx = none → dx ≠ a → Inv X pins σ (upd (upd H dx (exd dx [(f, y)])) a (exo a C (some dx))) s' → Q () s') : wpAny (model X.prog X.w) A (setAttr (.ref a) f u) Q E s := by
  obtain ⟨t1, ho⟩ := exo_at I.hok e
  obtain ⟨hp, g, d, t, os⟩ := s
  refine PySem.W.set_plain I.kIn (ox := PySem.W.excObj C t1 none .none) (od := none) ⟨ho, rfl, rfl, trivial⟩ T.sa (osb_new T I.kIn ho hno fun h' tk' dx kp dn dne hx hn => ?_)
  have fd : H dx = none := I.hok.fresh dn
  have n1 : ∀ {c : Addr} {o : Obj}, hp.get? c = some o → c ≠ dx := fun {c o} z => Nat.ne_of_lt (Nat.lt_of_lt_of_le (Heap.lt_size z) dn)
  have n2 : ∀ {c : Addr}, H c = none → c ≠ a := fun {c} z z2 => by
    rw [z2, e] at z
    cases z
  have same : ∀ {c : Addr} {o : HO}, H c = some o → (∀ d, o ≠ exo c C d) → upd (upd H dx (exd dx [(f, y)])) a (exo a C (some dx)) c = some o := fun {c o} z n => by
    rw [upd_ne (fun q => by rw [q, e] at z; exact n none (by rw [q]; exact (Option.some.inj z).symm)), upd_ne (ne_of_none z fd)]
    exact z
  have U : Un X.fs [] H (upd (upd H dx (exd dx [(f, y)])) a (exo a C (some dx))) hp h' :=
    ⟨fun c o z n _ _ => kp c o (n2 n) z, fun c o z n _ _ => ⟨o.slots, kp c o (n2 n) z⟩, fun c o z n _ => by rw [upd_ne (n2 n), upd_ne (n1 z)]; exact n,
      fun c o z _ => by
        by_cases q : c = a
        · exact ⟨_, by rw [q]; exact hx⟩
        · exact ⟨o, kp c o q z⟩,
      fun c xs z => same z fun d q => exo_tup q.symm, fun c o v z => same z fun d q => exo_frz q.symm, fun c ps z => ⟨#[], by rw [same z fun d q => exo_tbl q.symm]; simp⟩⟩
  refine h dx _ fd dne (I.un (t' := tk') U fun c o z => ?_)
  by_cases q : c = a
  · subst q
    rw [upd_same] at z
    cases z
    exact exo_ok hx
  rw [upd_ne q] at z
  by_cases q2 : c = dx
  · subst q2
    rw [upd_same] at z
    cases z
    exact exd_ok hn (relO_put (fs := []) ry fun _ => trivial)
  rw [upd_ne q2] at z
  refine (I.hok c o z).stay (fun b v hb hv => kp b v ?_ hv) (fun b hb => same hb fun d q => exo_own q.symm) (fun b xs hb => same hb fun d q => exo_tup q.symm)
  rcases hb with hb | hb
  · rw [hb]
    exact q
  · exact at_ne e hb exo_own
theorem ostb_old (T : OexB X.K C B newId initId bmB) (I : Inv X pins σ H s) (e : H a = some (exo a C (some dx))) (ed : H dx = some (exd dx fs)) (hl : fs.length ≤ 900) (hno : PySem.W.findIn X.K (.ref C) f = some none) (ry : RelV y u)
    (h : ∀ s', Inv X pins σ (upd H dx (exd dx ((f, y) :: fs))) s' → Q () s') : wpAny (model X.prog X.w) A (setAttr (.ref a) f u) Q E s := by
  obtain ⟨t1, ho⟩ := exo_at I.hok e
  obtain ⟨mA, hns, rel⟩ := exd_at I.hok ed
  have hw := within_of rel
  obtain ⟨hp, g, d, t, os⟩ := s
  obtain ⟨oD, _, _, hoD, _, _⟩ := hns.count hw
  refine PySem.W.set_plain I.kIn (ox := PySem.W.excObj C t1 (some dx) .none) (od := some oD) ⟨ho, rfl, rfl, hoD⟩ T.sa (osb_old T I.kIn ho hns hw (by rw [List.length_map]; omega) hno fun h' tk' kp hn => ?_)
  have there : ∃ o, h'.get? dx = some o := by
    obtain ⟨o, _, _, z, _⟩ := hn
    exact ⟨o, z⟩
  exact h _ (I.write (t' := tk') (x := dx) (e := dx) (o := exd dx ((f, y) :: fs)) (by rw [ed]; trivial) (.inl rfl) kp there (exd_ok hn (relO_put ry rel)))
end
/-- self.f = e -/
def tOstB (C : Addr) (f : Str) (to te : TE) : TS := fun D σ H => te σ H fun y H1 => to σ H1 fun x H2 => ∃ a : Addr, x = .ref a ∧
  ((H2 a = some (exo a C none) ∧ ∀ dx, H2 dx = none → dx ≠ a → D.nx σ (upd (upd H2 dx (exd dx [(f, y)])) a (exo a C (some dx)))) ∨
    ∃ (dx : Addr) (fs : List (Str × V)), H2 a = some (exo a C (some dx)) ∧ H2 dx = some (exd dx fs) ∧ fs.length ≤ 900 ∧ D.nx σ (upd H2 dx (exd dx ((f, y) :: fs))))
section
variable {X : Cx} {o e : Expr} {es : List Expr} {to te : TE} {ta : TA} {f : Str} {p p' pos : Pos} {C : Addr} {B newId initId : String} {bmB : List Value}
theorem ps_ostB (T : OexB X.K C B newId initId bmB) (hno : PySem.W.findIn X.K (.ref C) f = some none) (ho : PE X o to) (he : PE X e te) (hs : swapsWith e (some (.Attribute o f p')) pos.line X.env = pure false := by rfl) : PS X (.Assign [.Attribute o f p'] e pos) (tOstB C f to te) := by
  refine ⟨fun pins s σ H D I h => plainObj_wpAny_Assign_Attribute (thn (he.run pins s σ H _ I h) fun v s1 ⟨y, H1, I1, r1, q1⟩ => thn (ho.run pins s1 σ H1 _ I1 q1) fun u s2 ⟨x, H2, I2, r2, a, ex, q⟩ => ?_) hs⟩
  subst ex
  cases (show u = Value.ref a from r2)
  rcases q with ⟨ea, q⟩ | ⟨dx, fs, ea, ed, hl, q⟩
  · exact ostb_new T I2 ea hno r1 fun dx s' n ne J => ⟨σ, _, J, q dx n ne⟩
  · exact ostb_old T I2 ea ed hl hno r1 fun s' J => ⟨σ, _, J, q⟩
end
end WB

namespace WB
open PySem L2 PyProof.Rows
section
variable {X : Cx} {e : Expr} {es : List Expr} {ta : TA} {p pos : Pos} {B newId initId : String} {bmB : List Value}
/-- C(e, ..) behind raise -/
theorem pmk_oexB {CX : CXT} {x : Str} {C fI : Addr} {k : Nat} {fd : FuncData} {ps : List Str} {sp : Sp} (T : OexB X.K C B newId initId bmB) (iC : PySem.W.findIn X.K (.ref C) "__init__" = some (some (.ref fI))) (tI : PySem.W.typeIn X.K (.ref fI) = some (.type "function"))
    (F1 : FnOk X.prog X.w X.K X.mg X.base CX k fI fd ps sp) (hr : Room (k + 1) X.A) (hb : Binds X.K fd ps []) (hx : Passes CX X (fun _ _ _ => False)) (hg : Gl X x) (hm : X.mg x = some (.ref C)) (ha : PA X (e :: es) ta)
    (hdb : (x == ("__debug__" : Str)) = false := by decide) (he : starEach (e :: es) X.env = (false, eval e X.env) :: starEach es X.env := by rfl) (hpl : (backTo pos (starEach es X.env)).any (·.1) = false := by rfl) :
    PMk X (.Call (.Name x p) (e :: es) [] pos) (tMkO C sp [] ta) := by
  intro pins s σ H Q I h
  obtain ⟨nm, q, N, bs, bm, sn, sub, ab, col, dd, k0, k1, k2, k3, k5, hC, hbm⟩ := T.cls
  refine wpAny_Call_Name_kw (ld_glob I hg hm ?_ hdb)
  refine PySem.W.callWith_K (h₀ := X.base) I.ok.mod.kin T.kC (thn (ha.run pos pins s σ H _ I h) fun us s1 z => ?_) he hpl
  obtain ⟨vs, H1, I1, r1, hz, q1⟩ := z
  refine ⟨I1.kIn, ?_⟩
  obtain ⟨hp, g, dr, tk, os⟩ := s1
  have fresh : H1 (hp.objs.size + 1) = none := I1.hok.fresh (Nat.le_succ _)
  have hq := q1 (hp.objs.size + 1) fresh
  have up : ∀ b o, hp.get? b = some o → ((hp.push (PySem.W.kdv_tup us)).push (PySem.HandSPX.excO C hp.objs.size)).get? b = some o := fun b o z => Heap.get?_push_of_some _ (Heap.get?_push_of_some _ z)
  have made : ((hp.push (PySem.W.kdv_tup us)).push (PySem.HandSPX.excO C hp.objs.size)).get? (hp.objs.size + 1) = some (PySem.HandSPX.excO C hp.objs.size) := by heap_get
  have I2 := I1.laid (t' := tk) (a := hp.objs.size + 1) (o := exo (hp.objs.size + 1) C none) up (Nat.le_succ _) (exo_ok made)
  have r2 : Vals (V.ref (hp.objs.size + 1) :: (vs ++ [])) (Value.ref (hp.objs.size + 1) :: us) := by
    rw [List.append_nil]
    exact .cons rfl r1
  have hl : (Value.ref (hp.objs.size + 1) :: us ++ []).length = ps.length := by
    rw [List.append_nil]
    exact r2.length.symm.trans (F1.len _ _ _ _ hq)
  have hb2 := hb _ (Value.ref (hp.objs.size + 1) :: us) I2.kIn hl
  rw [List.append_nil] at hb2
  have hus : us.length ≤ sizeLine := by
    rw [← Paired.length r1, sizeLine_eq]
    omega
  refine wpAny_call (PySem.HandSPX.call_own T.fb (fun Y => PySem.W.excTail_contains Y bm hbm) (I1.kIn _ _ hC) (PySem.W.looks_findIn I1.kIn iC) (fun self => PySem.W.bind_fn I1.kIn self tI) hus
    (codeAny_mono (F1.run _ X.stack _ _ ⟨Value.ref (hp.objs.size + 1) :: us, []⟩ (Value.ref (hp.objs.size + 1) :: us) _ _ (fun _ _ _ => False) (hr.make C us []) (I2.env0.make C us []) hb2 r2 hq) fun r s' z => ?_))
  cases r with
  | error er => exact hx pins σ _ _ er s' I2 z
  | ok fl =>
    cases fl with
    | ret u =>
      obtain ⟨v, H2, z2, z3, z4, z5, rv, ev, d, fs, ea, ed, hd1, q2⟩ := z
      subst ev
      obtain ⟨h2, g2, d2, t2, os'⟩ := s'
      exact ⟨rv, mk_end (raises_own T.exC T.tyC) I1 (Nat.le_succ _) up z4 z5 z2 z3 ea ed hd1 q2⟩
    | next => exact z.elim
    | brk => exact z.elim
    | cont => exact z.elim
end
/-- __init__ of an exception with one field -/
def spOne (C : Addr) (f : Str) : Sp := fun vs H Q _ => ∃ (a : Addr) (y : V), vs = [.ref a, y] ∧ H a = some (exo a C none) ∧ ∀ d, H d = none → d ≠ a → Q .non (upd (upd H d (exd d [(f, y)])) a (exo a C (some d)))
/-- an own exception class of one field, by its name -/
structure ErrT (K : PySem.W.Frag) (mg : Str → Option Value) (C : Addr) (x f : Str) : Prop where
  ox : ∃ B newId initId bmB, OexB K C B newId initId bmB
  xf : XfC K C
  no : PySem.W.findIn K (.ref C) f = some none
  g : mg x = some (.ref C)
  te : PySem.W.exmOne K (.ref C) (.ref C) = some true
structure ErrC (P : Program) (w : World) (K : PySem.W.Frag) (mg : Str → Option Value) (base : Heap) (C : Addr) (x f p1 : Str) : Prop where
  t : ErrT K mg C x f
  ini : ∃ (g : Addr) (fd : FuncData), PySem.W.findIn K (.ref C) "__init__" = some (some (.ref g)) ∧ PySem.W.typeIn K (.ref g) = some (.type "function") ∧ FnOk P w K mg base C8.CX0 1 g fd ["self", p1] (spOne C f) ∧ Binds K fd ["self", p1] []
theorem pmk_err {X : Cx} {C : Addr} {j : Nat} {x f p1 : Str} {e : Expr} {ta : TA} {p pos : Pos} (B : ErrC X.prog X.w X.K X.mg X.base C x f p1) (hr : Room j X.A) (hk : 2 ≤ j) (hg : Gl X x) (ha : PA X [e] ta)
    (hdb : (x == ("__debug__" : Str)) = false := by decide) (he : starEach [e] X.env = (false, eval e X.env) :: starEach [] X.env := by rfl) (hpl : (backTo pos (starEach [] X.env)).any (·.1) = false := by rfl) :
    PMk X (.Call (.Name x p) [e] [] pos) (tMkO C (spOne C f) [] ta) := by
  obtain ⟨g, fd, h1, h2, F, b⟩ := B.ini
  obtain ⟨_, _, _, _, T⟩ := B.t.ox
  exact pmk_oexB T h1 h2 F (hr.mono hk) b (fun _ _ _ _ _ _ _ z => z.elim) hg B.t.g ha hdb he hpl
theorem err_ok {C a : Addr} {f : Str} {y : V} {H1 : Hp} {Q E : XK} (na : H1 a = none) (h : ∀ H' d, Same H1 H' → H1 d = none → H' d = some (.xd [(f, y)]) → Q (.ref C) (some d) H') :
    spOne C f [.ref a, y] (upd H1 a (exo a C none)) (fun v H2 => v = .non ∧ ∃ (d : Addr) (fs : List (Str × V)), H2 a = some (exo a C (some d)) ∧ H2 d = some (exd d fs) ∧ H1 d = none ∧ Q (.ref C) (some d) (upd (del H2 a) d (.xd fs))) E := by
  refine ⟨a, y, rfl, upd_same, fun d hd hda => ⟨rfl, d, [(f, y)], upd_same, (upd_ne hda).trans upd_same, ?_, ?_⟩⟩
  · rw [upd_ne hda] at hd
    exact hd
  · rw [upd_ne hda] at hd
    refine h _ d (fun b o e => ?_) hd upd_same
    have n1 : b ≠ a := ne_of_none e na
    have n2 : b ≠ d := ne_of_none e hd
    rw [upd_ne n2, del_ne n1, upd_ne n1, upd_ne n2, upd_ne n1]
    exact e
end WB

set_option Elab.async false
set_option linter.all false
set_option maxRecDepth 100000
set_option maxHeartbeats 4000000
namespace WB
open PySem L2 PyProof.Rows
/-! ### sorted texts: one order -/
theorem lt_tri : ∀ {a b : List Nat}, PySem.Spec.ltCps a b = false → PySem.Spec.ltCps b a = false → a = b
  | [], [], _, _ => rfl
  | [], _ :: _, h, _ => by cases h
  | _ :: _, [], _, h => by cases h
  | a :: r, b :: t, h1, h2 => by
    unfold PySem.Spec.ltCps at h1 h2
    rw [Bool.or_eq_false_iff] at h1 h2
    have n1 := of_decide_eq_false h1.1
    have n2 := of_decide_eq_false h2.1
    have e : a = b := by omega
    subst e
    have h3 := h1.2
    have h4 := h2.2
    rw [beq_self_eq_true, Bool.true_and] at h3 h4
    rw [lt_tri h3 h4]
theorem lt_trans' : ∀ {a b c : List Nat}, PySem.Spec.ltCps b a = false → PySem.Spec.ltCps c b = false → PySem.Spec.ltCps c a = false
  | [], b, c, h1, h2 => by
    cases c with
    | nil => rfl
    | cons x r => rfl
  | a :: r, [], c, h1, h2 => by cases h1
  | a :: r, b :: t, [], h1, h2 => by cases h2
  | a :: r, b :: t, c :: u, h1, h2 => by
    unfold PySem.Spec.ltCps at h1 h2 ⊢
    rw [Bool.or_eq_false_iff] at h1 h2 ⊢
    have n1 := of_decide_eq_false h1.1
    have n2 := of_decide_eq_false h2.1
    refine ⟨decide_eq_false (by omega), ?_⟩
    by_cases e : c = a
    · subst e
      have e2 : b = c := by omega
      subst e2
      have h3 := h1.2
      have h4 := h2.2
      rw [beq_self_eq_true, Bool.true_and] at h3 h4
      rw [beq_self_eq_true, Bool.true_and]
      exact lt_trans' h3 h4
    · rw [beq_eq_false_iff_ne.mpr e, Bool.false_and]
theorem rising_pw : ∀ {l : List Str} {p : Str}, risingS p l = true → (p :: l).Pairwise (fun a b => PySem.Spec.ltCps b.cps.toList a.cps.toList = false)
  | [], p, _ => List.pairwise_singleton _ _
  | x :: r, p, h => by
    have h' : (!PySem.Spec.ltCps x.cps.toList p.cps.toList && risingS x r) = true := h
    rw [Bool.and_eq_true, Bool.not_eq_true'] at h'
    have ih := rising_pw h'.2
    refine List.pairwise_cons.mpr ⟨fun y hy => ?_, ih⟩
    rcases List.mem_cons.mp hy with e | hy
    · rw [e]
      exact h'.1
    · exact lt_trans' h'.1 ((List.pairwise_cons.mp ih).1 y hy)
theorem sorted_pw {l : List Str} (h : sortedS l = true) : l.Pairwise (fun a b => PySem.Spec.ltCps b.cps.toList a.cps.toList = false) := by
  cases l with
  | nil => exact List.Pairwise.nil
  | cons x r => exact rising_pw h
theorem str_cps {a b : Str} (h : a.cps.toList = b.cps.toList) : a = b := by
  rw [← SX.S_tl a, ← SX.S_tl b, h]
theorem sorted_one {ys zs : List Str} (p : ys.Perm zs) (h1 : sortedS ys = true) (h2 : sortedS zs = true) : ys = zs :=
  p.eq_of_pairwise (fun a b _ _ h3 h4 => str_cps (lt_tri h4 h3)) (sorted_pw h1) (sorted_pw h2)
/-! ### tables by names -/
def kv (g : β → V) (p : Str × β) : Key × V := (.inr p.1, g p.2)
def putP (ps : List (Str × β)) (n : Str) (b : β) : List (Str × β) := if (ps.any fun p => decide (p.1 = n)) = true then ps.map (fun p => if p.1 = n then (p.1, b) else p) else ps ++ [(n, b)]
def dropP (ps : List (Str × β)) (n : Str) : List (Str × β) := ps.filter fun p => decide (p.1 ≠ n)
def getP (ps : List (Str × β)) (n : Str) : Option β := (ps.find? fun p => decide (p.1 = n)).map (·.2)
theorem inr_dec (a b : Str) : decide ((Sum.inr a : Key) = .inr b) = decide (a = b) := by
  by_cases h : a = b
  · rw [decide_eq_true h, decide_eq_true (congrArg _ h)]
  · rw [decide_eq_false h, decide_eq_false fun e => h (Sum.inr.inj e)]
theorem put_kv (g : β → V) (ps : List (Str × β)) (n : Str) (b : β) : putK (ps.map (kv g)) (.inr n) (g b) = (putP ps n b).map (kv g) := by
  have e : ((ps.map (kv g)).any fun p => decide (p.1 = Sum.inr n)) = ps.any fun p => decide (p.1 = n) := by
    rw [List.any_map]
    exact congrArg ps.any (funext fun p => inr_dec p.1 n)
  unfold putK putP
  rw [e]
  split
  · rw [List.map_map, List.map_map]
    refine List.map_congr_left fun p _ => ?_
    show (if (Sum.inr p.1 : Key) = .inr n then _ else _) = kv g (if p.1 = n then _ else _)
    by_cases h : p.1 = n
    · rw [if_pos h, if_pos (congrArg _ h)]
      rfl
    · rw [if_neg h, if_neg fun e => h (Sum.inr.inj e)]
  · rw [List.map_append]
    rfl
theorem drop_kv (g : β → V) (ps : List (Str × β)) (n : Str) : dropK (ps.map (kv g)) (.inr n) = (dropP ps n).map (kv g) := by
  unfold dropK dropP
  rw [List.filter_map]
  refine congrArg _ (List.filter_congr fun p _ => ?_)
  have e1 : ∀ (P : Prop) [Decidable P] [Decidable (¬P)], decide (¬P) = !decide P := fun P _ _ => by
    by_cases h : P
    · rw [decide_eq_true h, decide_eq_false (fun q => q h)]
      rfl
    · rw [decide_eq_false h, decide_eq_true h]
      rfl
  exact (e1 _).trans ((congrArg Bool.not (inr_dec p.1 n)).trans (e1 _).symm)
theorem get_kv (g : β → V) : ∀ (ps : List (Str × β)) (n : Str), valV (ps.map (kv g)) (.inr n) = (getP ps n).map g
  | [], _ => rfl
  | p :: r, n => by
    by_cases h : p.1 = n
    · have e1 : valV ((p :: r).map (kv g)) (.inr n) = some (g p.2) := valV_pos (p := kv g p) (r := r.map (kv g)) (congrArg Sum.inr h)
      have e2 : getP (p :: r) n = some p.2 := by
        unfold getP
        rw [List.find?_cons, decide_eq_true h]
        rfl
      rw [e1, e2]
      rfl
    · have e1 : valV ((p :: r).map (kv g)) (.inr n) = valV (r.map (kv g)) (.inr n) := valV_neg (p := kv g p) (r := r.map (kv g)) fun e => h (Sum.inr.inj e)
      have e2 : getP (p :: r) n = getP r n := by
        unfold getP
        rw [List.find?_cons, decide_eq_false h]
      rw [e1, e2, get_kv g r n]
theorem keys_kv (g : β → V) (ps : List (Str × β)) : (ps.map (kv g)).map (·.1) = (ps.map (·.1)).map Sum.inr := by
  rw [List.map_map, List.map_map]
  rfl
theorem putP_len (ps : List (Str × β)) (n : Str) (b : β) : (putP ps n b).length ≤ ps.length + 1 := by
  unfold putP
  split
  · rw [List.length_map]
    omega
  · rw [List.length_append]
    exact Nat.le_refl _
theorem putP_mem {ps : List (Str × β)} {n : Str} {b : β} {p : Str × β} (h : p ∈ putP ps n b) : p = (n, b) ∨ p ∈ ps := by
  unfold putP at h
  split at h
  · obtain ⟨q, hq, e⟩ := List.mem_map.mp h
    by_cases c : q.1 = n
    · rw [if_pos c] at e
      rw [← e, c]
      exact .inl rfl
    · rw [if_neg c] at e
      rw [← e]
      exact .inr hq
  · rcases List.mem_append.mp h with h | h
    · exact .inr h
    · exact .inl (List.mem_singleton.mp h)
theorem getP_mem {ps : List (Str × β)} {n : Str} {b : β} (h : getP ps n = some b) : (n, b) ∈ ps := by
  unfold getP at h
  cases e : ps.find? fun p => decide (p.1 = n) with
  | none =>
    rw [e] at h
    cases h
  | some p =>
    rw [e] at h
    have h2 := List.find?_some e
    have h3 := List.mem_of_find?_eq_some e
    obtain ⟨p1, p2⟩ := p
    cases Option.some.inj h
    cases of_decide_eq_true h2
    exact h3
/-! ### names -/
def alph : List Nat := List.range' 97 26 ++ [32]
theorem alph_eq : ("abcdefghijklmnopqrstuvwxyz " : Str) = S alph := by decide +kernel
def nameS (z : Str) : Bool := decide (1 ≤ z.length) && decide (z.length ≤ 13) && z.cps.toList.all fun c => decide (c ∈ alph)
def nameB : V → Bool
  | .str z => nameS z
  | _ => false
theorem nameB_noStr {K : PySem.W.Frag} {H : Hp} {x : V} (h : NoStr K H x) : nameB x = false := by
  cases x with
  | str y =>
    obtain ⟨t, ty, k⟩ := h
    cases ty with
    | base b =>
      cases b
      exact absurd k (by decide +kernel)
  | non => rfl
  | bl b => rfl
  | int i => rfl
  | byt b => rfl
  | flt b => rfl
  | ref a => rfl
  | ty n => rfl
theorem nameS_len {z : Str} (h : nameS z = true) : z.length ≤ 13 := by
  unfold nameS at h
  rw [Bool.and_eq_true, Bool.and_eq_true] at h
  exact of_decide_eq_true h.1.2
def spIsName (K : PySem.W.Frag) : Sp := fun vs H Q _ => ∃ x : V, vs = [x] ∧ Thing K H x ∧ ∀ H', Same H H' → Q (.bl (nameB x)) H'
/-! ### worlds -/
def wF (d : Addr) : List (Str × V) := [("boxes", .ref d)]
theorem wF_lk (d : Addr) : (wF d).lookup ("boxes" : Str) = some (.ref d) := by simp [wF, List.lookup]
theorem wF_no (d : Addr) {m : Str} (h : ¬ m = "boxes") : (wF d).lookup m = none := by
  have e : (m == ("boxes" : Str)) = false := by simpa using h
  simp [wF, List.lookup, e]
/-- a world at w, its table at d -/
def WAt (C : Addr) (H : Hp) (w d : Addr) (kvs : List (Key × V)) : Prop := (∃ dx, H w = some (.ins C dx (wF d))) ∧ H d = some (.dK kvs)
theorem WAt.same {C w d : Addr} {H H' : Hp} {kvs : List (Key × V)} (h : WAt C H w d kvs) (s : Same H H') : WAt C H' w d kvs := by
  obtain ⟨⟨dx, h1⟩, h2⟩ := h
  exact ⟨⟨dx, s _ _ h1⟩, s _ _ h2⟩
theorem WAt.bar {C w d p : Addr} {H H' : Hp} {kvs : List (Key × V)} (h : WAt C H w d kvs) (s : Bar p H H') (n : w ≠ p) (m : d ≠ p) : WAt C H' w d kvs := by
  obtain ⟨⟨dx, h1⟩, h2⟩ := h
  exact ⟨⟨dx, s _ _ n h1⟩, s _ _ m h2⟩
theorem WAt.bag {C w d p q : Addr} {H : Hp} {kvs : List (Key × V)} (h : WAt C H w d kvs) (hb : BagAt H p q) : w ≠ p ∧ d ≠ p := by
  obtain ⟨⟨dx, h1⟩, h2⟩ := h
  obtain ⟨c, s, i, ns, h3, _⟩ := hb
  exact ⟨ne_of h1 h3 (by intro e; cases e), ne_of h2 h3 (by intro e; cases e)⟩
theorem WAt.ne {C w d : Addr} {H : Hp} {kvs : List (Key × V)} (h : WAt C H w d kvs) : d ≠ w := by
  obtain ⟨⟨dx, h1⟩, h2⟩ := h
  exact fun e => by
    rw [e, h1] at h2
    cases h2
/-- what the top says of World -/
structure WorldC (K : PySem.W.Frag) (mg : Str → Option Value) (C : Addr) : Prop where
  cl : Cls K C
  nB : NoAttr K C "boxes"
  gW : ∃ u, mg "World" = some u ∧ RelV (.ref C) u
def inW (kvs : List (Key × V)) : V → Bool
  | .str z => (valV kvs (.inr z)).isSome
  | _ => false
theorem inW_noStr {K : PySem.W.Frag} {H : Hp} {x : V} (h : NoStr K H x) (kvs : List (Key × V)) : inW kvs x = false := by
  cases x with
  | str y =>
    obtain ⟨t, ty, k⟩ := h
    cases ty with
    | base b =>
      cases b
      exact absurd k (by decide +kernel)
  | non => rfl
  | bl b => rfl
  | int i => rfl
  | byt b => rfl
  | flt b => rfl
  | ref a => rfl
  | ty n => rfl
def spInitW (C : Addr) : Sp := fun vs H Q _ => ∃ w dx : Addr, vs = [.ref w] ∧ H w = some (.ins C dx []) ∧ ∀ H' d, Bar w H H' → H d = none → WAt C H' w d [] → Q .non H'
def spHasW (K : PySem.W.Frag) (C : Addr) : Sp := fun vs H Q _ => ∃ (w d : Addr) (kvs : List (Key × V)) (x : V), vs = [.ref w, x] ∧ WAt C H w d kvs ∧ Thing K H x ∧ Q (.bl (inW kvs x)) H
def spLenW (C : Addr) : Sp := fun vs H Q _ => ∃ (w d : Addr) (kvs : List (Key × V)), vs = [.ref w] ∧ WAt C H w d kvs ∧ Q (.int kvs.length) H
def spNames (C : Addr) : Sp := fun vs H Q _ => ∃ (w d : Addr) (kvs : List (Key × V)) (ks : List Str), vs = [.ref w] ∧ WAt C H w d kvs ∧ kvs.map (·.1) = ks.map Sum.inr ∧ ks.length < 64 ∧
  ∀ ys p, ys.Perm ks → sortedS ys = true → H p = none → Q (.ref p) (upd H p (.lst (ys.map V.str)))
/-- world[name], with the answer where the name isn't bound -/
def spGetX (K : PySem.W.Frag) (C CN : Addr) : Sp := fun vs H Q E => ∃ (w d : Addr) (kvs : List (Key × V)) (x : V), vs = [.ref w, x] ∧ WAt C H w d kvs ∧ Thing K H x ∧
  (∀ z v, x = .str z → valV kvs (.inr z) = some v → Q v H) ∧ (inW kvs x = false → ∀ H' e, Same H H' → H e = none → H' e = some (.xd [("name", x)]) → E (.ref CN) (some e) H')
/-- world[name] = box, both as they should be -/
def spPut (C CB : Addr) : Sp := fun vs H Q _ => ∃ (w d b : Addr) (kvs : List (Key × V)) (n z : Str), vs = [.ref w, .str n, .ref b] ∧ WAt C H w d kvs ∧ nameS n = true ∧ BoxAt CB H b z ∧ kvs.length < 1000 ∧
  ∀ H1, Same H H1 → Q .non (upd H1 d (.dK (putK kvs (.inr n) (.ref b))))
end WB

set_option Elab.async false
set_option linter.all false
set_option maxRecDepth 100000
set_option maxHeartbeats 4000000
namespace WB
open PySem L2 PyProof.Rows
/-! ### a def whose promise knows the guards, called by its name -/
structure CalG (P : Program) (w : World) (K : PySem.W.Frag) (mg : Str → Option Value) (base : Heap) (k : Nat) (x : Str) (sp : Sp) : Prop where
  ex : ∃ (f : Addr) (fd : FuncData) (ps : List Str), FnG P w K mg base C8.CX0 k f fd ps sp ∧ mg x = some (.ref f) ∧ PySem.W.keepIn K (.ref f) = true ∧ Binds K fd ps []
theorem pe_cG {X : Cx} {k j : Nat} {x : Str} {sp : Sp} {p pos : Pos} {e : Expr} {es : List Expr} {t : TA} (c : CalG X.prog X.w X.K X.mg X.base k x sp) (gd : X.A.guards = some []) (hr0 : Room j X.A) (hk : k ≤ j) (hg : Gl X x) (ha : PA X (e :: es) t)
    (hdb : (x == ("__debug__" : Str)) = false := by decide) (he : starEach (e :: es) X.env = (false, eval e X.env) :: starEach es X.env := by rfl) (hpl : (backTo pos (starEach es X.env)).any (·.1) = false := by rfl) :
    PE X (.Call (.Name x p) (e :: es) [] pos) (tCall sp [] E0 t) := by
  obtain ⟨f, fd, ps, F, hm, kp, b⟩ := c.ex
  have hr := hr0.mono hk
  refine ⟨fun pins s σ H Q I h => wpAny_Call_Name_kw (ld_glob I hg hm ?_ hdb)⟩
  refine PySem.W.callWith_K (h₀ := X.base) I.ok.mod.kin kp (thn (ha.run pos pins s σ H _ I h) fun us s1 z => ?_) he hpl
  obtain ⟨vs, H1, I1, r, q⟩ := z
  rw [List.append_nil] at q
  have hl : (us ++ ([] : List Value)).length = ps.length := by
    rw [List.append_nil, ← r.length]
    exact F.len _ _ _ _ q
  have hb2 := b s1 us I1.kIn hl
  rw [List.append_nil] at hb2
  refine ⟨I1.kIn, wpAny_call (codeAny_mono (F.run X.A X.stack s1 H1 ⟨us, []⟩ us vs Q E0 gd hr I1.env0 hb2 r q) fun r s' hq => ?_)⟩
  cases r with
  | error er => exact pass0 pins σ H1 s1 er s' I1 hq
  | ok fl =>
    cases fl with
    | ret u => exact I1.after hq
    | next => exact hq.elim
    | brk => exact hq.elim
    | cont => exact hq.elim
/-! ### data in a heap that the bag's changes leave -/
theorem SqL.mono {K : PySem.W.Frag} {H H' : Hp} {a : Addr} {xs : List V} (h : SqL K H a xs) (s : Same H H') : SqL K H' a xs := s.seq h
end WB

set_option Elab.async false
set_option linter.all false
set_option maxRecDepth 100000
set_option maxHeartbeats 4000000
namespace WB
open PySem L2 PyProof.Rows
theorem piled_le {m : Nat} : ∀ {ts : List Str}, (∀ t ∈ ts, t.length ≤ m) → piled ts ≤ ts.length * (m + 2)
  | [], _ => by
    rw [piled_nil]
    exact Nat.zero_le _
  | t :: r, h => by
    have ih := piled_le (ts := r) fun x hx => h x (List.mem_cons_of_mem _ hx)
    have ht := h t List.mem_cons_self
    rw [piled_cons, List.length_cons, Nat.succ_mul]
    omega
/-- a list of short texts, as data -/
theorem data_strs {K : PySem.W.Frag} {H : Hp} {l : Addr} {zs : List Str} (h : SqL K H l (zs.map V.str)) (hs : ∀ z ∈ zs, SmallS z) (hn : zs.length ≤ 64) : Dp K H (.ref l) (.list (zs.map PyData.str)) ∧ OkD (.list (zs.map PyData.str)) := by
  obtain ⟨h1, h2, h3, h4⟩ := showAll_strs zs
  refine ⟨.lst h (dp_all_strs zs), h1, h2, ?_, .inr ?_⟩
  · show PyData.depthAll _ + 1 ≤ 64
    rw [h3]
    decide
  · show (listText (PyData.shownAll _)).length ≤ _
    rw [h4]
    have pl := piled_le (m := 3002) (ts := zs.map reprText) fun t ht => by
      obtain ⟨z, hz, rfl⟩ := List.mem_map.mp ht
      exact repr_len (hs z hz)
    rw [List.length_map] at pl
    unfold listText
    rw [Str.length_append]
    have h5 := textFrom_le (zs.map reprText) 0 "["
    have h6 : ("[" : Str).length = 1 := by decide +kernel
    have h7 : ("]" : Str).length = 1 := by decide +kernel
    have h8 : zs.length * (3002 + 2) ≤ 64 * 3004 := Nat.mul_le_mul hn (Nat.le_refl _)
    have h9 : 300000 ≤ sizeLine := by decide
    omega
theorem inW_kv {β : Type} (g g' : β → V) (ps : List (Str × β)) (x : V) : inW (ps.map (kv g)) x = inW (ps.map (kv g')) x := by
  cases x with
  | str z =>
    show (valV _ _).isSome = (valV _ _).isSome
    rw [get_kv, get_kv]
    cases getP ps z <;> rfl
  | non => rfl
  | bl b => rfl
  | int i => rfl
  | byt b => rfl
  | flt b => rfl
  | ref a => rfl
  | ty n => rfl
/-- s.ljust(n, c) -/
theorem mt_ljust2 {X : Cx} : MtR X "str.ljust" (fun x xs H Q => ∃ (a f : Str) (i : Int), x = .str a ∧ xs = [.int i, .str f] ∧ PadOk i = true ∧ f.length = 1 ∧ Q (.str (Txt.ljustF a i (f.cps.getD 0 0))) H) := by
  intro pins s σ H x xs v us Q I rx rs h
  obtain ⟨a, f, i, rfl, rfl, hp, hf, q⟩ := h
  obtain ⟨t, rfl⟩ := rx
  obtain ⟨u1, u2, rfl, r1, r2⟩ := vals2 rs
  obtain ⟨t1, rfl⟩ := r1
  obtain ⟨t2, rfl⟩ := r2
  exact ljust_fill hp hf fun t' k => ⟨.str _, H, I.tok _, ⟨_, rfl⟩, q⟩
theorem ljust_sm {a : Str} {n c : Nat} (h : Sm n a) (hc : c < 1000 ∧ c ≠ 10) (hn : n ≤ 14) : Sm 14 (Txt.ljustF a 14 c) := by
  unfold Txt.ljustF
  split
  · exact ⟨Nat.le_trans h.1 hn, h.2⟩
  · rename_i g
    refine ⟨?_, fun x hx => ?_⟩
    · show (Array.replicate 0 c ++ a.cps ++ Array.replicate _ c).size ≤ 14
      rw [Array.size_append, Array.size_append, Array.size_replicate, Array.size_replicate]
      have : ((a.cps.size : Nat) : Int) < 14 := Int.not_le.mp g
      have e : (14 : Int).toNat = 14 := rfl
      show 0 + a.cps.size + ((14 : Int).toNat - a.cps.size) ≤ 14
      omega
    · have hx : x ∈ (Array.replicate 0 c ++ a.cps ++ Array.replicate ((14 : Int).toNat - a.length) c).toList := hx
      rw [Array.toList_append, Array.toList_append, Array.toList_replicate, Array.toList_replicate] at hx
      rcases List.mem_append.mp hx with hx | hx
      · rcases List.mem_append.mp hx with hx | hx
        · exact absurd hx List.not_mem_nil
        · exact h.2 x hx
      · rw [(List.mem_replicate.mp hx).2]
        exact hc
theorem Bar.free {p l : Addr} {H H' : Hp} (b : Bar p H H') (h : H' l = none) (n : l ≠ p) : H l = none := by
  cases e : H l with
  | none => rfl
  | some o =>
    rw [b l o n e] at h
    cases h
/-- a change at a place that H does not know -/
theorem Bar.put {p l : Addr} {H H' : Hp} {o : HO} (b : Bar p H H') (h : H l = none) : Bar p H (upd H' l o) := fun c u n e => by
  rw [upd_ne (ne_of_none e h)]
  exact b c u n e
theorem take_nil_sm {z : Str} (h : nameS z = true) {lo hi : Option Int} : Sm 13 (cutS z lo hi) := (show Sm 13 z from ⟨nameS_len h, fun c hc => by
  unfold nameS at h
  rw [Bool.and_eq_true] at h
  have hm := of_decide_eq_true (List.all_eq_true.mp h.2 c hc)
  exact (by decide +kernel : ∀ c ∈ alph, c < 1000 ∧ c ≠ 10) c hm⟩).cut
def spWord : Sp := fun vs H Q _ => ∃ p q : Addr, vs = [.ref p] ∧ BagAt H p q ∧ ∀ H' z, Bar p H H' → BagAt H' p q → nameS z = true → Q (.str z) H'
def spPool : Sp := fun vs H Q _ => ∃ p q : Addr, vs = [.ref p] ∧ BagAt H p q ∧ ∀ (H' : Hp) (l : Addr) (zs : List Str), Bar p H H' → BagAt H' p q → H l = none → H' l = some (.lst (zs.map V.str)) → 0 < zs.length → zs.length ≤ 6 → (∀ z ∈ zs, nameS z = true) → Q (.ref l) H'
def spOdd : Sp := fun vs H Q _ => ∃ (p q : Addr) (z : Str), vs = [.ref p, .str z] ∧ BagAt H p q ∧ nameS z = true ∧ ∀ H' x, Bar p H H' → BagAt H' p q → PlainAt p H' x → (∀ i, x = .int i → (PyData.shown (.int i)).length ≤ 400) → Q x H'
def spMissing (K : PySem.W.Frag) (C : Addr) : Sp := fun vs H Q _ => ∃ (w d : Addr) (kvs : List (Key × V)) (x : V), vs = [.ref w, x] ∧ WAt C H w d kvs ∧ Thing K H x ∧ inW kvs x = false ∧ ∀ H' l, Same H H' → H l = none → H' l = some (.lst [x]) → Q (.ref l) H'
/-- boxes at ow, names bound to their numbers -/
def gB (ow : List Addr) (k : Nat) : V := .ref (ow.getD k 0)
def gN (k : Nat) : V := .int (k : Nat)
def spRightN (C CB : Addr) : Sp := fun vs H Q _ => ∃ (p q w d l bd bx : Addr) (zs : List Str) (ps : List (Str × Nat)) (ow : List Addr), vs = [.ref p, .ref w, .ref l, .ref bd, .ref bx] ∧ BagAt H p q ∧ WAt C H w d (ps.map (kv (gB ow))) ∧
  H l = some (.lst (zs.map V.str)) ∧ 0 < zs.length ∧ zs.length ≤ 6 ∧ (∀ z ∈ zs, nameS z = true) ∧ H bd = some (.dK (ps.map (kv gN))) ∧ H bx = some (.lst (ow.map V.ref)) ∧ (∀ b ∈ ow, ∃ z, BoxAt CB H b z) ∧ ps.length < 60 ∧ (∀ e ∈ ps, nameS e.1 = true ∧ e.2 < ow.length) ∧
  ∀ H', Bar p H H' → BagAt H' p q → Q (.bl true) H'
theorem nameS_sm {z : Str} (h : nameS z = true) : Sm 13 z := by
  refine ⟨nameS_len h, fun c hc => ?_⟩
  unfold nameS at h
  rw [Bool.and_eq_true] at h
  have hm := of_decide_eq_true (List.all_eq_true.mp h.2 c hc)
  have : ∀ c ∈ alph, c < 1000 ∧ c ≠ 10 := by decide +kernel
  exact this c hm
theorem nameS_small {z : Str} (h : nameS z = true) : SmallS z := (nameS_sm h).small
theorem nameS_of {l : List Nat} (h1 : 1 ≤ l.length) (h2 : l.length ≤ 13) (h : ∀ c ∈ l, c ∈ alph) : nameS (S l) = true := by
  unfold nameS
  have e : (S l).length = l.length := SX.S_len l
  rw [e, decide_eq_true h1, decide_eq_true h2, Bool.true_and, Bool.true_and, List.all_eq_true]
  exact fun c hc => decide_eq_true (h c hc)
theorem nameS_all {z : Str} (h : nameS z = true) : ∀ c ∈ z.cps.toList, c ∈ alph := fun c hc => by
  unfold nameS at h
  rw [Bool.and_eq_true] at h
  exact of_decide_eq_true (List.all_eq_true.mp h.2 c hc)
theorem nameS_pos {z : Str} (h : nameS z = true) : 1 ≤ z.length := by
  unfold nameS at h
  rw [Bool.and_eq_true, Bool.and_eq_true] at h
  exact of_decide_eq_true h.1.1
/-- another letter at one place -/
theorem name_swap {y : Str} (h : nameS y = true) {c k : Nat} (hc : c ∈ alph) (hk : k < y.length) : nameS (cutS y none (some (k : Int)) ++ (⟨#[c]⟩ : Str) ++ cutS y (some ((k : Int) + 1)) none) = true := by
  have hl := nameS_len h
  have hn : y.cps.toList.length = y.length := Array.length_toList
  have ha := nameS_all h
  have e1 : cutS y none (some (k : Int)) = S (y.cps.toList.take k) := by
    unfold cutS
    rw [HT.sIx_none, HT.sIx_nat, Nat.min_eq_left (Nat.le_of_lt hk), List.drop_zero, Nat.sub_zero]
  have e2 : cutS y (some ((k : Int) + 1)) none = S ((y.cps.toList.drop (k + 1)).take (y.length - (k + 1))) := by
    unfold cutS
    rw [show ((k : Int) + 1) = ((k + 1 : Nat) : Int) from rfl, HT.sIx_none, HT.sIx_nat, Nat.min_eq_left hk]
  rw [e1, e2, show (⟨#[c]⟩ : Str) = S [c] from rfl, SX.S_cat, SX.S_cat]
  refine nameS_of ?_ ?_ fun x hx => ?_
  · simp only [List.length_append, List.length_take, List.length_drop, List.length_cons, List.length_nil]
    omega
  · simp only [List.length_append, List.length_take, List.length_drop, List.length_cons, List.length_nil]
    omega
  · rcases List.mem_append.mp hx with hx | hx
    · rcases List.mem_append.mp hx with hx | hx
      · exact ha x (List.mem_of_mem_take hx)
      · rw [List.mem_singleton.mp hx]
        exact hc
    · exact ha x (List.mem_of_mem_drop (List.mem_of_mem_take hx))
theorem shaped_sm {zs : List Str} (h : ∀ z ∈ zs, SmallS z) : SeqAt.shaped (.list (zs.map PyData.str)) = true := by
  have e1 : PyData.canLay0 (.list (zs.map PyData.str)) = true := lay_texts zs fun z hz => (h z hz).2
  obtain ⟨_, _, h3, _⟩ := showAll_strs zs
  have e2 : PyData.depth (.list (zs.map PyData.str)) ≤ 64 := by
    show PyData.depthAll (zs.map _) + 1 ≤ 64
    rw [h3]
    decide
  unfold SeqAt.shaped
  rw [e1, decide_eq_true e2]
  rfl
theorem flat_strsW (zs : List Str) : (zs.map V.str).all flatV = true := by
  rw [List.all_map]
  exact List.all_eq_true.mpr fun _ _ => rfl
theorem eqv_nil_txs (zs : List Str) : PyData.eqv (.list (zs.map PyData.str)) (.list []) = decide (zs = []) := by
  cases zs with
  | nil => rfl
  | cons n r =>
    rw [decide_eq_false (by simp)]
    rfl
end WB

set_option Elab.async false
set_option linter.all false
set_option maxRecDepth 100000
set_option maxHeartbeats 4000000
namespace WB
open PySem L2 PyProof.Rows
/-! ### for i, x in enumerate(tuple) -/
theorem new_enum_tup {t : Addr} {items : Array Value} :
    Meets (Builtin.«enumerate.__new__» ⟨[.type "enumerate", .ref t], []⟩) (fun _ R s => s.heap.IsTuple t items ∧
      R (.ok (.ret (.ref (s.heap.push { cls := .type "tuple_iterator", data := .fields #[.ref t, .int 0 0] }).objs.size))) { s with heap := (s.heap.push { cls := .type "tuple_iterator", data := .fields #[.ref t, .int 0 0] }).push { cls := .type "enumerate", data := .fields #[.none, .bool false, .ref s.heap.objs.size, rawInt 0, .none, .none] } }) :=
  .of_wp fun prog w A R s h => by
    obtain ⟨ht, h⟩ := h
    obtain ⟨hp, g, d, tk, os⟩ := s
    have hsub := sub_enumerate
    have B := begins_tuple t items
    have q1 : ∀ {A' : Around} {E : Value → Shared → Prop} {Q : Value → Shared → Prop}, Q (.ref hp.objs.size) ⟨hp.push { cls := .type "tuple_iterator", data := .fields #[.ref t, .int 0 0] }, g, d, tk, os⟩ → wpAny (model prog w) A' (pyIter (.ref t)) Q E ⟨hp, g, d, tk, os⟩ :=
      fun q => B.iter prog w _ _ ⟨hp, g, d, tk, os⟩ _ ht q
    wp_walk using q1
    refine wpAny_stack_any fun st => wpAny_pure ?_
    split
    · rename_i c _ _ _ _ _
      cases (c == Value.type "enumerate")
      · wp_walk using q1
        exact ⟨_, rfl, h⟩
      · wp_walk using q1
        exact ⟨_, rfl, h⟩
    · wp_walk using q1
      exact ⟨_, rfl, h⟩
theorem call_enum_tup {prog : Program} {w : World} {A : Around} {E : Value → Shared → Prop} {s : Shared} {t : Addr} {items : Array Value} {Q : Value → Shared → Prop} (ht : s.heap.IsTuple t items)
    (h : ∀ h', IsEnum h' (s.heap.objs.size + 1) s.heap.objs.size 0 .none → h'.IsTupleIter s.heap.objs.size t 0 →
      (∀ b o, s.heap.get? b = some o → h'.get? b = some o) → Q (.ref (s.heap.objs.size + 1)) { s with heap := h' }) :
    wpAny (model prog w) A (call (.type "enumerate") [.ref t]) Q E s := by
  refine callType_new F.called_enumerate (by decide) (F.typeCall_enumerate_1 _) (F.newCall_enumerate_1 _) (fun obj => F.args_object_init_2 obj _) F.entry_enumerate_new (new_enum_tup (items := items)) ?_
  refine ⟨ht, ?_⟩
  have hz : (s.heap.push { cls := .type "tuple_iterator", data := .fields #[.ref t, .int 0 0] }).objs.size = s.heap.objs.size + 1 := Heap.size_push ..
  show _ ∧ _
  rw [hz]
  have he : IsEnum ((s.heap.push { cls := .type "tuple_iterator", data := .fields #[.ref t, .int 0 0] }).push { cls := .type "enumerate", data := .fields #[.none, .bool false, .ref s.heap.objs.size, rawInt 0, .none, .none] }) (s.heap.objs.size + 1) s.heap.objs.size 0 .none := by
    have := Heap.get?_push_size (s.heap.push { cls := .type "tuple_iterator", data := .fields #[.ref t, .int 0 0] }) (o := { cls := .type "enumerate", data := .fields #[.none, .bool false, .ref s.heap.objs.size, rawInt 0, .none, .none] }) rfl
    rw [hz] at this
    exact this
  refine ⟨⟨_, he, rfl⟩, h _ he ⟨_, Heap.get?_push_of_some _ (Heap.get?_push_size _ rfl), rfl, rfl⟩ fun b o y => Heap.get?_push_of_some _ (Heap.get?_push_of_some _ y)⟩
theorem isTuple_of {h : Heap} {a : Addr} {its : Array Value} (p : IsTup h a its) : h.IsTuple a its := by
  obtain ⟨o, h1, h2, n, h3⟩ := p
  exact ⟨o, h1, h2, n, h3⟩
def Itet (K : PySem.W.Frag) (a : Addr) : It :=
  ⟨fun i H => ∃ (xs : List V) (x : V), SqT K H a xs ∧ xs[i]? = some x, fun i H v H' => ∃ T x, v = .ref T ∧ H T = none ∧ H' = upd H T (.tup [.int (i : Nat), x]) ∧ ∀ xs, SqT K H a xs → xs[i]? = some x, fun i H => ∃ xs : List V, SqT K H a xs ∧ xs.length = i⟩
theorem turn_enumT {P : Program} {w : World} {K : PySem.W.Frag} {elts : List Expr} {kk : Nat} {tpos : Pos} (a e it : Addr) (hni : a ≠ it) :
    Turn P w K (.Tuple elts kk tpos) (Itet K a) [e, it] e (fun i h => (∃ old, IsEnum h e it ((i : Nat) : Int) old) ∧ h.IsTupleIter it a i ∧ e ≠ it ∧ a ≠ e) where
  mem := by simp
  obj := fun i h st b hb => by
    obtain ⟨⟨old, he⟩, ⟨o, ho, hc, hd⟩, _⟩ := st
    have e' : b = e ∨ b = it := by simpa using hb
    rcases e' with z | z
    · rw [z]
      exact ⟨_, he, fun v q => nomatch q⟩
    · rw [z]
      exact ⟨o, ho, fun v q => by rw [hd] at q; cases q⟩
  keep := fun i h h' st k => by
    obtain ⟨⟨old, he⟩, hi, hne⟩ := st
    exact ⟨⟨old, k e (by simp) _ he⟩, hi.at fun o q => k it (by simp) o q, hne⟩
  item := by
    intro X hP hw hK hc i pins s σ H E I hf st hg
    subst hP hw hK
    obtain ⟨⟨old, he⟩, hit, hne, hae⟩ := st
    obtain ⟨xs, x, hq, hx⟩ := hg
    obtain ⟨its, rv, p, hz⟩ := I.tuple hq
    obtain ⟨u, hu, ru⟩ := rv.get hx
    have hel : e < s.heap.objs.size := Heap.lt_size he
    have hil : it < s.heap.objs.size := by
      obtain ⟨_, q, _⟩ := hit
      exact Heap.lt_size q
    have hi : i < its.toArray.size := by
      have := (List.getElem?_eq_some_iff.mp hu).1
      simpa using this
    have D := Draws.tuple (prog := X.prog) (w := X.w) (A := X.A.in1) (I.ok.hd hc) it a hni its.toArray
    refine wpAny_pyNext_enum_itemD D he ⟨hit, isTuple_of p⟩ hi hne (by simp [hae.symm, hne]) fun v h' tk hv ho hit' hT hsz hk => ?_
    have ev : v = u := by
      have h1 : its.toArray[i]? = some u := by simpa using hu
      exact Option.some.inj (hv.symm.trans h1)
    subst ev
    refine ⟨_, rfl, wpAny_letOwnedTupleGo_enum (s := { s with heap := h', toks := tk + 1 }) ho fun h'' he' sb => ?_⟩
    have hT2 : h''.get? s.heap.objs.size = some { cls := .type "tuple", data := .seq #[.int i tk, v] } := (sb.2 _ (Nat.ne_of_gt hel)).trans hT
    have new : ObjOk X.prog X.w (upd H s.heap.objs.size (.tup [.int (i : Nat), x])) h'' s.heap.objs.size (.tup [.int (i : Nat), x]) :=
      ⟨by show 2 ≤ sizeLine; decide, [.int i tk, v], .cons ⟨_, rfl⟩ (.cons ru .nil), ⟨_, hT2, rfl, _, rfl⟩⟩
    have I1 : Inv X pins σ (upd H s.heap.objs.size (.tup [.int (i : Nat), x])) { s with heap := h'', toks := tk + 1 } :=
      I.turnedNew (ch := [e, it]) (fun b ob hb q => (sb.2 b (fun z => hb (by simp [z]))).trans (hk b ob (fun z => hb (by simp [z])) (fun z => hb (by simp [z])) q)) hf (Nat.le_refl _) new
    refine ⟨.ref s.heap.objs.size, _, I1, rfl, ⟨_, x, rfl, I.hok.fresh (Nat.le_refl _), rfl, fun ys hy => by rw [I.tuple_inj hy hq]; exact hx⟩, ⟨⟨v, ?_⟩, hit'.1.at fun o q => (sb.2 it (Ne.symm hne)).trans q, hne, hae⟩, fun b hb => ?_⟩
    · have e1 : ((i + 1 : Nat) : Int) = (i : Int) + 1 := by omega
      rw [e1]
      exact he'
    · have hb' : b < s.heap.objs.size := by
        have e' : b = e ∨ b = it := by simpa using hb
        rcases e' with z | z
        · rw [z]
          exact hel
        · rw [z]
          exact hil
      rw [upd_ne (Nat.ne_of_lt hb')]
      exact (hf b hb).1
  done := by
    intro X hP hw hK hc i pins s σ H E I hf st hg
    subst hP hw hK
    obtain ⟨⟨old, he⟩, hit, hne, hae⟩ := st
    obtain ⟨xs, hq, hx⟩ := hg
    obtain ⟨its, rv, p, hz⟩ := I.tuple hq
    obtain ⟨f0, f1, f2, f3, f4, f5⟩ := hf it (by simp)
    have hl := rv.length
    have D := Draws.tuple (prog := X.prog) (w := X.w) (A := X.A.in1) (I.ok.hd hc) it a hni its.toArray
    have hs : i = its.toArray.size := by
      rw [List.size_toArray, ← hl]
      exact hx.symm
    rw [hs] at hit
    exact wpAny_pyNext_enum_endD D he ⟨hit, isTuple_of p⟩ fun h' eb => ⟨rfl, I.turned (t' := s.toks) (fun b o hb q => eb b o hb q) f0 f1 f3 f4 f5⟩
  self := fun A i s Q E st h => by
    obtain ⟨⟨_, he⟩, _⟩ := st
    exact wpAny_pyIter_enum he h
def iEnumT (K : PySem.W.Frag) (ta : TA) : TI := fun σ H R => ta σ H fun vs H1 => ∃ a xs, vs = [.ref a] ∧ SqT K H1 a xs ∧ R (Itet K a) H1
theorem pi_enumT {X : Cx} {e : Expr} {ta : TA} {p pos tpos : Pos} {elts : List Expr} {kk : Nat} (hg : Gl X "enumerate") (hm : X.mg "enumerate" = none) (ha : PA X [e] ta) (hs : starEach [e] X.env = [(false, eval e X.env)] := by rfl) :
    PI X (.Tuple elts kk tpos) (.Call (.Name "enumerate" p) [e] [] pos) (iEnumT X.K ta) := by
  refine ⟨fun pins s σ H R I h => Call_ (ld_blt I hg hm boot_enumerate (PyProof.Rows.callWith_type1 (thn (ha.run pos pins s σ H _ I h) fun us s1 z => ?_) hs rfl))⟩
  obtain ⟨vs, H1, I1, r1, a, xs, ex, hq, q⟩ := z
  subst ex
  obtain ⟨u, rfl, r2⟩ := vals_one r1
  cases (show u = Value.ref a from r2)
  obtain ⟨its, rv, p', hz⟩ := I1.tuple hq
  have hal : a < s1.heap.objs.size := by
    obtain ⟨o, ho, _⟩ := p'
    exact Heap.lt_size ho
  refine call_enum_tup (isTuple_of p') fun h' he hit hk => wpAny_pyIter_enum he ?_
  have I2 : Inv X pins σ H1 { s1 with heap := h' } := I1.kept (t' := s1.toks) hk
  refine ⟨s1.heap.objs.size + 1, [s1.heap.objs.size + 1, s1.heap.objs.size], _, _, H1, rfl, I2, turn_enumT a (s1.heap.objs.size + 1) s1.heap.objs.size (Nat.ne_of_lt hal), ⟨⟨.none, he⟩, hit, Nat.succ_ne_self _, Nat.ne_of_lt (Nat.lt_succ_of_lt hal)⟩, fun b hb => ?_, q⟩
  have hle : s1.heap.objs.size ≤ b := by
    have e' : b = s1.heap.objs.size + 1 ∨ b = s1.heap.objs.size := by simpa using hb
    rcases e' with z | z
    · rw [z]
      exact Nat.le_succ _
    · rw [z]
      exact Nat.le_refl _
  exact I1.fpOk hle (I1.hok.fresh hle)
theorem walk_enumT {K : PySem.W.Frag} {a : Addr} {xs : List V} : Walk (Itet K a) xs.length (fun H => SqT K H a xs) (fun i H v H' => ∃ T x, v = .ref T ∧ H T = none ∧ H' = upd H T (.tup [.int (i : Nat), x]) ∧ xs[i]? = some x) := by
  refine ⟨fun i H hi q => ⟨xs, xs[i], q, List.getElem?_eq_getElem hi⟩, fun H q => ⟨xs, q, rfl⟩, fun i H v H' hi q y => ?_⟩
  obtain ⟨T, x, h1, h2, h3, h4⟩ := y
  exact ⟨T, x, h1, h2, h3, h4 xs q⟩
/-! ### C.m(k = e), m a static method -/
section
variable {X : Cx} {k j : Nat} {g C : Addr} {fd : FuncData} {ps : List Str} {sp : Sp} {Cn m kn : Str} {e : Expr} {te : TE} {p1 apos pos kpos : Pos}
theorem pe_statK {pl : Sem Bool} (sc : StatC X.K X.mg Cn C m g) (F : FnOk X.prog X.w X.K X.mg X.base CX0 k g fd ps sp) (kb : KBn X.K fd ps 0 [kn] (fun _ ws => ws) (fun _ zs => zs)) (hr : Room j X.A) (hk : k ≤ j) (hg : Gl X Cn) (ha : PE X e te) (hdb : (Cn == ("__debug__" : Str)) = false := by decide)
    (hall : (backToKw pos (keywordEach [⟨some kn, e, kpos⟩] X.env)).all (·.1.isSome) = true := by rfl) (hks : (backToKw pos (keywordEach [⟨some kn, e, kpos⟩] X.env)).filterMap (·.1) = [kn] := by rfl)
    (hpl : ((backTo pos (starEach [] X.env)).any (·.1) || (backToKw pos (keywordEach [⟨some kn, e, kpos⟩] X.env)).any (·.1.isNone)) = false := by rfl)
    (ht : eval (.Call (.Attribute (.Name Cn p1) m apos) [] [⟨some kn, e, kpos⟩] pos) X.env = (do
      let ov ← eval (.Name Cn p1) X.env
      standAt apos.atName
      let (f, first) ← holding [ov] (getMethod ov m pl)
      callWith pos f first (backTo pos (starEach [] X.env)) (backToKw pos (keywordEach [⟨some kn, e, kpos⟩] X.env))) := by rfl) :
    PE X (.Call (.Attribute (.Name Cn p1) m apos) [] [⟨some kn, e, kpos⟩] pos) (fun σ H Q => te σ H fun y H1 => sp [y] H1 Q E0) := by
  have hr2 := hr.mono hk
  refine ⟨fun pins s σ H Q I h => PySem.W.methodCall_KW (pl := pl) (ld_glob I hg sc.gC ?_ hdb) ht⟩
  refine static_meth sc I fun s1 I1 => PySem.W.callWith_KW0 (first := []) (h₀ := X.base) I1.ok.mod.kin sc.kp hall ?_ hpl
  refine thn ((pk_cons ha pk_nil).run pos pins s1 σ H (fun zs H2 => ∃ z, zs = [z] ∧ sp [z] H2 Q E0) I1 ?_) fun ws s2 q2 => ?_
  · have e : (fun v H1 => tNil σ H1 fun vs H2 => ∃ z, v :: vs = [z] ∧ sp [z] H2 Q E0) = fun (y : V) H2 => sp [y] H2 Q E0 := by
      funext v H1
      refine propext ⟨fun ⟨x, e, q⟩ => ?_, fun q => ⟨v, rfl, q⟩⟩
      cases e
      exact q
    show te σ H (fun v H1 => tNil σ H1 fun vs H2 => ∃ z, v :: vs = [z] ∧ sp [z] H2 Q E0)
    rw [e]
    exact h
  · obtain ⟨zs, H2, I2, rz, z, ez, q2⟩ := q2
    subst ez
    rw [hks]
    have hb := kb.to s2 [] ws I2.kIn rfl rz.length.symm
    refine ⟨I2.kIn, wpAny_call (codeAny_mono (F.run X.A X.stack s2 H2 ⟨[], [kn].zip ws⟩ ws [z] Q E0 hr2 I2.env0 hb rz q2) fun r s' hq => ?_)⟩
    cases r with
    | error er => exact pass0 pins σ H2 s2 er s' I2 hq
    | ok fl =>
      cases fl with
      | ret u => exact I2.after hq
      | next => exact hq.elim
      | brk => exact hq.elim
      | cont => exact hq.elim
end
theorem fun_kb0 {K : PySem.W.Frag} {x qual : Str} {st : Stmt} {f : Addr} {fd : FuncData} {ps ks : List Str} (F : L2.Fun K x qual st f fd)
    (h : ∀ (kV doc pm : Value) (an : Option Addr) (cdv ct : Value) (ws : List Value), ws.length = ks.length → bindArgs (PySem.W.fnOf x qual (defArgs st) (defBody st) (defScope st) .none kV doc pm an cdv ct) ⟨[], ks.zip ws⟩ = pure (ps.zip ws)) :
    KBn K fd ps 0 ks (fun _ ws => ws) (fun _ zs => zs) := by
  obtain ⟨oc, od, kV, doc, pm, an, cdv, ct, osl, rfl, lk, hcd⟩ := F.ex
  refine ⟨fun s us ws X l1 l2 => ?_, fun _ r2 => r2⟩
  have e : us = [] := List.eq_nil_of_length_eq_zero l1
  subst e
  exact BindsTo.of_eq (h kV doc pm an cdv ct ws l2)
end WB

set_option Elab.async false
set_option linter.all false
set_option maxRecDepth 100000
set_option maxHeartbeats 4000000
namespace WB
open PySem L2 PyProof.Rows
/-! ### a plain value in a list of one, as data -/
theorem text_one {t : Str} (h : t.length ≤ 20000) : (listText [t]).length ≤ sizeLine := by
  unfold listText
  rw [Str.length_append]
  have h5 := textFrom_le [t] 0 "["
  have h6 : ("[" : Str).length = 1 := by decide +kernel
  have h7 : ("]" : Str).length = 1 := by decide +kernel
  rw [piled_cons, piled_nil] at h5
  have h9 : 30000 ≤ sizeLine := by decide
  omega
theorem okd_one {d : PyData} (h1 : d.showable = true) (h2 : d.hasDict = false) (h3 : d.depth ≤ 60) (h4 : d.shown.length ≤ 20000) : OkD (.list [d]) := by
  refine ⟨?_, ?_, ?_, .inr ?_⟩
  · show (d.showable && true) = true
    rw [h1]
    rfl
  · show (d.hasDict || false) = false
    rw [h2]
    rfl
  · show max d.depth 0 + 1 ≤ 64
    omega
  · exact text_one h4
theorem PlainAt.dats {K : PySem.W.Frag} {p : Addr} {H : Hp} {x : V} (h : PlainAt p H x) (hi : ∀ i, x = .int i → (PyData.shown (.int i)).length ≤ 400) : ∃ d, OkD (.list [d]) ∧ ∀ H', Same H H' → Dp K H' x d := by
  have two : ∀ {zs : List Str}, zs.length ≤ 2 → (∀ z ∈ zs, SmallS z) → OkD (.list [.list (zs.map PyData.str)]) ∧ OkD (.list [.tuple (zs.map PyData.str)]) := by
    intro zs hl hs
    obtain ⟨h1, h2, h3, h4⟩ := showAll_strs zs
    have hl' : (zs.map reprText).length ≤ 2 := by
      rw [List.length_map]
      exact hl
    have hs' : ∀ t ∈ zs.map reprText, t.length ≤ 3002 := fun t ht => by
      obtain ⟨z, hz, rfl⟩ := List.mem_map.mp ht
      exact repr_len (hs z hz)
    have pl := piled2 hl' hs'
    refine ⟨okd_one h1 h2 ?_ ?_, okd_one h1 h2 ?_ ?_⟩
    · show PyData.depthAll _ + 1 ≤ 60
      rw [h3]
      decide
    · show (listText (PyData.shownAll _)).length ≤ _
      rw [h4]
      unfold listText
      rw [Str.length_append]
      have h5 := textFrom_le (zs.map reprText) 0 "["
      have h6 : ("[" : Str).length = 1 := by decide +kernel
      have h7 : ("]" : Str).length = 1 := by decide +kernel
      omega
    · show PyData.depthAll _ + 1 ≤ 60
      rw [h3]
      decide
    · show (tupleText (PyData.shownAll _)).length ≤ _
      rw [h4]
      unfold tupleText
      rw [Str.length_append, Str.length_append]
      have h5 := StrLaws.join_length_le ", " (zs.map reprText)
      have h6 : (", " : Str).length = 2 := by decide +kernel
      rw [h6] at h5
      have h7 := sum_piled (zs.map reprText)
      have h8 : ("(" : Str).length = 1 := by decide +kernel
      have h9 : (Str.ofString (if (zs.map reprText).length == 1 then ",)" else ")" : String)).length ≤ 2 := by
        split
        · decide +kernel
        · decide +kernel
      omega
  rcases h with (rfl | ⟨b, rfl⟩ | ⟨i, rfl, hl⟩) | ⟨z, rfl, hz⟩ | ⟨l, zs, rfl, _, q | q, hl, hs⟩
  · exact ⟨_, okd_one rfl rfl (by decide) (by decide +kernel), fun _ _ => .non⟩
  · exact ⟨_, okd_one (d := .bool b) rfl rfl (by show 0 ≤ 60; decide) (by cases b <;> decide +kernel), fun _ _ => .bl b⟩
  · exact ⟨_, okd_one (d := .int i) (decide_eq_true (Nat.lt_trans hl (by decide))) rfl (by show 0 ≤ 60; decide) (Nat.le_trans (hi i rfl) (by decide)), fun _ _ => .int i⟩
  · exact ⟨_, okd_one (d := .str z) rfl rfl (by show 0 ≤ 60; decide) (Nat.le_trans (repr_len hz) (by decide)), fun _ _ => .str z⟩
  · exact ⟨_, (two hl hs).1, fun _ s => .lst (SqL.of (s _ _ q)) (dp_all_strs zs)⟩
  · exact ⟨_, (two hl hs).2, fun _ s => .tup (SqT.of (s _ _ q)) (dp_all_strs zs)⟩
end WB
namespace WB
open PySem L2 PyProof.Rows
/-- isinstance(y, str) and y in d -/
theorem isin_ok {K : PySem.W.Frag} {σ : L2.St} {H : Hp} {Q : VK} {i j : Nat} {y : V} {bd : Addr} {kvs : List (Key × V)} (hi : σ[i]? = some (some y)) (hj : σ[j]? = some (some (.ref bd))) (hb : H bd = some (.dK kvs)) (hy : Thing K H y) (q : Q (.bl (inW kvs y)) H) :
    tAndV (tCB (rIsi K) (tCons (tVar i) (tCons (tC (.ty "str")) tNil))) (tDIn (tVar i) (tVar j)) σ H Q := by
  rcases hy with ⟨z, rfl, _⟩ | hn
  · exact ⟨_, hi, _, _, _, _, true, rfl, .ty "str", .base (.str z), kit_ty (by decide +kernel), true, rfl, iteT ⟨_, hi, _, hj, bd, _, rfl, DGet.k (k := .inr z) hb, q⟩⟩
  · have e := inW_noStr hn kvs
    obtain ⟨t, hty, hk⟩ := hn
    rw [e] at q
    exact ⟨_, hi, _, _, _, _, false, rfl, .ty "str", hty, kit_ty hk, false, rfl, iteF q⟩
theorem ne_same (b : Bool) : (!decide (V.bl b = V.bl b)) = false := by
  rw [decide_eq_true rfl]
  rfl
theorem keysV {β : Type} (g : β → V) (ps : List (Str × β)) : (ps.map (kv g)).map (fun e => kV e.1) = (ps.map (·.1)).map V.str := by
  rw [List.map_map, List.map_map]
  rfl
theorem inW_get {β : Type} {g : β → V} {ps : List (Str × β)} {y : V} (h : inW (ps.map (kv g)) y = true) : ∃ z k, y = .str z ∧ getP ps z = some k := by
  cases y with
  | str z =>
    have h : (valV (ps.map (kv g)) (.inr z)).isSome = true := h
    rw [get_kv] at h
    cases e : getP ps z with
    | none =>
      rw [e] at h
      cases h
    | some k => exact ⟨z, k, rfl, e⟩
  | non => cases h
  | bl b => cases h
  | int i => cases h
  | byt b => cases h
  | flt b => cases h
  | ref a => cases h
  | ty n => cases h
end WB
namespace WB
open PySem L2 PyProof.Rows
def spRead0 (K : PySem.W.Frag) (C : Addr) : Sp := fun vs H Q _ => ∃ t : Addr, vs = [.ref t] ∧ H t = some (.tup []) ∧ ∀ H' w d, Same H H' → H w = none → WAt C H' w d [] → Q (.ref w) H'
end WB
namespace WB
open PySem L2 PyProof.Rows
/-- X() -/
theorem pe_mk0 {X : Cx} {k j : Nat} {x : Str} {C : Addr} {sp : Sp} {dvs : List V} {p pos : Pos} (c : C8.Mak X.prog X.w X.K X.mg X.base k x C sp dvs) (hr : Room j X.A) (hk : k + 1 ≤ j) (hg : Gl X x) (hdb : (x == ("__debug__" : Str)) = false := by decide) : PE X (.Call (.Name x p) [] [] pos) (tMake C sp dvs E0 tNil) := by
  obtain ⟨f, fd, ps, ds, M, F, hm, b, d⟩ := c
  exact pe_make0 M F (hr.mono hk) hg hm b d pass0 hdb
end WB
namespace WB
open PySem L2 PyProof.Rows
theorem fnok_x {P : Program} {w : World} {K : PySem.W.Frag} {mg : Str → Option Value} {base : Heap} {k : Nat} {f : Addr} {fd : FuncData} {ps : List Str} {sp : Sp} (F : FnOk P w K mg base CX0 k f fd ps sp) : FnOk P w K mg base (L2.CX P w) k f fd ps sp := by
  refine ⟨F.len, fun A outer s H args us vs Q E hr e0 hb r q => codeAny_mono (F.run A outer s H args us vs Q E hr e0 hb r q) fun x s' hq => ?_⟩
  cases x with
  | error e => exact hq.elim
  | ok fl =>
    cases fl with
    | ret u => exact hq
    | next => exact hq
    | brk => exact hq
    | cont => exact hq
/-- a new object, made in place -/
theorem made_same {H H' : Hp} {x dx : Addr} {o o' : HO} (nx : H x = none) (nd : H dx = none) (b : Bar x (upd (upd H dx o) x o') H') : Same H H' := same_made nx nd b
end WB

set_option Elab.async false
set_option linter.all false
set_option maxRecDepth 100000
set_option maxHeartbeats 4000000
namespace WB
open PySem L2 PyProof.Rows
/-! ### a world, its twin in numbers, boxes and texts -/
theorem lst_ne {H : Hp} {a b : Addr} {xs ys : List V} (h1 : H a = some (.lst xs)) (h2 : H b = some (.lst ys)) (h : xs.head? ≠ ys.head?) : a ≠ b := fun e => by
  rw [e, h2] at h1
  have h3 := Option.some.inj h1
  injection h3 with h3
  exact h (by rw [h3])
theorem ob_ne {H : Hp} {a b : Addr} {o u : HO} (h1 : H a = some o) (h2 : H b = some u) (h : o ≠ u) : a ≠ b := fun e => by
  rw [e, h2] at h1
  exact h (Option.some.inj h1).symm
structure L9 (C CB p q l bd w d w2 d2 tx D : Addr) (zs : List Str) (ow : List Addr) (t1 t2 : Str) (ps : List (Str × Nat)) (H : Hp) : Prop where
  bag : BagAt H p q
  pool : H l = some (.lst (zs.map V.str))
  z0 : 0 < zs.length
  bnd : H bd = some (.dK (ps.map (kv gN)))
  wld : WAt C H w d (ps.map (kv (gB ow)))
  oth : WAt C H w2 d2 []
  txs : H tx = some (.lst [.str t1, .str t2, .str t1])
  bxs : H D = some (.lst (ow.map V.ref))
  box : ∃ b0 b1 b2, ow = [b0, b1, b2] ∧ BoxAt CB H b0 t1 ∧ BoxAt CB H b1 t2 ∧ BoxAt CB H b2 t1
  n1 : d ≠ bd
  n2 : d2 ≠ bd
  n3 : d2 ≠ d
section
variable {C CB p q l bd w d w2 d2 tx D : Addr} {zs : List Str} {ow : List Addr} {t1 t2 : Str} {ps : List (Str × Nat)} {H H' : Hp}
theorem L9.same (L : L9 C CB p q l bd w d w2 d2 tx D zs ow t1 t2 ps H) (s : Same H H') : L9 C CB p q l bd w d w2 d2 tx D zs ow t1 t2 ps H' := by
  obtain ⟨b0, b1, b2, e, h0, h1, h2⟩ := L.box
  exact ⟨L.bag.same s, s _ _ L.pool, L.z0, s _ _ L.bnd, L.wld.same s, L.oth.same s, s _ _ L.txs, s _ _ L.bxs, ⟨b0, b1, b2, e, h0.same s, h1.same s, h2.same s⟩, L.n1, L.n2, L.n3⟩
theorem L9.draw (L : L9 C CB p q l bd w d w2 d2 tx D zs ow t1 t2 ps H) (s : Bar p H H') (hB : BagAt H' p q) : L9 C CB p q l bd w d w2 d2 tx D zs ow t1 t2 ps H' := by
  obtain ⟨b0, b1, b2, e, h0, h1, h2⟩ := L.box
  obtain ⟨c, s', i, ns, hp, _⟩ := id L.bag
  have nl : l ≠ p := lst_ne L.pool hp (by
    have := L.z0
    cases zs with
    | nil => cases this
    | cons a r => intro e; cases e)
  have nt : tx ≠ p := lst_ne L.txs hp (by intro e; cases e)
  have nD : D ≠ p := lst_ne L.bxs hp (by rw [e]; intro e; cases e)
  have nb : bd ≠ p := ob_ne L.bnd hp (by intro e; cases e)
  obtain ⟨w1, w2'⟩ := L.wld.bag L.bag
  obtain ⟨w3, w4⟩ := L.oth.bag L.bag
  exact ⟨hB, s _ _ nl L.pool, L.z0, s _ _ nb L.bnd, L.wld.bar s w1 w2', L.oth.bar s w3 w4, s _ _ nt L.txs, s _ _ nD L.bxs, ⟨b0, b1, b2, e, h0.bar s (h0.bag L.bag), h1.bar s (h1.bag L.bag), h2.bar s (h2.bag L.bag)⟩, L.n1, L.n2, L.n3⟩
theorem L9.put (L : L9 C CB p q l bd w d w2 d2 tx D zs ow t1 t2 ps H) (n : Str) (k : Nat) :
    L9 C CB p q l bd w d w2 d2 tx D zs ow t1 t2 (putP ps n k) (upd (upd H d (.dK (putK (ps.map (kv (gB ow))) (.inr n) (gB ow k)))) bd (.dK (putK (ps.map (kv gN)) (.inr n) (gN k)))) := by
  obtain ⟨b0, b1, b2, e, h0, h1, h2⟩ := L.box
  obtain ⟨c, s', i, ns, hp, hq, hr⟩ := id L.bag
  obtain ⟨⟨dw, hw⟩, hd⟩ := id L.wld
  obtain ⟨⟨dw2, hw2⟩, hd2⟩ := id L.oth
  have keep : ∀ (a : Addr) (o : HO), (∀ kvs, o ≠ .dK kvs) → H a = some o → (upd (upd H d (.dK (putK (ps.map (kv (gB ow))) (.inr n) (gB ow k)))) bd (.dK (putK (ps.map (kv gN)) (.inr n) (gN k)))) a = some o := fun a o ho ha => by
    rw [upd_ne (ob_ne ha L.bnd (ho _)), upd_ne (ob_ne ha hd (ho _))]
    exact ha
  have kb : ∀ (a : Addr) (z : Str), BoxAt CB H a z → BoxAt CB (upd (upd H d (.dK (putK (ps.map (kv (gB ow))) (.inr n) (gB ow k)))) bd (.dK (putK (ps.map (kv gN)) (.inr n) (gN k)))) a z := fun a z ⟨dx, ha⟩ => ⟨dx, keep a _ (fun _ z => by cases z) ha⟩
  refine ⟨⟨c, s', i, ns, keep p _ (fun _ z => by cases z) hp, keep q _ (fun _ z => by cases z) hq, hr⟩, keep l _ (fun _ z => by cases z) L.pool, L.z0, ?_, ⟨⟨dw, keep w _ (fun _ z => by cases z) hw⟩, ?_⟩, ⟨⟨dw2, keep w2 _ (fun _ z => by cases z) hw2⟩, ?_⟩, keep tx _ (fun _ z => by cases z) L.txs, keep D _ (fun _ z => by cases z) L.bxs, ⟨b0, b1, b2, e, kb _ _ h0, kb _ _ h1, kb _ _ h2⟩, L.n1, L.n2, L.n3⟩
  · rw [upd_same, put_kv]
  · rw [upd_ne L.n1, upd_same, put_kv]
  · rw [upd_ne L.n2, upd_ne L.n3]
    exact hd2
theorem L9.right (L : L9 C CB p q l bd w d w2 d2 tx D zs ow t1 t2 ps H) {Q : VK} {E : XK} (h6 : zs.length ≤ 6) (hz : ∀ z ∈ zs, nameS z = true) (hl : ps.length < 60) (hp : ∀ e ∈ ps, nameS e.1 = true ∧ e.2 < 3) (k : ∀ H', Bar p H H' → L9 C CB p q l bd w d w2 d2 tx D zs ow t1 t2 ps H' → Q (.bl true) H') :
    spRightN C CB [.ref p, .ref w, .ref l, .ref bd, .ref D] H Q E := by
  obtain ⟨b0, b1, b2, e, h0, h1, h2⟩ := id L.box
  refine ⟨p, q, w, d, l, bd, D, zs, ps, ow, rfl, L.bag, L.wld, L.pool, L.z0, h6, hz, L.bnd, L.bxs, fun b hb => ?_, hl, fun x hx => ⟨(hp x hx).1, by rw [e]; exact (hp x hx).2⟩, fun H' b hB => k H' b (L.draw b hB)⟩
  rw [e] at hb
  rcases List.mem_cons.mp hb with rfl | hb
  · exact ⟨_, h0⟩
  rcases List.mem_cons.mp hb with rfl | hb
  · exact ⟨_, h1⟩
  rw [List.mem_singleton.mp hb]
  exact ⟨_, h2⟩
end
end WB
namespace WB
open PySem L2 PyProof.Rows
section
variable {C CB p q l bd w d w2 d2 tx D : Addr} {zs : List Str} {ow : List Addr} {t1 t2 : Str} {ps : List (Str × Nat)} {H H' : Hp}
theorem L9.lp (L : L9 C CB p q l bd w d w2 d2 tx D zs ow t1 t2 ps H) : l ≠ p := by
  obtain ⟨c, s', i, ns, hp, _⟩ := id L.bag
  exact lst_ne L.pool hp (by
    have := L.z0
    cases zs with
    | nil => cases this
    | cons a r => intro e; cases e)
theorem L9.at_ (L : L9 C CB p q l bd w d w2 d2 tx D zs ow t1 t2 ps H) {k : Nat} (hk : k < 3) : (ow.map V.ref)[k]? = some (gB ow k) ∧ ∃ z, BoxAt CB H (ow.getD k 0) z := by
  obtain ⟨b0, b1, b2, rfl, h0, h1, h2⟩ := L.box
  match k, hk with
  | 0, _ => exact ⟨rfl, _, h0⟩
  | 1, _ => exact ⟨rfl, _, h1⟩
  | 2, _ => exact ⟨rfl, _, h2⟩
theorem nil_perm {ys : List Str} (h : ys.Perm []) : ys = [] := List.Perm.eq_nil h
end
end WB

set_option Elab.async false
set_option linter.all false
set_option maxRecDepth 100000
set_option maxHeartbeats 4000000
namespace WB
open PySem L2 PyProof.Rows
/-! ### f(k = e, ..), all by name -/
structure CalN (P : Program) (w : World) (K : PySem.W.Frag) (mg : Str → Option Value) (base : Heap) (k : Nat) (x : Str) (ks : List Str) (sp : Sp) : Prop where
  ex : ∃ (f : Addr) (fd : FuncData) (ps : List Str), FnOk P w K mg base CX0 k f fd ps sp ∧ mg x = some (.ref f) ∧ PySem.W.keepIn K (.ref f) = true ∧ KBn K fd ps 0 ks (fun _ ws => ws) (fun _ zs => zs) ∧ ps.length = ks.length
theorem pe_cN {X : Cx} {k j : Nat} {x : Str} {ks : List Str} {sp : Sp} {p pos : Pos} {kws : List Keyword} {tk : TA} (c : CalN X.prog X.w X.K X.mg X.base k x ks sp) (hr0 : Room j X.A) (hk : k ≤ j) (hg : Gl X x) (hkw : PK X kws tk)
    (hall : (backToKw pos (keywordEach kws X.env)).all (·.1.isSome) = true := by rfl) (hks : (backToKw pos (keywordEach kws X.env)).filterMap (·.1) = ks := by rfl) (hdb : (x == ("__debug__" : Str)) = false := by decide)
    (hpl : ((backTo pos (starEach [] X.env)).any (·.1) || (backToKw pos (keywordEach kws X.env)).any (·.1.isNone)) = false := by rfl) :
    PE X (.Call (.Name x p) [] kws pos) (fun σ H Q => tk σ H fun zs H1 => sp zs H1 Q E0) := by
  obtain ⟨f, fd, ps, F, hm, kp, kb, hpk⟩ := c.ex
  have hr := hr0.mono hk
  refine ⟨fun pins s σ H Q I h => wpAny_Call_Name_kw (ld_glob I hg hm ?_ hdb)⟩
  refine PySem.W.callWith_KW0 (first := []) (h₀ := X.base) I.ok.mod.kin kp hall (thn (hkw.run pos pins s σ H _ I h) fun ws s2 z => ?_) hpl
  obtain ⟨zs, H2, I2, rz, q2⟩ := z
  rw [hks]
  have hw : ws.length = ks.length := rz.length.symm.trans ((F.len _ _ _ _ q2).trans hpk)
  have hb := kb.to s2 [] ws I2.kIn rfl hw
  refine ⟨I2.kIn, wpAny_call (codeAny_mono (F.run X.A X.stack s2 H2 ⟨[], ks.zip ws⟩ ws zs Q E0 hr I2.env0 hb rz q2) fun r s' hq => ?_)⟩
  cases r with
  | error er => exact pass0 pins σ H2 s2 er s' I2 hq
  | ok fl =>
    cases fl with
    | ret u => exact I2.after hq
    | next => exact hq.elim
    | brk => exact hq.elim
    | cont => exact hq.elim
/-! ### tuples of digits, as data -/
theorem all_ints : ∀ ns : List Nat, (∀ n ∈ ns, n < 10) → PyData.showableAll (ns.map fun n => PyData.int (n : Nat)) = true ∧ PyData.hasDictAll (ns.map fun n => PyData.int (n : Nat)) = false ∧ PyData.depthAll (ns.map fun n => PyData.int (n : Nat)) = 0 ∧ ∀ t ∈ PyData.shownAll (ns.map fun n => PyData.int (n : Nat)), t.length ≤ 1
  | [], _ => ⟨rfl, rfl, rfl, fun t ht => absurd ht List.not_mem_nil⟩
  | n :: r, h => by
    obtain ⟨h1, h2, h3, h4⟩ := all_ints r fun x hx => h x (List.mem_cons_of_mem _ hx)
    have hn : n < 10 := h n List.mem_cons_self
    have key : ∀ n, n < 10 → (PyData.int (n : Nat)).showable = true ∧ (PyData.shown (.int (n : Nat))).length ≤ 1 := by decide +kernel
    obtain ⟨k1, k2⟩ := key n hn
    refine ⟨?_, ?_, ?_, fun t ht => ?_⟩
    · show ((PyData.int (n : Nat)).showable && PyData.showableAll (r.map _)) = true
      rw [h1, k1]
      rfl
    · show (false || PyData.hasDictAll (r.map _)) = false
      rw [h2]
      rfl
    · show max 0 (PyData.depthAll (r.map _)) = 0
      rw [h3]
      rfl
    · rcases List.mem_cons.mp ht with e | ht
      · rw [e]
        exact k2
      · exact h4 t ht
theorem shownAll_len : ∀ ds : List PyData, (PyData.shownAll ds).length = ds.length
  | [] => rfl
  | d :: r => by
    show (d.shown :: PyData.shownAll r).length = _
    rw [List.length_cons, List.length_cons, shownAll_len r]
theorem dp_all_nats {K : PySem.W.Frag} {H : Hp} : ∀ ns : List Nat, DpAll K H (ns.map fun n => V.int (n : Nat)) (ns.map fun n => PyData.int (n : Nat))
  | [] => .nil
  | n :: r => .cons (.int n) (dp_all_nats r)
theorem data_digits {K : PySem.W.Frag} {H : Hp} {t : Addr} {ns : List Nat} (h : SqT K H t (ns.map fun n => V.int (n : Nat))) (hs : ∀ n ∈ ns, n < 10) (hn : ns.length ≤ 200) : Dp K H (.ref t) (.tuple (ns.map fun n => PyData.int (n : Nat))) ∧ OkD (.tuple (ns.map fun n => PyData.int (n : Nat))) := by
  obtain ⟨h1, h2, h3, h4⟩ := all_ints ns hs
  refine ⟨.tup h (dp_all_nats ns), h1, h2, ?_, .inr ?_⟩
  · show PyData.depthAll _ + 1 ≤ 64
    rw [h3]
    decide
  · show (tupleText (PyData.shownAll _)).length ≤ _
    have pl := piled_le (m := 1) h4
    rw [shownAll_len, List.length_map] at pl
    unfold tupleText
    rw [Str.length_append, Str.length_append]
    have h5 := StrLaws.join_length_le ", " (PyData.shownAll (ns.map fun n => PyData.int (n : Nat)))
    have h6 : (", " : Str).length = 2 := by decide +kernel
    rw [h6] at h5
    have h7 := sum_piled (PyData.shownAll (ns.map fun n => PyData.int (n : Nat)))
    have h8 : ("(" : Str).length = 1 := by decide +kernel
    have h9 : (Str.ofString (if (PyData.shownAll (ns.map fun n => PyData.int (n : Nat))).length == 1 then ",)" else ")" : String)).length ≤ 2 := by
      split
      · decide +kernel
      · decide +kernel
    have hb : 10000 ≤ sizeLine := by decide
    omega
/-! ### even cuts and turns -/
/-- how many chunks of c there are in m -/
def nch (m c : Nat) : Nat := (m + c - 1) / c
def ev (m c i : Nat) : Nat := min c (m - c * i)
def evL (m c j : Nat) : List Nat := (List.range (min j (nch m c))).map (ev m c)
def trL (w j : Nat) : List Nat := (List.range j).map (· % w)
theorem nch_lt {m c j : Nat} (hc : 0 < c) : c * j < m ↔ j < nch m c := by
  unfold nch
  show _ ↔ j + 1 ≤ (m + c - 1) / c
  rw [Nat.le_div_iff_mul_le hc, Nat.add_mul, Nat.one_mul, Nat.mul_comm j c]
  omega
theorem rg_ok : ∀ m : Nat, m < 121 → ∀ c : Nat, c < 10 → 0 < c → (((c : Int) ≠ 0) ∧ (c : Int).natAbs < 1073741824 ∧ Builtin.Range.small 0 (m : Int) (c : Int) = true ∧ Builtin.Range.rangeSize 0 (m : Int) (c : Int) = nch m c) := by decide +kernel
def spEven : Sp := fun vs H Q _ => ∃ m c : Nat, vs = [.int (m : Nat), .int (c : Nat)] ∧ m < 121 ∧ 0 < c ∧ c < 10 ∧ ∀ H' t, Same H H' → H t = none → H' t = some (.tup ((evL m c m).map fun n => V.int (n : Nat))) → Q (.ref t) H'
def spTurn : Sp := fun vs H Q _ => ∃ m w : Nat, vs = [.int (m : Nat), .int (w : Nat)] ∧ m < 121 ∧ 0 < w ∧ w < 10 ∧ ∀ H' t, Same H H' → H t = none → H' t = some (.tup ((trL w m).map fun n => V.int (n : Nat))) → Q (.ref t) H'
theorem nch_le {m c : Nat} (hc : 0 < c) : nch m c ≤ m := by
  by_cases h : nch m c ≤ m
  · exact h
  · have h2 := (nch_lt (m := m) (c := c) (j := m) hc).mpr (by omega)
    have : m ≤ c * m := Nat.le_mul_of_pos_left m hc
    omega
theorem evL_small {m c j : Nat} (hc : c < 10) : ∀ n ∈ evL m c j, n < 10 := fun n hn => by
  obtain ⟨i, _, rfl⟩ := List.mem_map.mp hn
  exact Nat.lt_of_le_of_lt (Nat.min_le_left _ _) hc
theorem trL_small {w j : Nat} (h0 : 0 < w) (hw : w < 10) : ∀ n ∈ trL w j, n < 10 := fun n hn => by
  obtain ⟨i, _, rfl⟩ := List.mem_map.mp hn
  exact Nat.lt_trans (Nat.mod_lt _ h0) hw
theorem evL_step {m c j : Nat} (hc : 0 < c) (h : c * j < m) : evL m c (j + 1) = evL m c j ++ [ev m c j] := by
  have hj := (nch_lt hc).mp h
  unfold evL
  rw [Nat.min_eq_left (by omega : j + 1 ≤ nch m c), Nat.min_eq_left (by omega : j ≤ nch m c), List.range_succ, List.map_append]
  rfl
theorem evL_stay {m c j : Nat} (hc : 0 < c) (h : ¬ c * j < m) : evL m c (j + 1) = evL m c j := by
  have hj : ¬ j < nch m c := fun q => h ((nch_lt hc).mpr q)
  unfold evL
  rw [Nat.min_eq_right (by omega), Nat.min_eq_right (by omega)]
theorem evL_len {m c j : Nat} : (evL m c j).length ≤ j := by
  unfold evL
  rw [List.length_map, List.length_range]
  exact Nat.min_le_left _ _
theorem trL_step {w j : Nat} : trL w (j + 1) = trL w j ++ [j % w] := by
  unfold trL
  rw [List.range_succ, List.map_append]
  rfl
theorem trL_len {w j : Nat} : (trL w j).length = j := by
  unfold trL
  rw [List.length_map, List.length_range]
end WB
namespace WB
open PySem L2 PyProof.Rows
theorem evL_end {m c : Nat} (hc : 0 < c) : evL m c (nch m c) = evL m c m := by
  unfold evL
  rw [Nat.min_self, Nat.min_eq_right (nch_le hc)]
theorem mul_cast (i c : Nat) : (i : Int) * (c : Int) = ((c * i : Nat) : Int) := by
  rw [Nat.mul_comm c i]
  exact (Int.natCast_mul i c).symm
theorem ev_int {m c i : Nat} (h : c * i < m) : (if ((m : Int) - (0 + (i : Int) * (c : Int))) < (c : Int) then ((m : Int) - (0 + (i : Int) * (c : Int))) else (c : Int)) = ((ev m c i : Nat) : Int) := by
  rw [mul_cast]
  unfold ev
  generalize c * i = t at *
  split <;> omega
theorem ev_min {m c j : Nat} : (if (c : Int) < ((m - c * j : Nat) : Int) then (c : Int) else ((m - c * j : Nat) : Int)) = ((ev m c j : Nat) : Int) := by
  unfold ev
  generalize c * j = t
  split <;> omega
theorem ev_left {m c j : Nat} : ((m - c * j : Nat) : Int) - ((ev m c j : Nat) : Int) = ((m - c * (j + 1) : Nat) : Int) := by
  unfold ev
  rw [Nat.mul_succ]
  generalize c * j = t
  omega
end WB
namespace WB
open PySem L2 PyProof.Rows
theorem succ_turn {i c : Nat} (hc : 0 < c) : (i + 1) % c = if i % c + 1 = c then 0 else i % c + 1 := by
  have e : (i + 1) % c = (i % c + 1) % c := (Nat.mod_add_mod i c 1).symm
  have := Nat.mod_lt i hc
  rw [e]
  split
  · rename_i h
    rw [h, Nat.mod_self]
  · exact Nat.mod_eq_of_lt (by omega)
end WB

set_option Elab.async false
set_option linter.all false
set_option maxRecDepth 100000
set_option maxHeartbeats 4000000
namespace WB
open PySem L2 PyProof.Rows
/-- a method that may raise, called by position -/
structure MetY (P : Program) (w : World) (K : PySem.W.Frag) (mg : Str → Option Value) (base : Heap) (k : Nat) (C : Addr) (m : Str) (sp : Sp) : Prop where
  ex : ∃ (f : Addr) (fd : FuncData) (ps : List Str), Cls K C ∧ Meth K C m f ∧ FnOk P w K mg base (L2.CX P w) k f fd ps sp ∧ Binds K fd ps []
section
variable {X : Cx} {k j : Nat} {C : Addr} {x m kn : Str} {sp : Sp} {p pos apos kpos : Pos} {e o i : Expr} {es : List Expr} {to ti ta : TE} {t : TA} {W : WX} {E : XK}
/-- x[k] within a def that may raise -/
theorem pe_ownX (c : GetX X.prog X.w X.K X.mg X.base k C sp) (tk : Takes X (fun cls d _ H => E cls d H)) (hr : Room j X.A) (hk : k + 1 ≤ j) (ho : PE X o to) (hi : PE X i ti) (hs : PlainK i) : PE X (.Subscript o i pos) (tGetO C sp (fun _ => E) to ti) :=
  pe_getS c (fun σ pins H s e s' I h => passes_call tk (fun _ _ _ _ z => z) pins σ H s e s' I h) hr hk ho hi hs
theorem pe_mtY {pl : Sem Bool} (c : MetY X.prog X.w X.K X.mg X.base k C m sp) (tk : Takes X W) (hr : Room j X.A) (hk : k ≤ j) (he : PE X o ta) (ha : PA X (e :: es) t)
    (hst : starEach (e :: es) X.env = (false, eval e X.env) :: starEach es X.env := by rfl) (hpl : (backTo pos (starEach es X.env)).any (·.1) = false := by rfl)
    (ht : eval (.Call (.Attribute o m apos) (e :: es) [] pos) X.env = (do
      let ov ← eval o X.env
      standAt apos.atName
      let (f, first) ← holding [ov] (getMethod ov m pl)
      callWith pos f first (backTo pos (starEach (e :: es) X.env)) (backToKw pos (keywordEach [] X.env))) := by rfl) :
    PE X (.Call (.Attribute o m apos) (e :: es) [] pos) (tMethS C m sp (WE W) ta t) := by
  obtain ⟨f, fd, ps, hc, hm, F, b⟩ := c.ex
  exact pe_methS (pl := pl) he hc hm F (hr.mono hk) b (fun σ => passAt tk σ) ha hst hpl ht
/-- o.m(k = e) within try -/
def tMethKS (C : Addr) (m : Str) (sp : Sp) (E : L2.St → XK) (ta te : TE) : TE := fun σ H Q => ta σ H fun x H1 => ∃ a dx fs, x = .ref a ∧ H1 a = some (.ins C dx fs) ∧ fs.lookup m = none ∧ te σ H1 fun y H2 => sp [x, y] H2 Q (E σ)
theorem pe_mtKS {pl : Sem Bool} (c : MetX X.prog X.w X.K X.mg X.base k C m sp kn) (tk : Takes X W) (hr : Room j X.A) (hk : k ≤ j) (he : PE X o ta) {te : TE} (ha : PE X e te)
    (hall : (backToKw pos (keywordEach [⟨some kn, e, kpos⟩] X.env)).all (·.1.isSome) = true := by rfl) (hks : (backToKw pos (keywordEach [⟨some kn, e, kpos⟩] X.env)).filterMap (·.1) = [kn] := by rfl)
    (hpl : ((backTo pos (starEach [] X.env)).any (·.1) || (backToKw pos (keywordEach [⟨some kn, e, kpos⟩] X.env)).any (·.1.isNone)) = false := by rfl)
    (ht : eval (.Call (.Attribute o m apos) [] [⟨some kn, e, kpos⟩] pos) X.env = (do
      let ov ← eval o X.env
      standAt apos.atName
      let (f, first) ← holding [ov] (getMethod ov m pl)
      callWith pos f first (backTo pos (starEach [] X.env)) (backToKw pos (keywordEach [⟨some kn, e, kpos⟩] X.env))) := by rfl) :
    PE X (.Call (.Attribute o m apos) [] [⟨some kn, e, kpos⟩] pos) (tMethKS C m sp (WE W) ta te) := by
  obtain ⟨f, fd, ps, hc, hm, F, _, kb⟩ := c.ex
  have hr2 := hr.mono hk
  refine ⟨fun pins s σ H Q I h => PySem.W.methodCall_KW (pl := pl) (thn (he.run pins s σ H _ I h) fun u s1 ⟨y, H1, I1, ry, a, dx, fs, ey, ea, l, q⟩ => ?_) ht⟩
  subst ey
  cases (show u = Value.ref a from ry)
  refine getmeth_ok I1 ea hc hm l (PySem.W.callWith_KW0 (first := [.ref a]) (h₀ := X.base) I1.ok.mod.kin hm.kp hall ?_ hpl)
  refine thn ((pk_cons ha pk_nil).run pos pins s1 σ H1 (fun zs H2 => ∃ z, zs = [z] ∧ sp [.ref a, z] H2 Q (WE W σ)) I1 ?_) fun ws s2 z => ?_
  · have e : (fun v H1 => tNil σ H1 fun vs H2 => ∃ z, v :: vs = [z] ∧ sp [.ref a, z] H2 Q (WE W σ)) = fun (y : V) H2 => sp [.ref a, y] H2 Q (WE W σ) := by
      funext v H1
      refine propext ⟨fun ⟨x, e, q⟩ => ?_, fun q => ⟨v, rfl, q⟩⟩
      cases e
      exact q
    show te σ H1 (fun v H1 => tNil σ H1 fun vs H2 => ∃ z, v :: vs = [z] ∧ sp [.ref a, z] H2 Q (WE W σ))
    rw [e]
    exact q
  · obtain ⟨zs, H2, I2, rz, z, ez, q2⟩ := z
    subst ez
    rw [hks]
    have r2 : Vals [V.ref a, z] (Value.ref a :: ws) := .cons rfl rz
    have hb := kb.to s2 [.ref a] ws I2.kIn rfl rz.length.symm
    refine ⟨I2.kIn, wpAny_call (codeAny_mono (F.run X.A X.stack s2 H2 ⟨[.ref a], [kn].zip ws⟩ (Value.ref a :: ws) [.ref a, z] Q (WE W σ) hr2 I2.env0 hb r2 q2) fun r s' hq => ?_)⟩
    cases r with
    | error er => exact passAt tk σ pins H2 s2 er s' I2 hq
    | ok fl =>
      cases fl with
      | ret u => exact I2.after hq
      | next => exact hq.elim
      | brk => exact hq.elim
      | cont => exact hq.elim
end
/-! ### names removed and compared -/
def spUnbind (K : PySem.W.Frag) (C CN : Addr) : Sp := fun vs H Q E => ∃ (w d : Addr) (kvs : List (Key × V)) (x : V), vs = [.ref w, x] ∧ WAt C H w d kvs ∧ Thing K H x ∧
  (∀ z, x = .str z → inW kvs x = true → Q .non (upd H d (.dK (dropK kvs (.inr z))))) ∧ (inW kvs x = false → ∀ H' e, Same H H' → H e = none → H' e = some (.xd [("name", x)]) → E (.ref CN) (some e) H')
def spSameX (K : PySem.W.Frag) (C CB CN : Addr) : Sp := fun vs H Q E => ∃ (w d : Addr) (kvs : List (Key × V)) (x y : V), vs = [.ref w, x, y] ∧ WAt C H w d kvs ∧ Thing K H x ∧ Thing K H y ∧ (∀ z v, valV kvs (.inr z) = some v → ∃ a t, v = .ref a ∧ BoxAt CB H a t) ∧
  (∀ z1 z2 a b, x = .str z1 → y = .str z2 → valV kvs (.inr z1) = some (.ref a) → valV kvs (.inr z2) = some (.ref b) → Q (.bl (decide (a = b))) H) ∧
  (inW kvs x = false → ∀ H' e, Same H H' → H e = none → H' e = some (.xd [("name", x)]) → E (.ref CN) (some e) H') ∧
  (inW kvs x = true → inW kvs y = false → ∀ H' e, Same H H' → H e = none → H' e = some (.xd [("name", y)]) → E (.ref CN) (some e) H')
theorem inW_str {kvs : List (Key × V)} {x : V} (h : inW kvs x = true) : ∃ z v, x = .str z ∧ valV kvs (.inr z) = some v := by
  cases x with
  | str z =>
    obtain ⟨v, hv⟩ := Option.isSome_iff_exists.mp (show (valV kvs (.inr z)).isSome = true from h)
    exact ⟨z, v, rfl, hv⟩
  | non => cases h
  | bl b => cases h
  | int i => cases h
  | byt b => cases h
  | flt b => cases h
  | ref a => cases h
  | ty n => cases h
theorem inW_val {kvs : List (Key × V)} {z : Str} {v : V} (h : valV kvs (.inr z) = some v) : inW kvs (.str z) = true := by
  show (valV kvs (.inr z)).isSome = true
  rw [h]
  rfl
theorem wF_same {kvs : List (Key × V)} {z : Str} (h : inW kvs (.str z) = false) : valV kvs (.inr z) = none := by
  have h : (valV kvs (.inr z)).isSome = false := h
  cases e : valV kvs (.inr z) with
  | none => rfl
  | some v =>
    rw [e] at h
    cases h
/-- a world, its twin in numbers, three boxes and their texts -/
structure L11 (C CB p q l bd w d tx D : Addr) (zs : List Str) (ow : List Addr) (tz : List Str) (ps : List (Str × Nat)) (H : Hp) : Prop where
  bag : BagAt H p q
  pool : H l = some (.lst (zs.map V.str))
  z0 : 0 < zs.length
  bnd : H bd = some (.dK (ps.map (kv gN)))
  wld : WAt C H w d (ps.map (kv (gB ow)))
  txs : H tx = some (.lst (tz.map V.str))
  bxs : H D = some (.lst (ow.map V.ref))
  ln : ow.length = 3 ∧ tz.length = 3
  nd : ow.Nodup
  box : ∀ (i : Nat) (b : Addr), ow[i]? = some b → ∃ z, tz[i]? = some z ∧ BoxAt CB H b z
  n1 : d ≠ bd
section
variable {C CB p q l bd w d tx D : Addr} {zs : List Str} {ow : List Addr} {tz : List Str} {ps : List (Str × Nat)} {H H' : Hp}
theorem L11.same (L : L11 C CB p q l bd w d tx D zs ow tz ps H) (s : Same H H') : L11 C CB p q l bd w d tx D zs ow tz ps H' :=
  ⟨L.bag.same s, s _ _ L.pool, L.z0, s _ _ L.bnd, L.wld.same s, s _ _ L.txs, s _ _ L.bxs, L.ln, L.nd, fun i b h => by
    obtain ⟨z, h1, h2⟩ := L.box i b h
    exact ⟨z, h1, h2.same s⟩, L.n1⟩
theorem L11.lp (L : L11 C CB p q l bd w d tx D zs ow tz ps H) : l ≠ p := by
  obtain ⟨c, s', i, ns, hp, _⟩ := id L.bag
  exact lst_ne L.pool hp (by
    have := L.z0
    cases zs with
    | nil => cases this
    | cons a r => intro e; cases e)
theorem L11.draw (L : L11 C CB p q l bd w d tx D zs ow tz ps H) (s : Bar p H H') (hB : BagAt H' p q) : L11 C CB p q l bd w d tx D zs ow tz ps H' := by
  obtain ⟨c, s', i, ns, hp, _⟩ := id L.bag
  have nt : tx ≠ p := lst_ne L.txs hp (by
    have := L.ln.2
    cases tz with
    | nil => cases this
    | cons a r => intro e; cases e)
  have nD : D ≠ p := lst_ne L.bxs hp (by
    have := L.ln.1
    cases ow with
    | nil => cases this
    | cons a r => intro e; cases e)
  have nb : bd ≠ p := ob_ne L.bnd hp (by intro e; cases e)
  obtain ⟨w1, w2⟩ := L.wld.bag L.bag
  exact ⟨hB, s _ _ L.lp L.pool, L.z0, s _ _ nb L.bnd, L.wld.bar s w1 w2, s _ _ nt L.txs, s _ _ nD L.bxs, L.ln, L.nd, fun i b h => by
    obtain ⟨z, h1, h2⟩ := L.box i b h
    exact ⟨z, h1, h2.bar s (h2.bag L.bag)⟩, L.n1⟩
theorem L11.tab (L : L11 C CB p q l bd w d tx D zs ow tz ps H) (ps' : List (Str × Nat)) : L11 C CB p q l bd w d tx D zs ow tz ps' (upd (upd H d (.dK (ps'.map (kv (gB ow))))) bd (.dK (ps'.map (kv gN)))) := by
  obtain ⟨c, s', i, ns, hp, hq, hr⟩ := id L.bag
  obtain ⟨⟨dw, hw⟩, hd⟩ := id L.wld
  have keep : ∀ (a : Addr) (o : HO), (∀ kvs, o ≠ .dK kvs) → H a = some o → (upd (upd H d (.dK (ps'.map (kv (gB ow))))) bd (.dK (ps'.map (kv gN)))) a = some o := fun a o ho ha => by
    rw [upd_ne (ob_ne ha L.bnd (ho _)), upd_ne (ob_ne ha hd (ho _))]
    exact ha
  refine ⟨⟨c, s', i, ns, keep p _ (fun _ z => by cases z) hp, keep q _ (fun _ z => by cases z) hq, hr⟩, keep l _ (fun _ z => by cases z) L.pool, L.z0, upd_same, ⟨⟨dw, keep w _ (fun _ z => by cases z) hw⟩, (upd_ne L.n1).trans upd_same⟩, keep tx _ (fun _ z => by cases z) L.txs, keep D _ (fun _ z => by cases z) L.bxs, L.ln, L.nd, fun i b h => ?_, L.n1⟩
  obtain ⟨z, h1, dx, h2⟩ := L.box i b h
  exact ⟨z, h1, dx, keep b _ (fun _ z => by cases z) h2⟩
theorem L11.at_ (L : L11 C CB p q l bd w d tx D zs ow tz ps H) {k : Nat} (hk : k < 3) : (ow.map V.ref)[k]? = some (gB ow k) ∧ ∃ z, BoxAt CB H (ow.getD k 0) z := by
  have hk2 : k < ow.length := by
    rw [L.ln.1]
    exact hk
  have e : ow[k]? = some (ow.getD k 0) := by
    rw [List.getD_eq_getElem?_getD, List.getElem?_eq_getElem hk2]
    rfl
  obtain ⟨z, _, h⟩ := L.box k _ e
  exact ⟨by rw [List.getElem?_map, e]; rfl, z, h⟩
theorem L11.vals (L : L11 C CB p q l bd w d tx D zs ow tz ps H) (hp : ∀ e ∈ ps, nameS e.1 = true ∧ e.2 < 3) : ∀ z v, valV (ps.map (kv (gB ow))) (.inr z) = some v → ∃ a t, v = .ref a ∧ BoxAt CB H a t := fun z v h => by
  rw [get_kv] at h
  cases e : getP ps z with
  | none =>
    rw [e] at h
    cases h
  | some k =>
    rw [e] at h
    cases h
    obtain ⟨_, t, ht⟩ := L.at_ (hp _ (getP_mem e)).2
    exact ⟨_, t, rfl, ht⟩
end
theorem dropP_mem {β : Type} {ps : List (Str × β)} {n : Str} {e : Str × β} (h : e ∈ dropP ps n) : e ∈ ps := (List.mem_filter.mp h).1
theorem dropP_len {β : Type} (ps : List (Str × β)) (n : Str) : (dropP ps n).length ≤ ps.length := List.length_filter_le _ _
def spRemoved (C : Addr) : Sp := fun vs H Q _ => ∃ (w d : Addr) (kvs : List (Key × V)) (z : Str), vs = [.ref w, .str z] ∧ WAt C H w d kvs ∧ z.length ≤ 1000 ∧
  (inW kvs (.str z) = true → ∀ l, H l = none → l ≠ d → Q (.ref l) (upd (upd H d (.dK (dropK kvs (.inr z)))) l (.lst []))) ∧
  (inW kvs (.str z) = false → ∀ H' l, Same H H' → H l = none → H' l = some (.lst [.str z]) → Q (.ref l) H')
def spSame11 (C CB : Addr) : Sp := fun vs H Q _ => ∃ (w d : Addr) (kvs : List (Key × V)) (a b : Str), vs = [.ref w, .str a, .str b] ∧ WAt C H w d kvs ∧ a.length ≤ 1000 ∧ b.length ≤ 1000 ∧ (∀ z v, valV kvs (.inr z) = some v → ∃ a t, v = .ref a ∧ BoxAt CB H a t) ∧
  (∀ x y, valV kvs (.inr a) = some (.ref x) → valV kvs (.inr b) = some (.ref y) → Q (.bl (decide (x = y))) H) ∧
  (inW kvs (.str a) = false → ∀ H' l, Same H H' → H l = none → H' l = some (.lst [.str a]) → Q (.ref l) H') ∧
  (inW kvs (.str a) = true → inW kvs (.str b) = false → ∀ H' l, Same H H' → H l = none → H' l = some (.lst [.str b]) → Q (.ref l) H')
end WB
namespace WB
open PySem L2 PyProof.Rows
def spRight11 (C CB : Addr) : Sp := fun vs H Q _ => ∃ (p q l bd w d tx D : Addr) (zs : List Str) (ow : List Addr) (tz : List Str) (ps : List (Str × Nat)), vs = [.ref p, .ref w, .ref l, .ref bd, .ref D] ∧ L11 C CB p q l bd w d tx D zs ow tz ps H ∧ zs.length ≤ 6 ∧ (∀ z ∈ zs, nameS z = true) ∧
  ps.length < 60 ∧ (∀ e ∈ ps, nameS e.1 = true ∧ e.2 < 3) ∧ ∀ H', Bar p H H' → L11 C CB p q l bd w d tx D zs ow tz ps H' → Q (.bl true) H'
end WB

set_option Elab.async false
set_option linter.all false
set_option maxRecDepth 100000
set_option maxHeartbeats 4000000
namespace WB
open PySem PySem.Spec L2 PyProof.Rows
/-! ### try with two clauses that name what they catch -/
/-- an exception that the frame of X has caught: sI is the state without it -/
structure Air (X : Cx) (pins : List (Addr × Obj)) (B : Heap) (x : Addr) (cls : Value) (d : Option Addr) (sI : Shared) (σ : L2.St) (H : Hp) (t : Shared) : Prop where
  inv : Inv X pins σ H sI
  low : ∀ b o, sI.heap.get? b = some o → b ∉ frs X.stack → B.get? b = some o
  up : sI.heap.UpToSlots t.heap
  fly : HandSPX.FlyingZ B (X.env :: X.outer) x (Zc cls d) t.heap
  new : H x = none
  sys : t.os = sI.os
  gen : AllBare t.gens
section
variable {X : Cx} {pins : List (Addr × Obj)} {B : Heap} {x : Addr} {cls : Value} {d : Option Addr} {sI : Shared} {σ : L2.St} {H : Hp} {t : Shared}
theorem Air.state (A : Air X pins B x cls d sI σ H t) : Inv X pins σ H t := A.inv.landed A.low A.fly.1 A.up A.sys A.gen
theorem Air.apart (A : Air X pins B x cls d sI σ H t) (hf : X.env.frame = some X.env.locals) : x ≠ X.env.locals ∧ x ∉ X.fs := by
  obtain ⟨oe, vs, he, _, hd⟩ := A.fly.there
  have away : x ∉ frs (X.env :: X.outer) := by
    intro hm
    obtain ⟨_, o2, e2, hnf⟩ := A.fly.2.2.1.mem hm
    have := e2.symm.trans he
    cases this
    exact hnf _ hd
  constructor
  · intro e
    refine away (List.mem_filterMap.mpr ⟨X.env, .head _, ?_⟩)
    rw [hf, e]
  · intro e
    obtain ⟨v, hv, hq⟩ := List.mem_filterMap.mp e
    exact away (List.mem_filterMap.mpr ⟨v, .tail _ hv, hq⟩)
theorem Air.clause {xn n : Str} {c : Value} {i : Nat} {b₀ : Stmt} {suite : List Stmt} {np pos : Pos} {ts : Addr → Value → Option Addr → TS} {rest : List ExceptHandler} {D : Ends} {b : Bool}
    (A : Air X pins B x cls d sI σ H t) (hf : X.env.frame = some X.env.locals) (hN : X.N.Nodup) (hi : X.N[i]? = some n) (hl : X.env.kindOf n = some .local) (hc : Names X xn c)
    (hsu : ∀ (a : Addr) (oe : Obj) (cls : Value) (d : Option Addr) (pn : List (Addr × Obj)), Zc cls d oe → (∃ vs, oe.data = .fields vs) → PSs (X.suite a ((a, oe) :: pn)) (b₀ :: suite) (ts a cls d))
    (hb : PySem.W.exmOne X.K cls c = some b)
    (yes : b = true → ts x cls d { nx := fun σ' H' => D.nx (σ'.set i none) H', rt := D.rt, bk := fun σ' H' => D.bk (σ'.set i none) H', ct := fun σ' H' => D.ct (σ'.set i none) H' } (σ.set i (some (.ref x))) H)
    (no : b = false → wpAny (model X.prog X.w) X.A (handleBy (.ref x) X.env rest) (SP X pins D) X.xe t) :
    wpAny (model X.prog X.w) X.A (handleBy (.ref x) X.env (.ExceptHandler (some (.Name xn np)) (some n) (b₀ :: suite) pos :: rest)) (SP X pins D) X.xe t := by
  obtain ⟨n1, n2⟩ := A.apart hf
  obtain ⟨oe, vs, he, hz, hd⟩ := A.fly.there
  have S := A.state.suite he hd A.new n1 n2
  have lk : PySem.W.Looks (model X.prog X.w) t.heap (typeOf (.ref x)) cls := by
    intro A2 Q E t2 kk qq
    refine wpAny_typeOf_ref (kk _ _ he) ?_
    rw [hz.1]
    exact qq
  have m := PySem.W.exm_one (M := model X.prog X.w) A.state.kIn lk hb
  have name : ∀ {Q E : Value → Shared → Prop}, Q c t → wpAny (model X.prog X.w) (X.A.mark (some (.ref x))) (eval (.Name xn np) X.env) Q E t := by
    intro Q E qc
    obtain ⟨g, nd, u⟩ := hc
    rcases u with u | ⟨u1, u2, u3⟩
    · exact ld_glob (X := X.suite x ((x, oe) :: (X.pn ++ pins))) S g u qc nd
    · exact ld_blt (X := X.suite x ((x, oe) :: (X.pn ++ pins))) S g u1 u2 qc u3 nd
  refine wpAny_handleBy_cons ?_ (by intro z; cases z)
  refine codeAny_handlers_test (name ?_)
  refine m.here ?_
  cases b with
  | false => exact no rfl
  | true =>
    refine codeAny_handlers_suite_as ?_
    refine HandSPX.lands_againZ A.fly fun h2 fl2 up2 => ?_
    have A2 : Air X pins B x cls d sI σ H { t with heap := h2 } := ⟨A.inv, A.low, A.up.trans up2, fl2, A.new, A.sys, A.gen⟩
    obtain ⟨oe2, vs2, he2, hz2, hd2⟩ := fl2.there
    have S2 := A2.state.suite he2 hd2 A.new n1 n2
    refine store_ok (X := X.suite x ((x, oe2) :: (X.pn ++ pins))) (v := .ref x) S2 hN hi (.inl hl) rfl (fun t5 S5 => ?_) (.inr hl)
    have run := (hsu x oe2 cls d (X.pn ++ pins) hz2 ⟨_, hd2⟩).run [] t5 _ H _ S5 (yes rfl)
    refine wpAny_mono run (fun fl t6 g => ?_) (fun _ _ z => z.elim)
    have gone : ∀ {σ6 : L2.St} {H6 : Hp} {R : Shared → Prop}, Inv (X.suite x ((x, oe2) :: (X.pn ++ pins))) [] σ6 H6 t6 → (∀ t7, Inv X pins (σ6.set i none) H6 t7 → R t7) →
        wpAny (model X.prog X.w) X.A (do bindName X.env n .none; unbindBehindTheSuite X.env n pos) (fun _ t7 => R t7) X.xe t6 := by
      intro σ6 H6 R S6 hR
      exact gone_ok (S6.unsuite A.inv.ok) hN hi hl hR
    match fl, g with
    | .next, ⟨_, _, S6, g6⟩ => exact gone S6 fun t7 J7 => ⟨_, _, J7, g6⟩
    | .brk, ⟨_, _, S6, g6⟩ => exact gone S6 fun t7 J7 => ⟨_, _, J7, g6⟩
    | .cont, ⟨_, _, S6, g6⟩ => exact gone S6 fun t7 J7 => ⟨_, _, J7, g6⟩
    | .ret u, ⟨_, _, _, S6, r6, g6⟩ => exact gone S6 fun t7 J7 => ⟨_, _, _, J7, r6, g6⟩
theorem Air.none {D : Ends} {Wout : WX} (A : Air X pins B x cls d sI σ H t) (hs : X.stack = X.env :: X.outer) (hf : X.env.frame = some X.env.locals) (tk : Takes X Wout) (w : Wout cls d σ H) :
    wpAny (model X.prog X.w) X.A (handleBy (.ref x) X.env []) (SP X pins D) X.xe t := by
  refine wpAny_handleBy_nil ?_
  obtain ⟨_, _, _, oe, vs, T, oT, ts', he, _, hd, h1, _⟩ := id A.fly
  unfold PySem.passOn
  refine wpAny_bind (wpAny_field he hd h1 ?_)
  have nT : ¬ ((Value.ref T == Value.none) = true) := by simp
  rw [if_neg nT]
  have out : wpAny (model X.prog X.w) X.A (setFlight (.ref x) X.env.frame) (fun _ t4 => wpAny (model X.prog X.w) X.A (throw (.ref x) : Sem Flow) (SP X pins D) X.xe t4) X.xe t := by
    rw [hf]
    refine HandSPX.setFlight_upZ A.fly fun h4 hh4 up4 => wpAny_throw (tk _ _ ?_)
    refine ⟨x, B, sI, pins, σ, H, cls, d, rfl, A.inv, A.low, A.up.trans up4, ?_, A.new, A.sys, A.gen, w⟩
    rw [hs]
    exact .inr (.inr hh4)
  first
    | exact wpAny_bind (wpAny_pure (wpAny_bind out))
    | exact wpAny_bind out
end
/-- what two clauses wish of an exception of the body -/
def wTwo (K : PySem.W.Frag) (c1 c2 : Value) (i : Nat) (ts1 ts2 : Addr → Value → Option Addr → TS) (Wout : WX) (D : Ends) : WX := fun cls d σ H => ∃ b, PySem.W.exmOne K cls c1 = some b ∧
  (b = true → ∀ x, H x = none → ts1 x cls d { nx := fun σ' H' => D.nx (σ'.set i none) H', rt := D.rt, bk := fun σ' H' => D.bk (σ'.set i none) H', ct := fun σ' H' => D.ct (σ'.set i none) H' } (σ.set i (some (.ref x))) H) ∧
  (b = false → wAs K c2 i ts2 Wout D cls d σ H)
theorem ps_try_as2 {X : Cx} {x1 x2 n : Str} {c1 c2 : Value} {i : Nat} {body su1 su2 : List Stmt} {b1 b2 : Stmt} {np1 np2 pos po1 po2 : Pos} {tb : WX → TS} {ts1 ts2 : Addr → Value → Option Addr → TS} {Wout : WX}
    (hs : X.stack = X.env :: X.outer) (hf : X.env.frame = some X.env.locals) (hN : X.N.Nodup) (hi : X.N[i]? = some n) (hl : X.env.kindOf n = some .local) (hc1 : Names X x1 c1) (hc2 : Names X x2 c2) (tk : Takes X Wout)
    (hb : ∀ (W : WX) (pn : List (Addr × Obj)) (xe : Value → Shared → Prop), Takes (X.tr pn xe) W → PassesOwn (model X.prog X.w) X.A X.env xe → PSs (X.tr pn xe) body (tb W))
    (hsu1 : ∀ (a : Addr) (oe : Obj) (cls : Value) (d : Option Addr) (pn : List (Addr × Obj)), Zc cls d oe → (∃ vs, oe.data = .fields vs) → PSs (X.suite a ((a, oe) :: pn)) (b1 :: su1) (ts1 a cls d))
    (hsu2 : ∀ (a : Addr) (oe : Obj) (cls : Value) (d : Option Addr) (pn : List (Addr × Obj)), Zc cls d oe → (∃ vs, oe.data = .fields vs) → PSs (X.suite a ((a, oe) :: pn)) (b2 :: su2) (ts2 a cls d)) :
    PS X (.Try body [.ExceptHandler (some (.Name x1 np1)) (some n) (b1 :: su1) po1, .ExceptHandler (some (.Name x2 np2)) (some n) (b2 :: su2) po2] [] [] pos) (fun D σ H => tb (wTwo X.K c1 c2 i ts1 ts2 Wout D) D σ H) := by
  refine ⟨fun pins s σ H D I h => ?_⟩
  have fr : X.A.frames = some (X.env :: X.outer) := by rw [I.ok.frames, hs]
  refine wpAny_Try_except ?_
  have land : Takes (X.tr (X.pn ++ pins) (fun e t1 => wpAny (model X.prog X.w) X.A (noteFrame e X.env) (fun _ t2 => wpAny (model X.prog X.w) X.A (setFlight e none) (fun _ t3 =>
    wpAny (model X.prog X.w) X.A (handleBy e X.env [.ExceptHandler (some (.Name x1 np1)) (some n) (b1 :: su1) po1, .ExceptHandler (some (.Name x2 np2)) (some n) (b2 :: su2) po2]) (SP X pins D) X.xe t3) X.xe t2) X.xe t1)) (wTwo X.K c1 c2 i ts1 ts2 Wout D) := by
    rintro u t1 ⟨a, B, sI, pins', σ1, H1, cls, d, rfl, J1, low, up, sky, na, os, ag, bb, hb1, y1, o1⟩
    have J : Inv X pins σ1 H1 sI := J1.ofTry I.ok
    have sky2 : Sky B (X.env :: X.outer) a (Zc cls d) X.env.locals t1.heap := hs ▸ sky
    show wpAny (model X.prog X.w) X.A (noteFrame (.ref a) X.env) _ _ _
    refine Sky.land Zc.steady fr hf sky2 fun h3 fl3 up3 => ?_
    have A : Air X pins B a cls d sI σ1 H1 { t1 with heap := h3 } := ⟨J, low, up.trans up3, fl3, na, os, ag⟩
    refine A.clause hf hN hi hl hc1 hsu1 hb1 (fun e => y1 e a na) fun e => ?_
    obtain ⟨b2', hb2, y2, o2⟩ := o1 e
    exact A.clause hf hN hi hl hc2 hsu2 hb2 (fun e => y2 e a na) fun e => A.none hs hf tk (o2 e)
  refine wpAny_mono ((hb _ _ _ land PassesOwn.looking).run [] s σ H D (I.toTry _) h) (fun fl t1 g => ?_) fun e t1 he => he
  match fl, g with
  | .next, ⟨_, _, J, q⟩ => exact wpAny_execs_nil ⟨_, _, J.ofTry I.ok, q⟩
  | .brk, ⟨_, _, J, q⟩ => exact ⟨_, _, J.ofTry I.ok, q⟩
  | .cont, ⟨_, _, J, q⟩ => exact ⟨_, _, J.ofTry I.ok, q⟩
  | .ret u, ⟨_, _, _, J, r, q⟩ => exact ⟨_, _, _, J.ofTry I.ok, r, q⟩
end WB

set_option Elab.async false
set_option linter.all false
set_option maxRecDepth 100000
set_option maxHeartbeats 4000000
namespace WB
open PySem L2 PyProof.Rows
/-! ### any value, as data, of a built-in type -/
def Fit (d : PyData) : Prop := d.showable = true ∧ d.hasDict = false ∧ d.depth ≤ 50 ∧ d.shown.length ≤ 60000
def kinds : List String := ["NoneType", "bool", "int", "str", "list", "tuple"]
def DatV (K : PySem.W.Frag) (p : Addr) (H : Hp) (x : V) : Prop := (∀ z, x = .str z → SmallS z) ∧ ∃ d, Fit d ∧ ∀ H', Bar p H H' → Dp K H' x d ∧ Thing K H' x ∧ ∃ t, TyX K H' x (.type t) ∧ t ∈ kinds
section
variable {K : PySem.W.Frag} {p : Addr} {H H' : Hp} {x : V}
theorem DatV.bar (h : DatV K p H x) (b : Bar p H H') : DatV K p H' x := by
  obtain ⟨s, d, f, k⟩ := h
  exact ⟨s, d, f, fun H2 b2 => k H2 (b.trans b2)⟩
theorem DatV.same (h : DatV K p H x) (s : Same H H') : DatV K p H' x := h.bar (bar_of s)
theorem DatV.thing (h : DatV K p H x) : Thing K H x := by
  obtain ⟨_, d, f, k⟩ := h
  exact (k H (Bar.refl p H)).2.1
theorem datV_non : DatV K p H .non := ⟨fun z e => (by cases e), .none, ⟨rfl, rfl, by decide, by decide +kernel⟩, fun _ _ => ⟨.non, .inr noStr_non, _, .base .non, by decide⟩⟩
theorem datV_bl (b : Bool) : DatV K p H (.bl b) := ⟨fun z e => (by cases e), .bool b, ⟨rfl, rfl, Nat.zero_le _, by cases b <;> decide +kernel⟩, fun _ _ => ⟨.bl b, .inr noStr_bl, _, .base (.bl b), by decide⟩⟩
theorem datV_int {i : Int} (h1 : i.natAbs.log2 < 1000) (h2 : (PyData.shown (.int i)).length ≤ 400) : DatV K p H (.int i) :=
  ⟨fun z e => (by cases e), .int i, ⟨decide_eq_true (Nat.lt_trans h1 (by decide)), rfl, Nat.zero_le _, Nat.le_trans h2 (by decide)⟩, fun _ _ => ⟨.int i, .inr noStr_int, _, .base (.int i), by decide⟩⟩
theorem datV_str {z : Str} (h : SmallS z) : DatV K p H (.str z) := ⟨fun y e => (by cases e; exact h), .str z, ⟨rfl, rfl, Nat.zero_le _, Nat.le_trans (repr_len h) (by decide)⟩, fun _ _ => ⟨.str z, .inl ⟨z, rfl, Nat.le_trans h.1 (by decide)⟩, _, .base (.str z), by decide⟩⟩
theorem list_len {ts : List Str} {m : Nat} (h : ∀ t ∈ ts, t.length ≤ m) (hl : ts.length ≤ 2) : (listText ts).length ≤ 2 * (m + 2) + 2 := by
  have pl := piled_le h
  unfold listText
  rw [Str.length_append]
  have h5 := textFrom_le ts 0 "["
  have h6 : ("[" : Str).length = 1 := by decide +kernel
  have h7 : ("]" : Str).length = 1 := by decide +kernel
  have h8 : ts.length * (m + 2) ≤ 2 * (m + 2) := Nat.mul_le_mul hl (Nat.le_refl _)
  omega
theorem tuple_len {ts : List Str} {m : Nat} (h : ∀ t ∈ ts, t.length ≤ m) (hl : ts.length ≤ 2) : (tupleText ts).length ≤ 4 * (m + 2) + 10 := by
  have pl := piled_le h
  unfold tupleText
  rw [Str.length_append, Str.length_append]
  have h5 := StrLaws.join_length_le ", " ts
  have h6 : (", " : Str).length = 2 := by decide +kernel
  rw [h6] at h5
  have h7 := sum_piled ts
  have h8 : ("(" : Str).length = 1 := by decide +kernel
  have h9 : (Str.ofString (if ts.length == 1 then ",)" else ")" : String)).length ≤ 2 := by
    split
    · decide +kernel
    · decide +kernel
  have h10 : ts.length * (m + 2) ≤ 2 * (m + 2) := Nat.mul_le_mul hl (Nat.le_refl _)
  omega
theorem fit_list {zs : List Str} (hl : zs.length ≤ 2) (hs : ∀ z ∈ zs, SmallS z) : Fit (.list (zs.map PyData.str)) := by
  obtain ⟨h1, h2, h3, h4⟩ := showAll_strs zs
  refine ⟨h1, h2, ?_, ?_⟩
  · show PyData.depthAll _ + 1 ≤ 50
    rw [h3]
    decide
  · show (listText (PyData.shownAll _)).length ≤ _
    rw [h4]
    refine Nat.le_trans (list_len (m := 3002) (fun t ht => ?_) (by rw [List.length_map]; exact hl)) (by decide)
    obtain ⟨z, hz, rfl⟩ := List.mem_map.mp ht
    exact repr_len (hs z hz)
theorem fit_tuple {zs : List Str} (hl : zs.length ≤ 2) (hs : ∀ z ∈ zs, SmallS z) : Fit (.tuple (zs.map PyData.str)) := by
  obtain ⟨h1, h2, h3, h4⟩ := showAll_strs zs
  refine ⟨h1, h2, ?_, ?_⟩
  · show PyData.depthAll _ + 1 ≤ 50
    rw [h3]
    decide
  · show (tupleText (PyData.shownAll _)).length ≤ _
    rw [h4]
    refine Nat.le_trans (tuple_len (m := 3002) (fun t ht => ?_) (by rw [List.length_map]; exact hl)) (by decide)
    obtain ⟨z, hz, rfl⟩ := List.mem_map.mp ht
    exact repr_len (hs z hz)
theorem datV_list {l : Addr} {zs : List Str} (n : l ≠ p) (e : H l = some (.lst (zs.map V.str))) (hl : zs.length ≤ 2) (hs : ∀ z ∈ zs, SmallS z) : DatV K p H (.ref l) :=
  ⟨fun z e => (by cases e), _, fit_list hl hs, fun H' b => ⟨.lst (SqL.of (b _ _ n e)) (dp_all_strs zs), .inr (noStr_lst (b _ _ n e)), _, .base (.lst (b _ _ n e)), by decide⟩⟩
theorem datV_tuple {l : Addr} {zs : List Str} (n : l ≠ p) (e : H l = some (.tup (zs.map V.str))) (hl : zs.length ≤ 2) (hs : ∀ z ∈ zs, SmallS z) : DatV K p H (.ref l) :=
  ⟨fun z e => (by cases e), _, fit_tuple hl hs, fun H' b => ⟨.tup (SqT.of (b _ _ n e)) (dp_all_strs zs), .inr (noStr_tup (b _ _ n e)), _, .base (.tup (b _ _ n e)), by decide⟩⟩
theorem datV_pair {l m : Addr} {y z : Str} (n1 : l ≠ p) (n2 : m ≠ p) (e1 : H l = some (.tup [.ref m, .str z])) (e2 : H m = some (.tup [.str y])) (hy : SmallS y) (hz : SmallS z) : DatV K p H (.ref l) := by
  refine ⟨fun z e => (by cases e), .tuple [.tuple [.str y], .str z], ⟨rfl, rfl, Nat.le_of_ble_eq_true rfl, ?_⟩, fun H' b => ⟨.tup (SqT.of (b _ _ n1 e1)) (.cons (.tup (SqT.of (b _ _ n2 e2)) (.cons (.str y) .nil)) (.cons (.str z) .nil)), .inr (noStr_tup (b _ _ n1 e1)), _, .base (.tup (b _ _ n1 e1)), by decide⟩⟩
  show (tupleText [tupleText [reprText y], reprText z]).length ≤ _
  have h1 : (tupleText [reprText y]).length ≤ 12100 := Nat.le_trans (tuple_len (m := 3002) (ts := [reprText y]) (fun t ht => by rw [List.mem_singleton.mp ht]; exact repr_len hy) (by show 1 ≤ 2; decide)) (by decide)
  refine Nat.le_trans (tuple_len (m := 12100) (fun t ht => ?_) (by show 2 ≤ 2; decide)) (by decide)
  rcases List.mem_cons.mp ht with rfl | ht
  · exact h1
  · rw [List.mem_singleton.mp ht]
    exact Nat.le_trans (repr_len hz) (by decide)
theorem okd_two {d : PyData} {z : Str} (hz : SmallS z) (h : Fit d) : OkD (.list [.str z, d]) := by
  obtain ⟨h1, h2, h3, h4⟩ := h
  refine ⟨?_, ?_, ?_, .inr ?_⟩
  · show (true && (d.showable && true)) = true
    rw [h1]
    rfl
  · show (false || (d.hasDict || false)) = false
    rw [h2]
    rfl
  · show max 0 (max d.depth 0) + 1 ≤ 64
    omega
  · show (listText [reprText z, d.shown]).length ≤ _
    refine Nat.le_trans (list_len (m := 60000) (fun t ht => ?_) (by show 2 ≤ 2; decide)) (by decide)
    rcases List.mem_cons.mp ht with rfl | ht
    · exact Nat.le_trans (repr_len hz) (by decide)
    · rw [List.mem_singleton.mp ht]
      exact h4
end
/-! ### classes, asked -/
theorem exm_not {K : PySem.W.Frag} {C D : Addr} (h1 : PySem.W.subIn K (.ref D) (.type "BaseException") = some true) (h2 : PySem.W.isClsIn K D = true) (h3 : PySem.W.typeIn K (.ref D) = some (.type "type")) (h4 : PySem.W.subIn K (.ref C) (.ref D) = some false) :
    PySem.W.exmOne K (.ref C) (.ref D) = some false := by
  unfold PySem.W.exmOne
  rw [h1, if_pos (by decide)]
  have h2' : (PySem.W.clsIn K D).isSome = true := h2
  unfold PySem.W.kitCls
  dsimp only
  rw [h2', h3]
  exact h4
theorem kit_not {K : PySem.W.Frag} {D : Addr} {t : String} (h2 : PySem.W.isClsIn K D = true) (h3 : PySem.W.typeIn K (.ref D) = some (.type "type")) (h4 : PySem.W.subIn K (.type t) (.ref D) = some false) : PySem.W.kitOne K (.type t) (.ref D) = some false := by
  unfold PySem.W.kitOne
  rw [if_neg (by intro z; cases z)]
  have h2' : (PySem.W.clsIn K D).isSome = true := h2
  unfold PySem.W.kitCls
  dsimp only
  rw [h2', h3]
  exact h4
def NotC (K : PySem.W.Frag) (C : Addr) : Prop := ∀ t ∈ kinds, PySem.W.kitOne K (.type t) (.ref C) = some false
/-! ### o.m(k = e, n = f) -/
structure MetX2 (P : Program) (w : World) (K : PySem.W.Frag) (mg : Str → Option Value) (base : Heap) (k : Nat) (C : Addr) (m : Str) (sp : Sp) (k1 k2 : Str) : Prop where
  ex : ∃ (f : Addr) (fd : FuncData) (ps : List Str), Cls K C ∧ Meth K C m f ∧ FnOk P w K mg base (L2.CX P w) k f fd ps sp ∧ KBn K fd ps 1 [k1, k2] (fun us ws => us ++ ws) (fun vs zs => vs ++ zs)
def tMethK2 (C : Addr) (m : Str) (sp : Sp) (ta t1 t2 : TE) : TE := fun σ H Q => ta σ H fun x H1 => ∃ a dx fs, x = .ref a ∧ H1 a = some (.ins C dx fs) ∧ fs.lookup m = none ∧ t1 σ H1 fun y H2 => t2 σ H2 fun z H3 => sp [x, y, z] H3 Q E0
section
variable {X : Cx} {k j : Nat} {C : Addr} {m k1 k2 : Str} {sp : Sp} {pos apos kp1 kp2 : Pos} {e1 e2 o : Expr} {ta : TE}
theorem pe_mtK2 {pl : Sem Bool} (c : MetX2 X.prog X.w X.K X.mg X.base k C m sp k1 k2) (hr : Room j X.A) (hk : k ≤ j) (he : PE X o ta) {t1 t2 : TE} (ha : PE X e1 t1) (hb : PE X e2 t2)
    (hall : (backToKw pos (keywordEach [⟨some k1, e1, kp1⟩, ⟨some k2, e2, kp2⟩] X.env)).all (·.1.isSome) = true := by rfl) (hks : (backToKw pos (keywordEach [⟨some k1, e1, kp1⟩, ⟨some k2, e2, kp2⟩] X.env)).filterMap (·.1) = [k1, k2] := by rfl)
    (hpl : ((backTo pos (starEach [] X.env)).any (·.1) || (backToKw pos (keywordEach [⟨some k1, e1, kp1⟩, ⟨some k2, e2, kp2⟩] X.env)).any (·.1.isNone)) = false := by rfl)
    (ht : eval (.Call (.Attribute o m apos) [] [⟨some k1, e1, kp1⟩, ⟨some k2, e2, kp2⟩] pos) X.env = (do
      let ov ← eval o X.env
      standAt apos.atName
      let (f, first) ← holding [ov] (getMethod ov m pl)
      callWith pos f first (backTo pos (starEach [] X.env)) (backToKw pos (keywordEach [⟨some k1, e1, kp1⟩, ⟨some k2, e2, kp2⟩] X.env))) := by rfl) :
    PE X (.Call (.Attribute o m apos) [] [⟨some k1, e1, kp1⟩, ⟨some k2, e2, kp2⟩] pos) (tMethK2 C m sp ta t1 t2) := by
  obtain ⟨f, fd, ps, hc, hm, F, kb⟩ := c.ex
  have hr2 := hr.mono hk
  refine ⟨fun pins s σ H Q I h => ?_⟩
  refine PySem.W.methodCall_KW (pl := pl) (thn (he.run pins s σ H _ I h) fun u s1 ⟨y, H1, I1, ry, a, dx, fs, ey, ea, l, q⟩ => ?_) ht
  subst ey
  obtain rfl : u = Value.ref a := ry
  refine getmeth_ok I1 ea hc hm l (PySem.W.callWith_KW0 (first := [.ref a]) (h₀ := X.base) I1.ok.mod.kin hm.kp hall ?_ hpl)
  refine thn ((pk_cons ha (pk_cons hb pk_nil)).run pos pins s1 σ H1 (fun zs H2 => ∃ y z, zs = [y, z] ∧ sp [.ref a, y, z] H2 Q E0) I1 ?_) fun ws s2 ⟨zs, H2, I2, rz, y, z, ez, q2⟩ => ⟨I2.kIn, ?_⟩
  · have e : (fun v H1 => t2 σ H1 fun v2 H2 => tNil σ H2 fun vs H3 => ∃ y z, v :: v2 :: vs = [y, z] ∧ sp [.ref a, y, z] H3 Q E0) = fun (y : V) H2 => t2 σ H2 fun z H3 => sp [.ref a, y, z] H3 Q E0 := by
      funext v H1
      refine congrArg _ (funext fun v2 => funext fun H2 => ?_)
      refine propext ⟨fun ⟨y, z, e, q⟩ => ?_, fun q => ⟨v, v2, rfl, q⟩⟩
      cases e
      exact q
    show t1 σ H1 (fun v H1 => t2 σ H1 fun v2 H2 => tNil σ H2 fun vs H3 => ∃ y z, v :: v2 :: vs = [y, z] ∧ sp [.ref a, y, z] H3 Q E0)
    rw [e]
    exact q
  · subst ez
    rw [hks]
    have r2 : Vals [V.ref a, y, z] (Value.ref a :: ws) := .cons rfl rz
    have hb := kb.to s2 [.ref a] ws I2.kIn rfl rz.length.symm
    refine wpAny_call (codeAny_mono (F.run X.A X.stack s2 H2 ⟨[.ref a], [k1, k2].zip ws⟩ (Value.ref a :: ws) [.ref a, y, z] Q E0 hr2 I2.env0 hb r2 q2) fun r s' hq => ?_)
    cases r with
    | error er => exact passL pins σ H2 s2 er s' I2 hq
    | ok fl =>
      cases fl with
      | ret u => exact I2.after hq
      | next => exact hq.elim
      | brk => exact hq.elim
      | cont => exact hq.elim
end
/-! ### bindings refused -/
/-- never a box -/
def NoBox (K : PySem.W.Frag) (H : Hp) (x : V) : Prop := ∀ H', Same H H' → ∃ t, TyX K H' x (.type t) ∧ t ∈ kinds
theorem DatV.noBox {K : PySem.W.Frag} {p : Addr} {H : Hp} {x : V} (h : DatV K p H x) : NoBox K H x := fun H' s => by
  obtain ⟨_, d, _, k⟩ := h
  exact (k H' (bar_of s)).2.2
def spPutX (K : PySem.W.Frag) (C CB CN CE : Addr) : Sp := fun vs H Q E => ∃ (w d : Addr) (kvs : List (Key × V)) (x y : V), vs = [.ref w, x, y] ∧ WAt C H w d kvs ∧ Thing K H x ∧ kvs.length < 1000 ∧
  (nameB x = false → ∀ H' e, Same H H' → H e = none → H' e = some (.xd [("name", x)]) → E (.ref CN) (some e) H') ∧
  ((∃ b z, y = .ref b ∧ BoxAt CB H b z ∧ ∀ n, x = .str n → nameS n = true → ∀ H', Same H H' → Q .non (upd H' d (.dK (putK kvs (.inr n) (.ref b))))) ∨
    (NoBox K H y ∧ (nameB x = true → ∀ H' e, Same H H' → H e = none → H' e = some (.xd [("contents", y)]) → E (.ref CE) (some e) H')))
def spRaisedP (K : PySem.W.Frag) (C CB : Addr) : Sp := fun vs H Q _ => ∃ (w d : Addr) (kvs : List (Key × V)) (x y : V), vs = [.ref w, x, y] ∧ WAt C H w d kvs ∧ Thing K H x ∧ kvs.length < 1000 ∧
  (nameB x = false → ∀ H' l, Same H H' → H l = none → H' l = some (.lst [.str "name", x]) → Q (.ref l) H') ∧
  ((∃ b z, y = .ref b ∧ BoxAt CB H b z ∧ ∀ n, x = .str n → nameS n = true → ∀ H' l, Same H H' → H' l = none → l ≠ d → Q (.ref l) (upd (upd H' d (.dK (putK kvs (.inr n) (.ref b)))) l (.lst []))) ∨
    (NoBox K H y ∧ (nameB x = true → ∀ H' l, Same H H' → H l = none → H' l = some (.lst [.str "box", y]) → Q (.ref l) H')))
def spAny (K : PySem.W.Frag) : Sp := fun vs H Q _ => ∃ p q : Addr, vs = [.ref p] ∧ BagAt H p q ∧ ∀ H' x, Bar p H H' → BagAt H' p q → DatV K p H' x → Q x H'
def spLawName (K : PySem.W.Frag) : Sp := fun vs H Q _ => ∃ x : V, vs = [x] ∧ Thing K H x ∧ (∀ z, x = .str z → SmallS z) ∧ ∀ H', Same H H' → Q (.bl (nameB x)) H'
theorem nameB_str {x : V} (h : nameB x = true) : ∃ n, x = .str n ∧ nameS n = true := by
  cases x with
  | str n => exact ⟨n, rfl, h⟩
  | non => cases h
  | bl b => cases h
  | int i => cases h
  | byt b => cases h
  | flt b => cases h
  | ref a => cases h
  | ty n => cases h
/-! ### a world, and the same bindings in a dict -/
structure L10 (C CB p q w d bd : Addr) (ps : List (Str × Addr)) (H : Hp) : Prop where
  bag : BagAt H p q
  bnd : H bd = some (.dK (ps.map (kv V.ref)))
  wld : WAt C H w d (ps.map (kv V.ref))
  box : ∀ e ∈ ps, ∃ z, BoxAt CB H e.2 z
  nam : ∀ e ∈ ps, nameS e.1 = true
  n1 : d ≠ bd
section
variable {C CB p q w d bd : Addr} {ps : List (Str × Addr)} {H H' : Hp}
theorem L10.same (L : L10 C CB p q w d bd ps H) (s : Same H H') : L10 C CB p q w d bd ps H' := ⟨L.bag.same s, s _ _ L.bnd, L.wld.same s, fun e he => by
  obtain ⟨z, h⟩ := L.box e he
  exact ⟨z, h.same s⟩, L.nam, L.n1⟩
theorem L10.draw (L : L10 C CB p q w d bd ps H) (s : Bar p H H') (hB : BagAt H' p q) : L10 C CB p q w d bd ps H' := by
  obtain ⟨c, s', i, ns, hp, _⟩ := id L.bag
  have nb : bd ≠ p := ob_ne L.bnd hp (by intro e; cases e)
  obtain ⟨w1, w2⟩ := L.wld.bag L.bag
  exact ⟨hB, s _ _ nb L.bnd, L.wld.bar s w1 w2, fun e he => by
    obtain ⟨z, h⟩ := L.box e he
    exact ⟨z, h.bar s (h.bag L.bag)⟩, L.nam, L.n1⟩
theorem L10.put {n z : Str} {b : Addr} (L : L10 C CB p q w d bd ps H) (hn : nameS n = true) (hb : BoxAt CB H b z) (keep : ∀ c o, c ≠ bd → c ≠ d → H c = some o → H' c = some o)
    (h1 : H' bd = some (.dK (putK (ps.map (kv V.ref)) (.inr n) (.ref b)))) (h2 : H' d = some (.dK (putK (ps.map (kv V.ref)) (.inr n) (.ref b)))) : L10 C CB p q w d bd (putP ps n b) H' := by
  obtain ⟨c, s', i, ns, hp, hq, hr⟩ := id L.bag
  obtain ⟨⟨dw, hw⟩, hd⟩ := id L.wld
  have k2 : ∀ (a : Addr) (o : HO), (∀ kvs, o ≠ .dK kvs) → H a = some o → H' a = some o := fun a o ho ha => keep a o (ob_ne ha L.bnd (ho _)) (ob_ne ha hd (ho _)) ha
  have e : putK (ps.map (kv V.ref)) (.inr n) (.ref b) = (putP ps n b).map (kv V.ref) := put_kv V.ref ps n b
  rw [e] at h1 h2
  refine ⟨⟨c, s', i, ns, k2 p _ (fun _ z => by cases z) hp, k2 q _ (fun _ z => by cases z) hq, hr⟩, h1, ⟨⟨dw, k2 w _ (fun _ z => by cases z) hw⟩, h2⟩, fun e he => ?_, fun e he => ?_, L.n1⟩
  · rcases putP_mem he with rfl | he
    · obtain ⟨dx, h⟩ := hb
      exact ⟨z, dx, k2 _ _ (fun _ z => by cases z) h⟩
    · obtain ⟨z, dx, h⟩ := L.box e he
      exact ⟨z, dx, k2 _ _ (fun _ z => by cases z) h⟩
  · rcases putP_mem he with rfl | he
    · exact hn
    · exact L.nam e he
theorem L10.vals (L : L10 C CB p q w d bd ps H) : ∀ z v, valV (ps.map (kv V.ref)) (.inr z) = some v → ∃ a t, v = .ref a ∧ BoxAt CB H a t := fun z v h => by
  rw [get_kv] at h
  cases e : getP ps z with
  | none =>
    rw [e] at h
    cases h
  | some k =>
    rw [e] at h
    cases h
    obtain ⟨t, ht⟩ := L.box _ (getP_mem e)
    exact ⟨_, t, rfl, ht⟩
theorem getP_at {β : Type} {ps : List (Str × β)} {e : Str × β} (hm : e ∈ ps) : ∃ k, getP ps e.1 = some k := by
  unfold getP
  cases q : ps.find? fun p => decide (p.1 = e.1) with
  | none => exact absurd (decide_eq_true rfl) (List.find?_eq_none.mp q e hm)
  | some b => exact ⟨b.2, rfl⟩
theorem put_get {β : Type} (ps : List (Str × β)) (n : Str) (b : β) : getP (putP ps n b) n = some b := by
  have hm : (n, b) ∈ putP ps n b := by
    unfold putP
    split
    · rename_i h
      obtain ⟨x, hx, e⟩ := List.any_eq_true.mp h
      have e := of_decide_eq_true e
      refine List.mem_map.mpr ⟨x, hx, ?_⟩
      rw [if_pos e, e]
    · exact List.mem_append_right _ (List.mem_singleton.mpr rfl)
  obtain ⟨k, hk⟩ := getP_at hm
  have h2 := getP_mem hk
  have : ∀ x ∈ putP ps n b, x.1 = n → x.2 = b := fun x hx e => by
    unfold putP at hx
    split at hx
    · obtain ⟨y, hy, rfl⟩ := List.mem_map.mp hx
      split at e
      · rename_i h
        rw [if_pos h]
      · rename_i h
        exact absurd e h
    · rename_i h
      rcases List.mem_append.mp hx with hx | hx
      · exact absurd (List.any_eq_true.mpr ⟨x, hx, decide_eq_true e⟩) h
      · rw [List.mem_singleton.mp hx]
  rw [hk]
  exact congrArg some (this _ h2 rfl)
end
/-- two texts and a value, as data -/
theorem dats_two {K : PySem.W.Frag} {p l : Addr} {H : Hp} {x : V} {z : Str} (hz : SmallS z) (hx : DatV K p H x) (hl : H l = some (.lst [.str z, x])) : ∃ d, OkD d ∧ (∀ i, d ≠ .int i) ∧ ∀ H' m, Bar p H H' → H' m = some (.lst [.str z, x]) → Dp K H' (.ref m) d := by
  obtain ⟨_, dd, f, k⟩ := hx
  exact ⟨_, okd_two hz f, (fun i e => by cases e), fun H' m b hm => .lst (SqL.of hm) (.cons (.str z) (.cons (k H' b).1 .nil))⟩
end WB

set_option Elab.async false
set_option linter.all false
set_option maxRecDepth 100000
set_option maxHeartbeats 4000000
namespace WB
open PySem L2 PyProof.Rows
/-! ### the length of a range -/
section
variable {X : Cx}
theorem cr_range1 : CallR X (.type "range") (fun vs H Q => ∃ j, vs = [V.int j] ∧ ∀ p, H p = none → Q (.ref p) (upd H p (.rng 0 j))) := by
  intro pins s σ H vs us Q I r h
  obtain ⟨j, rfl, q⟩ := h
  obtain ⟨u1, rfl, rj⟩ := vals1 r
  obtain ⟨t, rfl⟩ := rj
  refine call_range_1 ?_
  refine ⟨.ref s.heap.objs.size, upd H s.heap.objs.size (.rng 0 j), I.laid (t' := s.toks + 1 + 1) (fun b o e => Heap.get?_push_of_some _ e) (Nat.le_refl _) ?_, rfl, q _ (I.hok.fresh (Nat.le_refl _))⟩
  exact ⟨_, _, _, Heap.get?_push_size _ rfl⟩
theorem call_lenRng : CallR X (.builtin "len") (fun xs H Q => ∃ (r : Addr) (i j : Int) (n : Nat), xs = [.ref r] ∧ H r = some (.rng i j) ∧ Builtin.Range.rangeSize i j 1 = n ∧ (n : Int) < 2 ^ 63 ∧ Q (.int n) H) := by
  intro pins s σ H xs us Q I r h
  obtain ⟨a, i, j, n, rfl, ha, hn, hf, q⟩ := h
  obtain ⟨u, rfl, ru⟩ := vals1 r
  cases ru
  obtain ⟨t, u, v, e⟩ := I.hok a _ ha
  exact call_len_range e hn hf ⟨.int n, H, I.tok _, ⟨_, rfl⟩, q⟩
end
/-! ### a class called by two keywords, or with its last parameter left out, within try -/
structure MakX2 (P : Program) (w : World) (K : PySem.W.Frag) (mg : Str → Option Value) (base : Heap) (k : Nat) (x : Str) (C : Addr) (sp : Sp) (k1 k2 : Str) : Prop where
  ex : ∃ (f : Addr) (fd : FuncData) (ps : List Str), Mk K C f ∧ FnOk P w K mg base (L2.CX P w) k f fd ps sp ∧ mg x = some (.ref C) ∧ KBn K fd ps 1 [k1, k2] (fun us ws => us ++ ws) (fun vs zs => vs ++ zs)
structure MakXD (P : Program) (w : World) (K : PySem.W.Frag) (mg : Str → Option Value) (base : Heap) (k : Nat) (x : Str) (C : Addr) (sp : Sp) (dv : V) : Prop where
  ex : ∃ (f : Addr) (fd : FuncData) (ps : List Str) (ds : List Value), Mk K C f ∧ FnOk P w K mg base (L2.CX P w) k f fd ps sp ∧ mg x = some (.ref C) ∧ Binds K fd ps ds ∧ Vals [dv] ds
def tMakeK2 (C : Addr) (sp : Sp) (E : L2.St → XK) (t1 t2 : TE) : TE := fun σ H Q => t1 σ H fun y H1 => t2 σ H1 fun z H2 => ∀ x dx, H2 x = none → H2 dx = none → dx ≠ x →
  sp [.ref x, y, z] (upd (upd H2 dx (.own x)) x (.ins C dx [])) (fun v H3 => v = .non ∧ Q (.ref x) H3) (E σ)
def tMakeD1 (C : Addr) (sp : Sp) (dv : V) (E : L2.St → XK) (t1 : TE) : TE := fun σ H Q => t1 σ H fun y H2 => ∀ x dx, H2 x = none → H2 dx = none → dx ≠ x →
  sp [.ref x, y, dv] (upd (upd H2 dx (.own x)) x (.ins C dx [])) (fun v H3 => v = .non ∧ Q (.ref x) H3) (E σ)
section
variable {X : Cx} {W : WX} {k j : Nat} {C : Addr} {x k1 k2 : Str} {sp : Sp} {p pos kp1 kp2 : Pos} {e1 e2 : Expr} {t1 t2 : TE}
theorem make_run {f : Addr} {fd : FuncData} {ps : List Str} {E : XK} {pins : List (Addr × Obj)} {σ : L2.St} {H : Hp} {s : Shared} {Q : VK} {us : List Value} {ks : List (Str × Value)} {us2 : List Value} {vs2 : List V} (M : Mk X.K C f) (F : FnOk X.prog X.w X.K X.mg X.base (L2.CX X.prog X.w) k f fd ps sp) (hr : Room (k + 1) X.A) (hx : PassesAt (L2.CX X.prog X.w) X σ E)
    (I : Inv X pins σ H s) (hb : ∀ s' : Shared, X.K.In s'.heap → BindsTo s' fd ⟨Value.ref (s.heap.objs.size + 1) :: us, ks⟩ (ps.zip (Value.ref (s.heap.objs.size + 1) :: us2))) (r : Vals vs2 us2)
    (q : ∀ x dx, H x = none → H dx = none → dx ≠ x → sp (.ref x :: vs2) (upd (upd H dx (.own x)) x (.ins C dx [])) (fun v H3 => v = .non ∧ Q (.ref x) H3) E) :
    wpAny (model X.prog X.w) X.A (call (.ref C) us ks) (EP X pins σ Q) X.xe s := by
  have q2 := q (s.heap.objs.size + 1) s.heap.objs.size (I.hok.fresh (Nat.le_succ _)) (I.hok.fresh (Nat.le_refl _)) (Nat.ne_of_lt (Nat.lt_succ_self _))
  have I2 := Inv.made (C := C) I
  have r2 : Vals (V.ref (s.heap.objs.size + 1) :: vs2) (Value.ref (s.heap.objs.size + 1) :: us2) := .cons rfl r
  refine wpAny_call (make_map (f := f) I.kIn M.makes M.init (beq_iff_eq.mp M.fn) (codeAny_mono (F.run _ X.stack _ _ ⟨Value.ref (s.heap.objs.size + 1) :: us, ks⟩ (Value.ref (s.heap.objs.size + 1) :: us2) _ _ E (hr.make C us ks) (I2.env0.make C us ks) (hb _ I2.kIn) r2 q2) fun y s' hq' => ?_))
  match y, hq' with
  | .error er, hq' => exact hx pins _ _ er s' I2 hq'
  | .ok (.ret u), hq' =>
    obtain ⟨v, H', I3, rv, ev, q3⟩ := I2.after hq'
    subst ev
    exact ⟨rv, ⟨V.ref (s.heap.objs.size + 1), H', I3, rfl, q3⟩⟩
theorem pe_mkK2 (c : MakX2 X.prog X.w X.K X.mg X.base k x C sp k1 k2) (tk : Takes X W) (hr : Room j X.A) (hk : k + 1 ≤ j) (hg : Gl X x) (ha : PE X e1 t1) (hb : PE X e2 t2)
    (hall : (backToKw pos (keywordEach [⟨some k1, e1, kp1⟩, ⟨some k2, e2, kp2⟩] X.env)).all (·.1.isSome) = true := by rfl) (hks : (backToKw pos (keywordEach [⟨some k1, e1, kp1⟩, ⟨some k2, e2, kp2⟩] X.env)).filterMap (·.1) = [k1, k2] := by rfl) (hdb : (x == ("__debug__" : Str)) = false := by decide)
    (hpl : ((backTo pos (starEach [] X.env)).any (·.1) || (backToKw pos (keywordEach [⟨some k1, e1, kp1⟩, ⟨some k2, e2, kp2⟩] X.env)).any (·.1.isNone)) = false := by rfl) :
    PE X (.Call (.Name x p) [] [⟨some k1, e1, kp1⟩, ⟨some k2, e2, kp2⟩] pos) (tMakeK2 C sp (WE W) t1 t2) := by
  obtain ⟨f, fd, ps, M, F, hm, kb⟩ := c.ex
  refine ⟨fun pins s σ H Q I h => ?_⟩
  refine wpAny_Call_Name_kw (ld_glob I hg hm ?_ hdb)
  refine PySem.W.callWith_KW0 (h₀ := X.base) I.ok.mod.kin M.kp hall ?_ hpl
  refine thn ((pk_cons ha (pk_cons hb pk_nil)).run pos pins s σ H (fun zs H2 => ∃ y z, zs = [y, z] ∧ ∀ x dx, H2 x = none → H2 dx = none → dx ≠ x →
    sp [.ref x, y, z] (upd (upd H2 dx (.own x)) x (.ins C dx [])) (fun v H3 => v = .non ∧ Q (.ref x) H3) (WE W σ)) I ?_) fun ws s2 ⟨zs, H2, I2, rz, y, z, ez, q2⟩ => ⟨I2.kIn, ?_⟩
  · have e : (fun v H1 => t2 σ H1 fun v2 H2 => tNil σ H2 fun vs H3 => ∃ y z, v :: v2 :: vs = [y, z] ∧ ∀ x dx, H3 x = none → H3 dx = none → dx ≠ x →
        sp [.ref x, y, z] (upd (upd H3 dx (.own x)) x (.ins C dx [])) (fun v H3 => v = .non ∧ Q (.ref x) H3) (WE W σ)) = fun (y : V) H2 => t2 σ H2 fun z H3 => ∀ x dx, H3 x = none → H3 dx = none → dx ≠ x →
        sp [.ref x, y, z] (upd (upd H3 dx (.own x)) x (.ins C dx [])) (fun v H3 => v = .non ∧ Q (.ref x) H3) (WE W σ) := by
      funext v H1
      refine congrArg _ (funext fun v2 => funext fun H2 => ?_)
      refine propext ⟨fun ⟨y, z, e, q⟩ => ?_, fun q => ⟨v, v2, rfl, q⟩⟩
      cases e
      exact q
    show t1 σ H (fun v H1 => t2 σ H1 fun v2 H2 => tNil σ H2 fun vs H3 => ∃ y z, v :: v2 :: vs = [y, z] ∧ ∀ x dx, H3 x = none → H3 dx = none → dx ≠ x →
        sp [.ref x, y, z] (upd (upd H3 dx (.own x)) x (.ins C dx [])) (fun v H3 => v = .non ∧ Q (.ref x) H3) (WE W σ))
    rw [e]
    exact h
  · subst ez
    rw [hks]
    exact make_run (us := []) (us2 := ws) (vs2 := [y, z]) M F (hr.mono hk) (passAt tk σ) I2 (fun s' X' => kb.to s' [.ref (s2.heap.objs.size + 1)] ws X' rfl rz.length.symm) rz q2
theorem pe_mkD1 {dv : V} (c : MakXD X.prog X.w X.K X.mg X.base k x C sp dv) (tk : Takes X W) (hr : Room j X.A) (hk : k + 1 ≤ j) (hg : Gl X x) (ha : PE X e1 t1)
    (hdb : (x == ("__debug__" : Str)) = false := by decide) (he : starEach [e1] X.env = (false, eval e1 X.env) :: starEach [] X.env := by rfl) (hpl : (backTo pos (starEach [] X.env)).any (·.1) = false := by rfl) :
    PE X (.Call (.Name x p) [e1] [] pos) (tMakeD1 C sp dv (WE W) t1) := by
  obtain ⟨f, fd, ps, ds, M, F, hm, b, rd⟩ := c.ex
  refine ⟨fun pins s σ H Q I h => ?_⟩
  refine wpAny_Call_Name_kw (ld_glob I hg hm ?_ hdb)
  refine PySem.W.callWith_K (h₀ := X.base) I.ok.mod.kin M.kp (thn ((pa_cons ha pa_nil he).run pos pins s σ H (fun vs H2 => ∃ y, vs = [y] ∧ ∀ x dx, H2 x = none → H2 dx = none → dx ≠ x →
    sp [.ref x, y, dv] (upd (upd H2 dx (.own x)) x (.ins C dx [])) (fun v H3 => v = .non ∧ Q (.ref x) H3) (WE W σ)) I ?_) fun us s1 ⟨vs, H1, I1, r, y, ey, q⟩ => ⟨I1.kIn, ?_⟩) he hpl
  · have e : (fun v H1 => tNil σ H1 fun vs H3 => ∃ y, v :: vs = [y] ∧ ∀ x dx, H3 x = none → H3 dx = none → dx ≠ x →
        sp [.ref x, y, dv] (upd (upd H3 dx (.own x)) x (.ins C dx [])) (fun v H3 => v = .non ∧ Q (.ref x) H3) (WE W σ)) = fun (y : V) H3 => ∀ x dx, H3 x = none → H3 dx = none → dx ≠ x →
        sp [.ref x, y, dv] (upd (upd H3 dx (.own x)) x (.ins C dx [])) (fun v H3 => v = .non ∧ Q (.ref x) H3) (WE W σ) := by
      funext v H1
      refine propext ⟨fun ⟨y, e, q⟩ => ?_, fun q => ⟨v, rfl, q⟩⟩
      cases e
      exact q
    show t1 σ H (fun v H1 => tNil σ H1 fun vs H3 => ∃ y, v :: vs = [y] ∧ ∀ x dx, H3 x = none → H3 dx = none → dx ≠ x →
        sp [.ref x, y, dv] (upd (upd H3 dx (.own x)) x (.ins C dx [])) (fun v H3 => v = .non ∧ Q (.ref x) H3) (WE W σ))
    rw [e]
    exact h
  · subst ey
    obtain ⟨u, rfl, ru⟩ := vals1 r
    obtain ⟨u2, rfl, rd2⟩ := vals1 rd
    refine make_run (us := [u]) (us2 := [u, u2]) (vs2 := [y, dv]) M F (hr.mono hk) (passAt tk σ) I1 (fun s' X' => ?_) (.cons ru (.cons rd2 .nil)) q
    exact b s' [.ref (s1.heap.objs.size + 1), u] X' (by
      have := F.len _ _ _ _ (q (s1.heap.objs.size + 1) s1.heap.objs.size (I1.hok.fresh (Nat.le_succ _)) (I1.hok.fresh (Nat.le_refl _)) (Nat.ne_of_lt (Nat.lt_succ_self _)))
      exact this)
end
end WB

set_option Elab.async false
set_option linter.all false
set_option maxRecDepth 100000
set_option maxHeartbeats 4000000
namespace WB
open PySem L2 PyProof.Rows
/-! ### numbers within bounds, among any values -/
def numB (lo hi : Int) : V → Bool
  | .int i => decide (lo ≤ i) && decide (i ≤ hi)
  | _ => false
def Num (K : PySem.W.Frag) (p : Addr) (H : Hp) (x : V) : Prop := (∃ i, x = .int i) ∨ ((∀ i, x ≠ .int i) ∧ ∀ H', Bar p H H' → ∃ t, TyX K H' x (.type t) ∧ (t = "bool" ∨ kitB t "int" = some false))
section
variable {K : PySem.W.Frag} {p : Addr} {H H' : Hp} {x : V}
theorem Num.bar (h : Num K p H x) (b : Bar p H H') : Num K p H' x := h.imp id fun ⟨n, k⟩ => ⟨n, fun H2 b2 => k H2 (b.trans b2)⟩
theorem Num.same (h : Num K p H x) (s : Same H H') : Num K p H' x := h.bar (bar_of s)
theorem num_int (i : Int) : Num K p H (.int i) := .inl ⟨i, rfl⟩
theorem num_non : Num K p H .non := .inr ⟨fun i e => (by cases e), fun _ _ => ⟨_, .base .non, .inr (by decide +kernel)⟩⟩
theorem num_bl (b : Bool) : Num K p H (.bl b) := .inr ⟨fun i e => (by cases e), fun _ _ => ⟨_, .base (.bl b), .inl rfl⟩⟩
theorem num_str (z : Str) : Num K p H (.str z) := .inr ⟨fun i e => (by cases e), fun _ _ => ⟨_, .base (.str z), .inr (by decide +kernel)⟩⟩
theorem num_list {l : Addr} {xs : List V} (n : l ≠ p) (e : H l = some (.lst xs)) : Num K p H (.ref l) := .inr ⟨fun i e => (by cases e), fun _ b => ⟨_, .base (.lst (b _ _ n e)), .inr (by decide +kernel)⟩⟩
theorem num_tuple {l : Addr} {xs : List V} (n : l ≠ p) (e : H l = some (.tup xs)) : Num K p H (.ref l) := .inr ⟨fun i e => (by cases e), fun _ b => ⟨_, .base (.tup (b _ _ n e)), .inr (by decide +kernel)⟩⟩
theorem numB_int {lo hi : Int} (h : numB lo hi x = true) : ∃ i, x = .int i ∧ lo ≤ i ∧ i ≤ hi := by
  cases x with
  | int i =>
    have h : (decide (lo ≤ i) && decide (i ≤ hi)) = true := h
    rw [Bool.and_eq_true] at h
    exact ⟨i, rfl, of_decide_eq_true h.1, of_decide_eq_true h.2⟩
  | str n => cases h
  | non => cases h
  | bl b => cases h
  | byt b => cases h
  | flt b => cases h
  | ref a => cases h
  | ty n => cases h
theorem numB_not {lo hi : Int} (h : ∀ i, x ≠ .int i) : numB lo hi x = false := by
  cases x with
  | int i => exact absurd rfl (h i)
  | _ => rfl
end
def spWhole (K : PySem.W.Frag) : Sp := fun vs H Q _ => ∃ (x : V) (lo hi : Int) (p : Addr), vs = [x, .int lo, .int hi] ∧ Num K p H x ∧ Q (.bl (numB lo hi x)) H
def spPower : Sp := fun vs H Q _ => ∃ b e : Int, vs = [.int b, .int e] ∧ 0 ≤ b ∧ b ≤ 9 ∧ -1 ≤ e ∧ e ≤ 12 ∧ Q (.int (b ^ e.toNat)) H
/-! ### cuts and dealings -/
structure FldC (K : PySem.W.Frag) (C : Addr) (fs : List Str) : Prop where
  cl : Cls K C
  no : ∀ f ∈ fs, NoAttr K C f
def cutF (x y : V) (m : Int) : List (Str × V) := [("whole", x), ("chunk", y), ("many", .int m)]
def dealF (x y : V) (m : Int) : List (Str × V) := [("chunks", x), ("workers", y), ("many", .int m)]
def cnt (x y : V) : Int := match x with
  | .int i => if y = .non then 2 ^ (i - 1).toNat else 1
  | _ => 0
def prod (x y : V) : Int := match x, y with
  | .int i, .int j => j ^ i.toNat
  | _, _ => 0
def spInitC (K : PySem.W.Frag) (C CE : Addr) : Sp := fun vs H Q E => ∃ (a dx p : Addr) (x y : V), vs = [.ref a, x, y] ∧ H a = some (.ins C dx []) ∧ Num K p H x ∧ Num K p H y ∧
  (numB 0 12 x = false → ∀ H' e, Same H H' → H e = none → H' e = some (.xd [("what", .str "count")]) → E (.ref CE) (some e) H') ∧
  (numB 0 12 x = true → y ≠ .non → numB 1 9 y = false → ∀ H' e, Same H H' → H e = none → H' e = some (.xd [("what", .str "chunk")]) → E (.ref CE) (some e) H') ∧
  (numB 0 12 x = true → (y = .non ∨ numB 1 9 y = true) → Q .non (upd H a (.ins C dx (cutF x y (cnt x y)))))
def spInitDl (K : PySem.W.Frag) (C CE CT : Addr) : Sp := fun vs H Q E => ∃ (a dx p : Addr) (x y : V), vs = [.ref a, x, y] ∧ H a = some (.ins C dx []) ∧ Num K p H x ∧ Num K p H y ∧
  (numB 0 12 x = false → ∀ H' e, Same H H' → H e = none → H' e = some (.xd [("what", .str "chunks")]) → E (.ref CE) (some e) H') ∧
  (numB 0 12 x = true → numB 1 9 y = false → ∀ H' e, Same H H' → H e = none → H' e = some (.xd [("what", .str "workers")]) → E (.ref CE) (some e) H') ∧
  (numB 0 12 x = true → numB 1 9 y = true → (prod x y > 5000 → ∀ H' e, Bar a H H' → H e = none → H' e = some (.xd [("what", .str "dealings")]) → E (.ref CT) (some e) H') ∧
    (¬ prod x y > 5000 → Q .non (upd H a (.ins C dx (dealF x y (prod x y))))))
def spLenM (C : Addr) : Sp := fun vs H Q _ => ∃ (a dx : Addr) (fs : List (Str × V)) (m : Nat), vs = [.ref a] ∧ H a = some (.ins C dx fs) ∧ fs.lookup ("many" : Str) = some (V.int m) ∧ m ≤ 5000 ∧ ∀ H', Same H H' → Q (.int m) H'
/-! ### what is told of them -/
def Ans (H : Hp) (r : List Str ⊕ Nat) (v : V) : Prop := match r with
  | .inl ws => ∃ l, v = .ref l ∧ H l = some (.lst (ws.map V.str))
  | .inr m => v = .int m
def dueC (x y : V) (lo : Bool) : List Str ⊕ Nat := if numB 0 12 x = true then (if lo = true then .inr (cnt x .non).toNat else if y = .non then .inr (cnt x .non).toNat else if numB 1 9 y = true then .inr 1 else .inl ["chunk"]) else .inl ["count"]
def dueD (x y : V) : List Str ⊕ Nat := if numB 0 12 x = true then (if numB 1 9 y = true then (if prod x y > 5000 then .inl ["dealings", "many"] else .inr (prod x y).toNat) else .inl ["workers"]) else .inl ["chunks"]
def spLawCuts (K : PySem.W.Frag) : Sp := fun vs H Q _ => ∃ (x y : V) (lo : Bool) (p : Addr), vs = [x, y, .bl lo] ∧ H p ≠ none ∧ Num K p H x ∧ Num K p H y ∧ ∀ H' v, Same H H' → Ans H' (dueC x y lo) v → Q v H'
def spLawDeal (K : PySem.W.Frag) : Sp := fun vs H Q _ => ∃ (x y : V) (p : Addr), vs = [x, y] ∧ H p ≠ none ∧ Num K p H x ∧ Num K p H y ∧ ∀ H' v, Same H H' → Ans H' (dueD x y) v → Q v H'
def spThingN (K : PySem.W.Frag) : Sp := fun vs H Q _ => ∃ (p q : Addr) (m : Int), vs = [.ref p, .int m] ∧ BagAt H p q ∧ 0 ≤ m ∧ m ≤ 12 ∧ ∀ H' x, Bar p H H' → BagAt H' p q → Num K p H' x → Q x H'
theorem pow_le9 {b : Int} (h0 : 0 ≤ b) (h : b ≤ 9) : ∀ n : Nat, 0 ≤ b ^ n ∧ b ^ n ≤ 9 ^ n
  | 0 => by simp
  | n + 1 => by
    obtain ⟨i1, i2⟩ := pow_le9 h0 h n
    rw [Int.pow_succ, Int.pow_succ]
    exact ⟨Int.mul_nonneg i1 h0, Int.mul_le_mul i2 h h0 (Int.le_trans i1 i2)⟩
theorem cnt_le {x y : V} (h : numB 0 12 x = true) : 0 ≤ cnt x y ∧ cnt x y ≤ 5000 := by
  obtain ⟨i, rfl, h0, h12⟩ := numB_int h
  show 0 ≤ (if y = .non then (2 : Int) ^ (i - 1).toNat else 1) ∧ (if y = .non then (2 : Int) ^ (i - 1).toNat else 1) ≤ 5000
  obtain ⟨n, hn⟩ : ∃ n, n = (i - 1).toNat := ⟨_, rfl⟩
  have : n ≤ 11 := by omega
  rw [← hn]
  split
  · revert this
    clear hn
    have : ∀ n : Nat, n < 12 → (0 : Int) ≤ 2 ^ n ∧ (2 : Int) ^ n ≤ 5000 := by decide +kernel
    intro h
    exact this n (by omega)
  · decide
theorem prod_ge {x y : V} (hy : numB 1 9 y = true) : 0 ≤ prod x y := by
  obtain ⟨j, rfl, h0, h9⟩ := numB_int hy
  cases x with
  | int i => exact (pow_le9 (by omega) h9 _).1
  | _ => exact Int.le_refl _
end WB

set_option Elab.async false
set_option linter.all false
set_option maxRecDepth 100000
set_option maxHeartbeats 4000000
namespace WB
open PySem L2 PyProof.Rows
/-! ### own errors as values -/
def tMkV (C : Addr) (sp : Sp) (ta : TA) : TE := fun σ H Q => ta σ H fun vs H1 => vs.length ≤ 10 ∧ ∀ a, H1 a = none → sp (.ref a :: vs) (upd H1 a (exo a C none)) (fun v H2 => v = .non ∧ Q (.ref a) H2) (fun _ _ _ => False)
section
variable {X : Cx} {e : Expr} {es : List Expr} {ta : TA} {te : TE} {p pos : Pos} {B newId initId : String} {bmB : List Value} {f : Str}
/-- C(e, ..), kept -/
theorem pe_excV {CX : CXT} {x : Str} {C fI : Addr} {k : Nat} {fd : FuncData} {ps : List Str} {sp : Sp} (T : OexB X.K C B newId initId bmB) (iC : PySem.W.findIn X.K (.ref C) "__init__" = some (some (.ref fI))) (tI : PySem.W.typeIn X.K (.ref fI) = some (.type "function"))
    (F1 : FnOk X.prog X.w X.K X.mg X.base CX k fI fd ps sp) (hr : Room (k + 1) X.A) (hb : Binds X.K fd ps []) (hx : Passes CX X (fun _ _ _ => False)) (hg : Gl X x) (hm : X.mg x = some (.ref C)) (ha : PA X (e :: es) ta)
    (hdb : (x == ("__debug__" : Str)) = false := by decide) (he : starEach (e :: es) X.env = (false, eval e X.env) :: starEach es X.env := by rfl) (hpl : (backTo pos (starEach es X.env)).any (·.1) = false := by rfl) :
    PE X (.Call (.Name x p) (e :: es) [] pos) (tMkV C sp ta) := by
  refine ⟨fun pins s σ H Q I h => ?_⟩
  obtain ⟨nm, q, N, bs, bm, sn, sub, ab, col, dd, k0, k1, k2, k3, k5, hC, hbm⟩ := T.cls
  refine wpAny_Call_Name_kw (ld_glob I hg hm ?_ hdb)
  refine PySem.W.callWith_K (h₀ := X.base) I.ok.mod.kin T.kC (thn (ha.run pos pins s σ H _ I h) fun us s1 z => ?_) he hpl
  obtain ⟨vs, H1, I1, r1, hz, q1⟩ := z
  refine ⟨I1.kIn, ?_⟩
  obtain ⟨hp, g, dr, tk, os⟩ := s1
  have fresh : H1 (hp.objs.size + 1) = none := I1.hok.fresh (Nat.le_succ _)
  have hq := q1 (hp.objs.size + 1) fresh
  have up : ∀ b o, hp.get? b = some o → ((hp.push (PySem.W.kdv_tup us)).push (PySem.HandSPX.excO C hp.objs.size)).get? b = some o := fun b o z => Heap.get?_push_of_some _ (Heap.get?_push_of_some _ z)
  have made : ((hp.push (PySem.W.kdv_tup us)).push (PySem.HandSPX.excO C hp.objs.size)).get? (hp.objs.size + 1) = some (PySem.HandSPX.excO C hp.objs.size) := by heap_get
  have I2 := I1.laid (t' := tk) (a := hp.objs.size + 1) (o := exo (hp.objs.size + 1) C none) up (Nat.le_succ _) (exo_ok made)
  have r2 : Vals (V.ref (hp.objs.size + 1) :: vs) (Value.ref (hp.objs.size + 1) :: us) := .cons rfl r1
  have hl : (Value.ref (hp.objs.size + 1) :: us ++ []).length = ps.length := by
    rw [List.append_nil]
    exact r2.length.symm.trans (F1.len _ _ _ _ hq)
  have hb2 := hb _ (Value.ref (hp.objs.size + 1) :: us) I2.kIn hl
  rw [List.append_nil] at hb2
  have hus : us.length ≤ sizeLine := by
    rw [← Paired.length r1]
    exact Nat.le_trans hz (by decide)
  refine wpAny_call (PySem.HandSPX.call_own T.fb (fun Y => PySem.W.excTail_contains Y bm hbm) (I1.kIn _ _ hC) (PySem.W.looks_findIn I1.kIn iC) (fun self => PySem.W.bind_fn I1.kIn self tI) hus
    (codeAny_mono (F1.run _ X.stack _ _ ⟨Value.ref (hp.objs.size + 1) :: us, []⟩ (Value.ref (hp.objs.size + 1) :: us) _ _ (fun _ _ _ => False) (hr.make C us []) (I2.env0.make C us []) hb2 r2 hq) fun r s' z => ?_))
  match r, z with
  | .error er, z => exact hx pins σ _ _ er s' I2 z
  | .ok (.ret u), z =>
    obtain ⟨v, H2, I3, rv, ev, q2⟩ := I2.after z
    subst ev
    exact ⟨rv, ⟨.ref (hp.objs.size + 1), H2, I3, rfl, q2⟩⟩
/-- e.f of such a value -/
def tEf (K : PySem.W.Frag) (f : Str) (te : TE) : TE := fun σ H Q => te σ H fun x H1 => ∃ (a C d : Addr) (fs : List (Str × V)) (v : V), x = .ref a ∧ H1 a = some (exo a C (some d)) ∧ H1 d = some (exd d fs) ∧ XfC K C ∧ PySem.W.findIn K (.ref C) f = some none ∧ fs.lookup f = some v ∧ Q v H1
theorem pe_ef (he : PE X e te) (hb : attributeBase e f X.env (eval e X.env) = eval e X.env := by rfl) : PE X (.Attribute e f pos) (tEf X.K f te) := by
  refine ⟨fun pins s σ H Q I h => ?_⟩
  refine attr_of hb (thn (he.run pins s σ H _ I h) fun u s1 ⟨x, H1, I1, rx, a, C, d, fs, v, ex, ea, ed, T, hno, l, q⟩ => ?_)
  subst ex
  obtain rfl : u = Value.ref a := rx
  obtain ⟨t1, ho⟩ := exo_at I1.hok ea
  obtain ⟨mA, hns, hr⟩ := exd_at I1.hok ed
  obtain ⟨od, hod, hl⟩ := lookIn_ns hns
  obtain ⟨u2, hu, ru⟩ := RelO.some_of (v := v) (o := mA f) (by rw [← l]; exact hr f)
  have J : PySem.W.InstAt s1.heap a _ C (some od) := ⟨ho, rfl, rfl, hod⟩
  exact HandSPX.exc_get I1.kIn J T.ga T.gg T.exC (PySem.W.findObj_own T.hdC hno rfl (by rw [hl, hu])) (handed_of ru) ⟨v, H1, I1.tok _, ru, q⟩
/-- isinstance(e, c), e such a value -/
def rIsV (K : PySem.W.Frag) : List V → Hp → VK → Prop := fun xs H Q => ∃ (a C : Addr) (d : Addr) (fs : List (Str × V)) (c : V) (cv : Value) (b : Bool), xs = [.ref a, c] ∧ H a = some (exo a C (some d)) ∧ H d = some (exd d fs) ∧ ExcC K C ∧ (PySem.W.clsIn K C).isSome = true ∧ (∀ u, RelV c u → u = cv) ∧ PySem.W.kitOne K (.ref C) cv = some b ∧ Q (.bl b) H
theorem call_isV : CallR X (.builtin "isinstance") (rIsV X.K) := by
  intro pins s σ H xs us Q I r h
  obtain ⟨a, C, d, fs, c, cv, b, rfl, ea, ed, T, hcl, hcv, e, q⟩ := h
  obtain ⟨u1, u2, rfl, r1, r2⟩ := vals2 r
  cases r1
  obtain rfl := hcv _ r2
  obtain ⟨t1, ho⟩ := exo_at I.hok ea
  obtain ⟨mA, hns, hr⟩ := exd_at I.hok ed
  obtain ⟨od, hod, hl⟩ := lookIn_ns hns
  have J : PySem.W.InstAt s.heap a _ C (some od) := ⟨ho, rfl, rfl, hod⟩
  exact PySem.W.kia_one (PySem.W.kitx_exc hcl T.hg T.hk T.hs T.ha T.hn T.ht T.hm) I.kIn J e (fun z => nomatch z) fun tk => ⟨.bl b, H, I.tok _, rfl, q⟩
end
end WB

set_option Elab.async false
set_option linter.all false
set_option maxRecDepth 100000
set_option maxHeartbeats 4000000
namespace WB
open PySem
/-! ### own errors by one keyword -/
section
variable {prog : Program} {w : World} {A : Around} {E : Value → Shared → Prop} {R : Result → Shared → Prop} {hp : Heap} {gs : Array GenState} {dw : Drawn} {tk : Nat} {os : OsState}
variable {nm qn : Str} {C N : Addr} {bs bm bmB : List Value} {hdct : Bool} {sn : List Str} {sub : List Value} {ab : Bool} {col : Option Bool} {dd : Option Addr} {k0 k1 k2 k3 k5 : Option Value} {B newId initId : String} {kw : List (Str × Value)}
theorem kwe_check (F : ExcBaseFacts B newId initId bmB) (hT : ∀ X : String, bm.contains (.type X) = bmB.contains (.type X)) {Q : Unit → Shared → Prop} (hC : hp.get? C = some (excClassObj nm qn C N bs bm hdct sn sub ab col dd k0 k1 k2 k3 k5 newId)) (hq : Q () ⟨hp, gs, dw, tk, os⟩) :
    wpAny (model prog w) A (checkBuiltinCall newId ⟨[.ref C], kw⟩) Q E ⟨hp, gs, dw, tk, os⟩ := by
  have inB : (Value.ref C :: bm).contains (.type B) = true := by
    rw [List.contains_cons, hT, F.hasB, Bool.or_true]
  have star := F.noStar
  simp only [checkBuiltinCall, F.newKind, F.newSplit, F.newRow]
  repeat (first | refine wpAny_loadPart_at hC ?_ | (refine wpAny_isSubtype_exc hC ?_; (rw [inB])) | refine wpAny_staticBase_exc hC ?_ | refine wpAny_madeBy_exc hC ?_ | simp only [bne_self_eq_false, Bool.false_eq_true, if_false] | wp_step)
  all_goals exact hq
theorem kwe_new (F : ExcBaseFacts B newId initId bmB) (hT : ∀ X : String, bm.contains (.type X) = bmB.contains (.type X)) (hC : hp.get? C = some (excClassObj nm qn C N bs bm hdct sn sub ab col dd k0 k1 k2 k3 k5 newId))
    (hq : R (.ok (.ret (.ref (hp.objs.size + 1)))) ⟨(hp.push (PySem.W.kdv_tup [])).push (PySem.HandSPX.excO C hp.objs.size), gs, dw, tk, os⟩) : codeAny (model prog w) A (.builtin newId ⟨[.ref C], kw⟩) R ⟨hp, gs, dw, tk, os⟩ := by
  have ends := F.ends
  have inB : (Value.ref C :: bm).contains (.type B) = true := by
    rw [List.contains_cons, hT, F.hasB, Bool.or_true]
  have inA : (Value.ref C :: bm).contains (.type "AttributeError") = false := by
    rw [List.contains_cons, hT, F.noAttr] <;> rfl
  have inN : (Value.ref C :: bm).contains (.type "NameError") = false := by
    rw [List.contains_cons, hT, F.noName] <;> rfl
  refine codeAny_builtinAt F.entry ?_
  unfold Builtin.«BaseException.__new__»
  refine wpAt_bind ?_
  show wpAt _ _ _ (stack >>= _) _ _ _
  refine wpAt_bind (wpAt_stack fun p below => wpAt_of_wpAny ?_)
  wp_walk
  refine wpAt_of_wpAny ?_
  rw [F.owner]
  repeat (first | with_reducible refine wpAny_madeHere_exc F.canon hC ?_ | with_reducible refine wpAny_loadPart_at hC ?_ | (with_reducible refine wpAny_isSubtype_exc hC ?_; (first | rw [inB] | rw [inA] | rw [inN])) | wp_step)
  show R _ _
  rw [Heap.size_push]
  exact hq
theorem kwe_type (F : ExcBaseFacts B newId initId bmB) (hT : ∀ X : String, bm.contains (.type X) = bmB.contains (.type X)) {fI : Addr} {Q : Fin → Shared → Prop} (hC : hp.get? C = some (excClassObj nm qn C N bs bm hdct sn sub ab col dd k0 k1 k2 k3 k5 newId))
    (hi : PySem.W.Looks (model prog w) hp (typeLookup (.ref C) "__init__") (some (.ref fI))) (hb : ∀ self, PySem.W.Looks (model prog w) hp (bindSpecial (.ref fI) self) (.ref fI, [self]))
    (hq : codeAny (model prog w) A (.call (.ref fI) ⟨[.ref (hp.objs.size + 1)], kw⟩) (fun r s' => match r with | .ok (.ret v) => v = .none ∧ Q (.done (.ret (.ref (hp.objs.size + 1)))) s' | .ok _ => False | .error e => E e s')
      ⟨(hp.push (PySem.W.kdv_tup [])).push (PySem.HandSPX.excO C hp.objs.size), gs, dw, tk, os⟩) : wpAny (model prog w) A (Builtin.«type.__call__» ⟨[.ref C], kw⟩) Q E ⟨hp, gs, dw, tk, os⟩ := by
  repeat (first | with_reducible refine wpAny_loadPart_at hC ?_ | with_reducible refine wpAny_madeBy_exc hC ?_ | wp_step)
  refine codeAny_call_builtin_code (Code.quiet_builtin _ F.quiet) (kwe_check F hT hC ?_)
  refine kwe_new F hT hC ?_
  show wpAny _ _ _ _ _ _
  have up : ∀ b o, hp.get? b = some o → ((hp.push (PySem.W.kdv_tup [])).push (PySem.HandSPX.excO C hp.objs.size)).get? b = some o := fun b o z => Heap.get?_push_of_some _ (Heap.get?_push_of_some _ z)
  have hC1 := up _ _ hC
  have here : ((hp.push (PySem.W.kdv_tup [])).push (PySem.HandSPX.excO C hp.objs.size)).get? (hp.objs.size + 1) = some (PySem.HandSPX.excO C hp.objs.size) := by heap_get
  have inC : (Value.ref C :: bm).contains (.ref C) = true := by simp
  have i1 := hi.keeps up
  have b1 := (hb (.ref (hp.objs.size + 1))).keeps up
  unfold isInstance
  repeat (first | with_reducible refine wpAny_loadPart_at here ?_ | (with_reducible refine wpAny_isSubtype_exc hC1 ?_; (rw [inC])) | wp_step)
  show wpAny _ _ (typeLookup (.ref C) _) _ _ _
  refine i1.at ?_
  refine wpAny_holding (wpAny_bind (b1.at ?_))
  refine wpAny_bind (wpAny_call (codeAny_mono hq fun r s' z => ?_))
  rcases r with e | (v | _ | _ | _) <;> first | exact z | exact z.elim | skip
  obtain ⟨rfl, z⟩ := z
  first
    | exact wpAny_pure (wpAny_pure z)
    | (wp_walk; (exact z))
theorem kwe_call (F : ExcBaseFacts B newId initId bmB) (hT : ∀ X : String, bm.contains (.type X) = bmB.contains (.type X)) {fI : Addr} (hC : hp.get? C = some (excClassObj nm qn C N bs bm hdct sn sub ab col dd k0 k1 k2 k3 k5 newId))
    (hi : PySem.W.Looks (model prog w) hp (typeLookup (.ref C) "__init__") (some (.ref fI))) (hb : ∀ self, PySem.W.Looks (model prog w) hp (bindSpecial (.ref fI) self) (.ref fI, [self]))
    (hq : codeAny (model prog w) (A.under (.builtin "type.__call__" ⟨[.ref C], kw⟩)) (.call (.ref fI) ⟨[.ref (hp.objs.size + 1)], kw⟩) (PySem.W.InitBack (hp.objs.size + 1) R) ⟨(hp.push (PySem.W.kdv_tup [])).push (PySem.HandSPX.excO C hp.objs.size), gs, dw, tk, os⟩) :
    codeAny (model prog w) A (.call (.ref C) ⟨[], kw⟩) R ⟨hp, gs, dw, tk, os⟩ := by
  have t1 := tc_lookup
  have t2 := tc_bind (.ref C)
  have hTy : (⟨hp, gs, dw, tk, os⟩ : Shared).TypeIs (.ref C) "type" := ⟨_, hC, rfl⟩
  refine codeAny_of_tree ?_
  show wpAny _ _ (callAny (.ref C) _) _ _ _
  repeat (any_goals (first | assumption | with_reducible refine wpAny_loadPart_at hC ?_ | wp_step))
  refine ⟨rfl, ?_⟩
  refine codeAny_call_builtin_at (Code.quiet_builtin _ (by decide +kernel)) entry_typeCall (wpAny_check_type_call_sub hC (kwe_type F hT hC hi hb ?_))
  refine codeAny_mono hq fun r s' z => ?_
  rcases r with e | (v | _ | _ | _) <;> exact z
end
end WB
namespace WB
open PySem L2 PyProof.Rows
/-! ### own errors: their fields -/
def ErrAt (H : Hp) (a C : Addr) (kv : List (Str × V)) : Prop := ∃ d l, H a = some (exo a C (some d)) ∧ H d = some (exd d l) ∧ ∀ f v, (f, v) ∈ kv → l.lookup f = some v
def ErrW (H : Hp) (a C : Addr) : Prop := H a = some (exo a C none) ∨ ∃ d l, H a = some (exo a C (some d)) ∧ H d = some (exd d l)
theorem ErrAt.same {H H' : Hp} {a C : Addr} {kv : List (Str × V)} (h : ErrAt H a C kv) (s : Same H H') : ErrAt H' a C kv := by
  obtain ⟨d, l, h1, h2, h3⟩ := h
  exact ⟨d, l, s _ _ h1, s _ _ h2, h3⟩
theorem ErrW.same {H H' : Hp} {a C : Addr} (h : ErrW H a C) (s : Same H H') : ErrW H' a C := h.imp (s _ _) fun ⟨d, l, h1, h2⟩ => ⟨d, l, s _ _ h1, s _ _ h2⟩
theorem ErrAt.w {H : Hp} {a C : Addr} {kv : List (Str × V)} (h : ErrAt H a C kv) : ErrW H a C := by
  obtain ⟨d, l, h1, h2, _⟩ := h
  exact .inr ⟨d, l, h1, h2⟩
def spF (C : Addr) (fs : List Str) : Sp := fun vs H Q _ => ∃ (a : Addr) (ys : List V), vs = .ref a :: ys ∧ ys.length = fs.length ∧ H a = some (exo a C none) ∧ ∀ H', Bar a H H' → ErrAt H' a C (fs.zip ys) → Q .non H'
theorem mkF {C a : Addr} {fs : List Str} {ys : List V} {H1 : Hp} {Q : VK} {E : XK} (hl : ys.length = fs.length) (na : H1 a = none) (k : ∀ H2, Same H1 H2 → ErrAt H2 a C (fs.zip ys) → Q (.ref a) H2) :
    spF C fs (.ref a :: ys) (upd H1 a (exo a C none)) (fun v H2 => v = .non ∧ Q (.ref a) H2) E :=
  ⟨a, ys, rfl, hl, upd_same, fun H' b e => ⟨rfl, k H' (fun c u z => by
    have n := ne_of_none z na
    exact b c u n (by rw [upd_ne n]; exact z)) e⟩⟩
structure ErX (P : Program) (w : World) (K : PySem.W.Frag) (mg : Str → Option Value) (base : Heap) (C : Addr) (x : Str) (fs ps : List Str) : Prop where
  ox : ∃ B newId initId bmB, OexB K C B newId initId bmB
  xf : XfC K C
  no : ∀ f ∈ fs, PySem.W.findIn K (.ref C) f = some none
  g : mg x = some (.ref C)
  ini : ∃ (g : Addr) (fd : FuncData), PySem.W.findIn K (.ref C) "__init__" = some (some (.ref g)) ∧ PySem.W.typeIn K (.ref g) = some (.type "function") ∧ FnOk P w K mg base C8.CX0 1 g fd ("self" :: ps) (spF C fs) ∧ Binds K fd ("self" :: ps) [] ∧ (∀ p, ps = [p] → KBn K fd ("self" :: ps) 1 [p] (fun us ws => us ++ ws) (fun vs zs => vs ++ zs))
def tMkVK (C : Addr) (sp : Sp) (te : TE) : TE := fun σ H Q => te σ H fun y H1 => ∀ a, H1 a = none → sp [.ref a, y] (upd H1 a (exo a C none)) (fun v H2 => v = .non ∧ Q (.ref a) H2) (fun _ _ _ => False)
section
variable {X : Cx} {e : Expr} {es : List Expr} {ta : TA} {te : TE} {p pos kpos : Pos} {j : Nat} {C : Addr} {x kn : Str} {fs ps : List Str}
theorem pe_erx (c : ErX X.prog X.w X.K X.mg X.base C x fs ps) (hr : Room j X.A) (hk : 2 ≤ j) (hg : Gl X x) (ha : PA X (e :: es) ta)
    (hdb : (x == ("__debug__" : Str)) = false := by decide) (he : starEach (e :: es) X.env = (false, eval e X.env) :: starEach es X.env := by rfl) (hpl : (backTo pos (starEach es X.env)).any (·.1) = false := by rfl) :
    PE X (.Call (.Name x p) (e :: es) [] pos) (tMkV C (spF C fs) ta) := by
  obtain ⟨g, fd, h1, h2, F, b, _⟩ := c.ini
  obtain ⟨_, _, _, _, T⟩ := c.ox
  exact pe_excV T h1 h2 F (hr.mono hk) b (fun _ _ _ _ _ _ _ z => z.elim) hg c.g ha hdb he hpl
theorem pe_erxK (c : ErX X.prog X.w X.K X.mg X.base C x fs [kn]) (hr : Room j X.A) (hk : 2 ≤ j) (hg : Gl X x) (ha : PE X e te)
    (hdb : (x == ("__debug__" : Str)) = false := by decide) (hall : (backToKw pos (keywordEach [⟨some kn, e, kpos⟩] X.env)).all (·.1.isSome) = true := by rfl) (hks : (backToKw pos (keywordEach [⟨some kn, e, kpos⟩] X.env)).filterMap (·.1) = [kn] := by rfl)
    (hpl : ((backTo pos (starEach [] X.env)).any (·.1) || (backToKw pos (keywordEach [⟨some kn, e, kpos⟩] X.env)).any (·.1.isNone)) = false := by rfl) :
    PE X (.Call (.Name x p) [] [⟨some kn, e, kpos⟩] pos) (tMkVK C (spF C fs) te) := by
  obtain ⟨gi, fd, iC, tI, F1, _, kb⟩ := c.ini
  obtain ⟨B, newId, initId, bmB, T⟩ := c.ox
  have hb := kb kn rfl
  refine ⟨fun pins s σ H Q I h => ?_⟩
  obtain ⟨nm, q, N, bs, bm, sn, sub, ab, col, dd, k0, k1, k2, k3, k5, hC, hbm⟩ := T.cls
  refine wpAny_Call_Name_kw (ld_glob I hg c.g ?_ hdb)
  refine PySem.W.callWith_KW0 (h₀ := X.base) I.ok.mod.kin T.kC hall ?_ hpl
  refine thn ((pk_cons ha pk_nil).run pos pins s σ H (fun zs H1 => ∃ y, zs = [y] ∧ ∀ a, H1 a = none → spF C fs [.ref a, y] (upd H1 a (exo a C none)) (fun v H2 => v = .non ∧ Q (.ref a) H2) (fun _ _ _ => False)) I ?_) fun ws s1 ⟨zs, H1, I1, rz, y, ez, q1⟩ => ⟨I1.kIn, ?_⟩
  · have e1 : (fun v H1 => tNil σ H1 fun vs H2 => ∃ y, v :: vs = [y] ∧ ∀ a, H2 a = none → spF C fs [.ref a, y] (upd H2 a (exo a C none)) (fun v H2 => v = .non ∧ Q (.ref a) H2) (fun _ _ _ => False)) =
        fun (y : V) H2 => ∀ a, H2 a = none → spF C fs [.ref a, y] (upd H2 a (exo a C none)) (fun v H2 => v = .non ∧ Q (.ref a) H2) (fun _ _ _ => False) := by
      funext v H1
      refine propext ⟨fun ⟨x, e, q⟩ => ?_, fun q => ⟨v, rfl, q⟩⟩
      cases e
      exact q
    show te σ H (fun v H1 => tNil σ H1 fun vs H2 => ∃ y, v :: vs = [y] ∧ ∀ a, H2 a = none → spF C fs [.ref a, y] (upd H2 a (exo a C none)) (fun v H2 => v = .non ∧ Q (.ref a) H2) (fun _ _ _ => False))
    rw [e1]
    exact h
  subst ez
  rw [hks]
  obtain ⟨hp, g, dr, tk, os⟩ := s1
  have fresh : H1 (hp.objs.size + 1) = none := I1.hok.fresh (Nat.le_succ _)
  have hq := q1 (hp.objs.size + 1) fresh
  have up : ∀ b o, hp.get? b = some o → ((hp.push (PySem.W.kdv_tup [])).push (PySem.HandSPX.excO C hp.objs.size)).get? b = some o := fun b o z => Heap.get?_push_of_some _ (Heap.get?_push_of_some _ z)
  have made : ((hp.push (PySem.W.kdv_tup [])).push (PySem.HandSPX.excO C hp.objs.size)).get? (hp.objs.size + 1) = some (PySem.HandSPX.excO C hp.objs.size) := by heap_get
  have I2 := I1.laid (t' := tk) (a := hp.objs.size + 1) (o := exo (hp.objs.size + 1) C none) up (Nat.le_succ _) (exo_ok made)
  have r2 : Vals [V.ref (hp.objs.size + 1), y] (Value.ref (hp.objs.size + 1) :: ws) := .cons rfl rz
  have hb2 := hb.to ⟨(hp.push (PySem.W.kdv_tup [])).push (PySem.HandSPX.excO C hp.objs.size), g, dr, tk, os⟩ [Value.ref (hp.objs.size + 1)] ws I2.kIn rfl rz.length.symm
  refine wpAny_call (kwe_call T.fb (fun Y => PySem.W.excTail_contains Y bm hbm) (I1.kIn _ _ hC) (PySem.W.looks_findIn I1.kIn iC) (fun self => PySem.W.bind_fn I1.kIn self tI)
    (codeAny_mono (F1.run _ X.stack _ _ ⟨[Value.ref (hp.objs.size + 1)], [kn].zip ws⟩ (Value.ref (hp.objs.size + 1) :: ws) _ _ (fun _ _ _ => False) ((hr.mono hk).make C [] ([kn].zip ws)) (I2.env0.make C [] ([kn].zip ws)) hb2 r2 hq) fun r s' z => ?_))
  match r, z with
  | .error er, z =>
    obtain ⟨hd1, hd2, hd3⟩ := z
  | .ok (.ret u), z =>
    obtain ⟨v, H2, I3, rv, ev, q2⟩ := I2.after z
    subst ev
    exact ⟨rv, ⟨.ref (hp.objs.size + 1), H2, I3, rfl, q2⟩⟩
end
end WB

set_option Elab.async false
set_option linter.all false
set_option maxRecDepth 100000
set_option maxHeartbeats 4000000
namespace WB
open PySem L2 PyProof.Rows
/-! ### classes by their objects: names and what stands above -/
structure CT (K : PySem.W.Frag) (C : Addr) (nm : Str) (mid : List Value) : Prop where
  lk : ∃ q N bs sn sub ab col dd k0 k1 k2 k3 k5 newId, K.lookup C = some (excClassObj nm q C N bs mid true sn sub ab col dd k0 k1 k2 k3 k5 newId)
section
variable {K : PySem.W.Frag} {C D : Addr} {n n2 : Str} {m m2 : List Value}
theorem CT.cls (h : CT K C n m) : ∃ cd, PySem.W.clsIn K C = some cd ∧ cd.mro = .ref C :: m ∧ cd.hasDict = true ∧ cd.name = n := by
  obtain ⟨q, N, bs, sn, sub, ab, col, dd, k0, k1, k2, k3, k5, newId, l⟩ := h.lk
  have e : PySem.W.clsIn K C = some { name := n, bases := bs, mro := .ref C :: m, ns := N, qualname := q, hasDict := true, slotNames := sn, subclasses := sub, abstract := ab, collection := col, hasDel := false } := by
    unfold PySem.W.clsIn
    rw [l] <;> rfl
  exact ⟨_, e, rfl, rfl, rfl⟩
theorem CT.ty (h : CT K C n m) : PySem.W.typeIn K (.ref C) = some (.type "type") := by
  obtain ⟨q, N, bs, sn, sub, ab, col, dd, k0, k1, k2, k3, k5, newId, l⟩ := h.lk
  show (K.lookup C).map (·.cls) = _
  rw [l] <;> rfl
theorem CT.some (h : CT K C n m) : (PySem.W.clsIn K C).isSome = true := by
  obtain ⟨cd, e, _⟩ := h.cls
  rw [e] <;> rfl
theorem CT.dict (h : CT K C n m) : PySem.W.hasDictIn K C = true := by
  obtain ⟨cd, e, _, e3, _⟩ := h.cls
  unfold PySem.W.hasDictIn
  rw [e]
  exact e3
theorem CT.sub (h : CT K C n m) (v : Value) : PySem.W.subIn K (.ref C) v = Option.some ((Value.ref C :: m).contains v) := by
  obtain ⟨cd, e, e2, _⟩ := h.cls
  show PySem.W.mroIn K C v = _
  unfold PySem.W.mroIn
  rw [e]
  show (if cd.mro.isEmpty then none else Option.some (cd.mro.contains v)) = _
  rw [e2] <;> rfl
theorem CT.ne (h : CT K C n m) (h2 : CT K D n2 m2) (e : n ≠ n2) : C ≠ D := fun q => e (by
  subst q
  obtain ⟨c1, e1, _, _, a1⟩ := h.cls
  obtain ⟨c2, e2, _, _, a2⟩ := h2.cls
  rw [e1] at e2
  cases e2
  exact a1.symm.trans a2)
theorem CT.kit (h : CT K C n m) (h2 : CT K D n2 m2) : PySem.W.kitOne K (.ref C) (.ref D) = Option.some ((Value.ref C :: m).contains (.ref D)) := by
  unfold PySem.W.kitOne
  split
  · rename_i q
    cases (beq_iff_eq.mp q)
    rw [List.contains_cons, beq_self_eq_true]
    rfl
  · unfold PySem.W.kitCls
    dsimp only
    rw [h2.some, h2.ty]
    exact h.sub _
theorem CT.kitT (h : CT K C n m) {T : String} (hk : PySem.W.kitMeta T = true) : PySem.W.kitOne K (.ref C) (.type T) = Option.some (m.contains (.type T)) := by
  unfold PySem.W.kitOne
  rw [if_neg (by intro z; cases (beq_iff_eq.mp z))]
  unfold PySem.W.kitCls
  dsimp only
  rw [if_pos hk, h.sub, List.contains_cons]
  rfl
end
structure Tab (K : PySem.W.Frag) (Ds : List Addr) (ns : List Str) (ms : List (List Value)) (W : Addr) (mw : List Value) : Prop where
  at_ : ∀ (j : Nat) (D : Addr), Ds[j]? = some D → ∃ (nm : Str) (m : List Value), ns[j]? = some nm ∧ ms[j]? = some m ∧ CT K D nm m
  w : CT K W "WorkerworldsError" mw
section
variable {K : PySem.W.Frag} {Ds : List Addr} {ns : List Str} {ms : List (List Value)} {W : Addr} {mw : List Value}
theorem nodup_at {α : Type} {l : List α} (nd : l.Nodup) {i j : Nat} {x : α} (h1 : l[i]? = some x) (h2 : l[j]? = some x) : i = j := by
  obtain ⟨a, e1⟩ := List.getElem?_eq_some_iff.mp h1
  obtain ⟨b, e2⟩ := List.getElem?_eq_some_iff.mp h2
  exact (List.getElem_inj nd).mp (e1.trans e2.symm)
theorem Tab.same (t : Tab K Ds ns ms W mw) (nd : ns.Nodup) {i j : Nat} {D : Addr} (h1 : Ds[i]? = some D) (h2 : Ds[j]? = some D) : i = j := by
  obtain ⟨n1, m1, e1, _, c1⟩ := t.at_ i D h1
  obtain ⟨n2, m2, e2, _, c2⟩ := t.at_ j D h2
  have e : n1 = n2 := Classical.byContradiction fun q => c1.ne c2 q rfl
  subst e
  exact nodup_at nd e1 e2
theorem Tab.notW (t : Tab K Ds ns ms W mw) (nw : ("WorkerworldsError" : Str) ∉ ns) {j : Nat} {D : Addr} (h : Ds[j]? = some D) : W ≠ D := by
  obtain ⟨n, m, e, _, c⟩ := t.at_ j D h
  exact t.w.ne c fun q => nw (by rw [q]; exact List.mem_of_getElem? e)
/-- what stands above: no class of the table -/
def Above (W : Addr) (m : List Value) : Prop := ∀ v ∈ m, v = .ref W ∨ ∃ T, v = .type T
theorem above_no {m : List Value} {D : Addr} (a : Above W m) (n : W ≠ D) : m.contains (.ref D) = false := by
  rw [List.contains_eq_mem]
  refine decide_eq_false fun h => ?_
  rcases a _ h with e | ⟨T, e⟩
  · cases e
    exact n rfl
  · cases e
theorem Tab.kit (t : Tab K Ds ns ms W mw) (nd : ns.Nodup) (nw : ("WorkerworldsError" : Str) ∉ ns) (ab : ∀ m ∈ ms, Above W m) {i j : Nat} {C D : Addr} (h1 : Ds[i]? = some C) (h2 : Ds[j]? = some D) : PySem.W.kitOne K (.ref C) (.ref D) = some (decide (i = j)) := by
  obtain ⟨n1, m1, e1, f1, c1⟩ := t.at_ i C h1
  obtain ⟨n2, m2, e2, f2, c2⟩ := t.at_ j D h2
  rw [c1.kit c2, List.contains_cons, above_no (ab _ (List.mem_of_getElem? f1)) (t.notW nw h2), Bool.or_false]
  refine congrArg some ?_
  by_cases e : i = j
  · subst e
    rw [h1] at h2
    cases h2
    rw [decide_eq_true rfl]
    exact beq_self_eq_true _
  · rw [decide_eq_false e]
    refine beq_eq_false_iff_ne.mpr fun q => e ?_
    cases q
    exact t.same nd h1 h2
theorem Tab.kitB (t : Tab K Ds ns ms W mw) (nw : ("WorkerworldsError" : Str) ∉ ns) (ab : Above W mw) {j : Nat} {D : Addr} (h2 : Ds[j]? = some D) : PySem.W.kitOne K (.ref W) (.ref D) = some false := by
  obtain ⟨n2, m2, e2, f2, c2⟩ := t.at_ j D h2
  rw [t.w.kit c2, List.contains_cons, above_no ab (t.notW nw h2), Bool.or_false]
  exact congrArg some (beq_eq_false_iff_ne.mpr fun q => by
    cases q
    exact t.notW nw h2 rfl)
end
/-! ### isinstance of an own error, with or without a dict -/
def rIsW (K : PySem.W.Frag) : List V → Hp → VK → Prop := fun xs H Q => ∃ (a C : Addr) (c : V) (cv : Value) (b : Bool), xs = [.ref a, c] ∧ ErrW H a C ∧ ExcC K C ∧ (PySem.W.clsIn K C).isSome = true ∧ (∀ u, RelV c u → u = cv) ∧ PySem.W.kitOne K (.ref C) cv = some b ∧ Q (.bl b) H
theorem call_isW {X : Cx} : CallR X (.builtin "isinstance") (rIsW X.K) := by
  intro pins s σ H xs us Q I r h
  obtain ⟨a, C, c, cv, b, rfl, hE, T, hcl, hcv, e, q⟩ := h
  obtain ⟨u1, u2, rfl, r1, r2⟩ := vals2 r
  cases r1
  obtain rfl := hcv _ r2
  rcases hE with ea | ⟨d, fs, ea, ed⟩
  · obtain ⟨t1, ho⟩ := exo_at I.hok ea
    have J : PySem.W.InstAt s.heap a _ C none := ⟨ho, rfl, rfl, trivial⟩
    exact PySem.W.kia_one (PySem.W.handS_kitx_exc T.hg T.hk T.hs T.hd T.ha T.hn T.ht T.hm) I.kIn J e (fun z => nomatch z) fun tk => ⟨.bl b, H, I.tok _, rfl, q⟩
  · obtain ⟨t1, ho⟩ := exo_at I.hok ea
    obtain ⟨mA, hns, hr⟩ := exd_at I.hok ed
    obtain ⟨od, hod, hl⟩ := lookIn_ns hns
    have J : PySem.W.InstAt s.heap a _ C (some od) := ⟨ho, rfl, rfl, hod⟩
    exact PySem.W.kia_one (PySem.W.kitx_exc hcl T.hg T.hk T.hs T.ha T.hn T.ht T.hm) I.kIn J e (fun z => nomatch z) fun tk => ⟨.bl b, H, I.tok _, rfl, q⟩
/-- the answers of all kinds -/
structure Kn (K : PySem.W.Frag) (Ds : List Addr) (W C : Addr) (b : Nat → Bool) (bw bv bl br : Bool) : Prop where
  ex : ExcC K C
  cl : (PySem.W.clsIn K C).isSome = true
  k : ∀ (j : Nat) (D : Addr), Ds[j]? = some D → PySem.W.kitOne K (.ref C) (.ref D) = some (b j)
  kw : PySem.W.kitOne K (.ref C) (.ref W) = some bw
  kv : PySem.W.kitOne K (.ref C) (.type "ValueError") = some bv
  kl : PySem.W.kitOne K (.ref C) (.type "LookupError") = some bl
  kr : PySem.W.kitOne K (.ref C) (.type "RuntimeError") = some br
section
variable {K : PySem.W.Frag} {Ds : List Addr} {W C : Addr} {b : Nat → Bool} {bw bv bl br : Bool} {H : Hp} {Q : VK} {a : Addr}
theorem Kn.use (n : Kn K Ds W C b bw bv bl br) (e : ErrW H a C) {c : V} {cv : Value} {r : Bool} (h1 : ∀ u, RelV c u → u = cv) (h2 : PySem.W.kitOne K (.ref C) cv = some r) (q : Q (.bl r) H) : rIsW K [.ref a, c] H Q := ⟨a, C, c, cv, r, rfl, e, n.ex, n.cl, h1, h2, q⟩
theorem Kn.is (n : Kn K Ds W C b bw bv bl br) (e : ErrW H a C) {j : Nat} {D : Addr} (h : Ds[j]? = some D) (q : Q (.bl (b j)) H) : rIsW K [.ref a, .ref D] H Q := n.use e rel_ref (n.k j D h) q
end
def kfst (b : Nat → Bool) : Int := match ((List.range 16).map b).findIdx? id with
  | some j => (j : Nat)
  | none => -1
def kdat (b : Nat → Bool) (bw bv bl br : Bool) : PyData := .tuple [.int (kfst b), .int (((List.range 16).map b).count true : Nat), .list [.bool bw, .bool bv, .bool bl], .bool br]
def spKinds (K : PySem.W.Frag) (Ds : List Addr) (W : Addr) : Sp := fun vs H Q _ => ∃ (a C : Addr) (b : Nat → Bool) (bw bv bl br : Bool), vs = [.ref a] ∧ ErrW H a C ∧ Kn K Ds W C b bw bv bl br ∧ ∀ H' t, Same H H' → (∀ H2, Same H' H2 → Dp K H2 (.ref t) (kdat b bw bv bl br)) → Q (.ref t) H'
theorem any_bl (bs : List Bool) : (bs.map V.bl).any (fun y => eqV y (.bl true)) = bs.any id := by
  induction bs with
  | nil => rfl
  | cons b r ih =>
    rw [List.map_cons, List.any_cons, List.any_cons, ih]
    cases b <;> rfl
theorem idx_bl {bs : List Bool} {j : Nat} (h : bs.findIdx? id = some j) : (bs.map V.bl)[j]? = some (.bl true) ∧ ∀ (m : Nat) (z : V), m < j → (bs.map V.bl)[m]? = some z → eqV z (.bl true) = false := by
  obtain ⟨h1, h2, h3⟩ := List.findIdx?_eq_some_iff_getElem.mp h
  refine ⟨?_, fun m z hm hz => ?_⟩
  · rw [List.getElem?_map, List.getElem?_eq_getElem h1]
    have h2' : bs[j] = true := h2
    rw [h2']
    rfl
  · have h4 := h3 m hm
    obtain ⟨x, hx, rfl⟩ := map_from hz
    obtain ⟨_, e⟩ := List.getElem?_eq_some_iff.mp hx
    have h5 : x = false := by
      rw [← e]
      simpa using h4
    rw [h5]
    rfl
theorem flat_bl (bs : List Bool) : (bs.map V.bl).all flatV = true := by
  rw [List.all_map]
  exact List.all_eq_true.mpr fun _ _ => rfl
theorem dp_bls {K : PySem.W.Frag} {H : Hp} : ∀ bs : List Bool, DpAll K H (bs.map V.bl) (bs.map PyData.bool)
  | [] => .nil
  | b :: r => .cons (.bl b) (dp_bls r)
theorem plain_bls : ∀ bs : List Bool, PyData.plainAll (bs.map PyData.bool) = true
  | [] => rfl
  | b :: r => by
    show (true && PyData.plainAll (r.map PyData.bool)) = true
    rw [plain_bls r]
    rfl
theorem count_bls (bs : List Bool) : ((bs.map PyData.bool).countP fun y => PyData.eqv y (.bool true)) = bs.count true := by
  induction bs with
  | nil => rfl
  | cons b r ih =>
    rw [List.map_cons, List.countP_cons, List.count_cons, ih]
    cases b <;> rfl
def rCntB (K : PySem.W.Frag) : V → List V → Hp → VK → Prop := fun x xs H Q => ∃ (p : Addr) (bs : List Bool), x = .ref p ∧ xs = [.bl true] ∧ SqL K H p (bs.map V.bl) ∧ Q (.int (bs.count true : Nat)) H
theorem mt_countB {X : Cx} (hu : X.A.units + 70 < cLine) : MtR X "list.count" (rCntB X.K) := by
  intro pins s σ H x xs v us Q I rx rxs h
  obtain ⟨p, bs, rfl, rfl, hs, q⟩ := h
  cases rx
  obtain ⟨u, rfl, ru⟩ := rxs.one
  cases ru
  obtain ⟨its, rv, pl, hz⟩ := I.list hs
  obtain ⟨as, rs⟩ := Dp.readsAll I _ _ its (dp_bls bs) rv
  have e := count_bls bs
  refine PySem.SeqAt.count_list_data (vs := its.toArray) (xs := bs.map PyData.bool) (d := .bool true) pl.isList (by simpa using rs) (Reads.bool true) (plain_bls bs) rfl (by show X.A.units + 1 + min _ 0 < cLine; rw [Nat.min_zero]; omega) ?_
  rw [e]
  exact ⟨.int (bs.count true : Nat), H, I.tok _, ⟨_, rfl⟩, q⟩
/-! ### text * number -/
theorem op_mulStr {X : Cx} : OpR X (binaryOp .Mult) (fun x y H Q => ∃ (z : Str) (n : Int), x = .str z ∧ y = .int n ∧ MulOk z n ∧ Q (.str (Txt.mul z n)) H) := by
  intro pins s σ H x y v u Q I rx ry h
  obtain ⟨z, n, rfl, rfl, ok, q⟩ := h
  obtain ⟨t, rfl⟩ := rx
  obtain ⟨t', rfl⟩ := ry
  exact SB.mul ok fun t'' k => ⟨.str (Txt.mul z n), H, I.tok _, ⟨_, rfl⟩, q⟩
/-! ### C() where there is no own __init__ -/
theorem pe_exc0 {X : Cx} {C : Addr} {bmB : List Value} {B newId initId : String} {x : Str} {p pos : Pos} (F : ExcBaseFacts B newId initId bmB) (q : PySem.W.excIn X.K C bmB newId = true) (gC : X.mg x = some (.ref C)) (kC : PySem.W.keepIn X.K (.ref C) = true) (hg : Gl X x)
    (hdb : (x == ("__debug__" : Str)) = false := by decide) : PE X (.Call (.Name x p) [] [] pos) (fun _ H Q => ∀ a, H a = none → Q (.ref a) (upd H a (exo a C none))) := by
  refine ⟨fun pins s σ H Q I h => ?_⟩
  refine wpAny_Call_Name_kw (ld_glob I hg gC ?_ hdb)
  refine PySem.W.callWith_K0 I.kIn kC ?_
  show wpAny _ _ (call (.ref C) []) _ _ _
  obtain ⟨bm, N, nm, qn, bs, hdct, sn, sub, ab, col, dd, k0, k1, k2, k3, k5, mN, hC, hN, hni, T⟩ := exc_obj I.kIn q
  refine wpAny_call_exc_subT F T hC hN hni (fun h' a hm => ?_) (Nat.zero_le _)
  have hn : H a = none := I.hok.gone hm.new
  obtain ⟨t, ht, _, _⟩ := hm.there
  exact ⟨.ref a, upd H a (exo a C none), I.laidN hm.keeps hm.new hn (exo_ok ht), rfl, h a hn⟩
end WB

set_option Elab.async false
set_option linter.all false
set_option maxRecDepth 100000
set_option maxHeartbeats 4000000
namespace WB
open PySem L2
/-! ### how long a number's text is -/
theorem dig_len : ∀ (fuel k n : Nat) (ds : List Char), 1 ≤ k → n < 10 ^ k → (Nat.toDigitsCore 10 fuel n ds).length ≤ ds.length + k
  | 0, k, n, ds, _, _ => by
    rw [Nat.toDigitsCore]
    omega
  | fuel + 1, k, n, ds, hk, hn => by
    unfold Nat.toDigitsCore
    simp only
    split
    · rw [List.length_cons]
      omega
    · rename_i h0
      obtain ⟨k', rfl⟩ : ∃ k', k = k' + 1 := ⟨k - 1, by omega⟩
      have h1 : 1 ≤ k' := Nat.one_le_iff_ne_zero.mpr fun e => h0 (by
        subst e
        have : n < 10 := by simpa using hn
        omega)
      have h2 : n / 10 < 10 ^ k' := by
        rw [Nat.pow_succ] at hn
        omega
      have ih := dig_len fuel k' (n / 10) (Nat.digitChar (n % 10) :: ds) h1 h2
      rw [List.length_cons] at ih
      omega
theorem int_len {i : Int} {k : Nat} (hk : 1 ≤ k) (h : i.natAbs < 10 ^ k) : (PyData.shown (.int i)).length ≤ k + 1 := by
  show (Str.ofString (toString i)).length ≤ _
  rw [PyProof.Rows.ofString_len]
  have key : ∀ n : Nat, n < 10 ^ k → (Nat.repr n).length ≤ k := fun n hn => by
    have := dig_len (n + 1) k n [] hk hn
    simpa [Nat.repr, Nat.toDigits] using this
  cases i with
  | ofNat m =>
    have := key m h
    show (Nat.repr m).length ≤ _
    omega
  | negSucc m =>
    have := key (m + 1) h
    show ("-" ++ Nat.repr (m + 1)).length ≤ _
    have h1 : "-".length = 1 := by first | rfl | decide
    rw [String.length_append, h1]
    omega
theorem list_lenN {ts : List Str} {m k : Nat} (h : ∀ t ∈ ts, t.length ≤ m) (hl : ts.length ≤ k) : (listText ts).length ≤ k * (m + 2) + 2 := by
  have pl := piled_le h
  unfold listText
  rw [Str.length_append]
  have h5 := textFrom_le ts 0 "["
  have h6 : ("[" : Str).length = 1 := by decide +kernel
  have h7 : ("]" : Str).length = 1 := by decide +kernel
  have h8 : ts.length * (m + 2) ≤ k * (m + 2) := Nat.mul_le_mul hl (Nat.le_refl _)
  omega
theorem tuple_lenN {ts : List Str} {m k : Nat} (h : ∀ t ∈ ts, t.length ≤ m) (hl : ts.length ≤ k) : (tupleText ts).length ≤ 2 * (k * (m + 2)) + 10 := by
  have pl := piled_le h
  unfold tupleText
  rw [Str.length_append, Str.length_append]
  have h5 := StrLaws.join_length_le ", " ts
  have h6 : (", " : Str).length = 2 := by decide +kernel
  rw [h6] at h5
  have h7 := sum_piled ts
  have h8 : ("(" : Str).length = 1 := by decide +kernel
  have h9 : (Str.ofString (if ts.length == 1 then ",)" else ")" : String)).length ≤ 2 := by
    split
    · decide +kernel
    · decide +kernel
  have h10 : ts.length * (m + 2) ≤ k * (m + 2) := Nat.mul_le_mul hl (Nat.le_refl _)
  omega
/-! ### lists of fitting data -/
theorem fit_all : ∀ ds : List PyData, (∀ d ∈ ds, Fit d) → PyData.showableAll ds = true ∧ PyData.hasDictAll ds = false ∧ PyData.depthAll ds ≤ 50 ∧ ∀ t ∈ PyData.shownAll ds, t.length ≤ 60000
  | [], _ => ⟨rfl, rfl, Nat.zero_le _, fun t ht => absurd ht List.not_mem_nil⟩
  | d :: r, h => by
    obtain ⟨h1, h2, h3, h4⟩ := fit_all r fun x hx => h x (List.mem_cons_of_mem _ hx)
    obtain ⟨k1, k2, k3, k4⟩ := h d List.mem_cons_self
    refine ⟨?_, ?_, ?_, fun t ht => ?_⟩
    · show (d.showable && PyData.showableAll r) = true
      rw [h1, k1]
      rfl
    · show (d.hasDict || PyData.hasDictAll r) = false
      rw [h2, k2]
      rfl
    · show max d.depth (PyData.depthAll r) ≤ 50
      omega
    · rcases List.mem_cons.mp ht with e | ht
      · rw [e]
        exact k4
      · exact h4 t ht
theorem okd_fits {ds : List PyData} (h : ∀ d ∈ ds, Fit d) (hl : ds.length ≤ 8) : OkD (.list ds) := by
  obtain ⟨h1, h2, h3, h4⟩ := fit_all ds h
  refine ⟨h1, h2, ?_, .inr ?_⟩
  · show PyData.depthAll ds + 1 ≤ 64
    omega
  · show (listText (PyData.shownAll ds)).length ≤ _
    exact Nat.le_trans (list_lenN (m := 60000) (k := 8) h4 (by rw [shownAll_len]; exact hl)) (by decide)
/-! ### the values of the errors' law -/
section
variable {K : PySem.W.Frag} {p : Addr} {H : Hp}
theorem big_log {i : Int} (h : i.natAbs < 10 ^ 29) : i.natAbs.log2 < 1000 := by
  by_cases h0 : i.natAbs = 0
  · rw [h0]
    decide
  · exact (Nat.log2_lt h0).mpr (Nat.lt_trans h (by decide +kernel))
theorem fit_num {i : Int} (h : i.natAbs < 10 ^ 29) : (PyData.int i).showable = true ∧ (PyData.shown (.int i)).length ≤ 3002 :=
  ⟨decide_eq_true (Nat.lt_trans (big_log h) (by decide)), Nat.le_trans (int_len (by decide) h) (by decide)⟩
theorem datV_num {i : Int} (h : i.natAbs < 10 ^ 29) : DatV K p H (.int i) := datV_int (big_log h) (Nat.le_trans (int_len (by decide) h) (by decide))
theorem datV_l3 {l m : Addr} {i : Int} (n1 : l ≠ p) (n2 : m ≠ p) (h : i.natAbs < 10 ^ 29) (e1 : H l = some (.lst [.int i, .str "ab", .ref m])) (e2 : H m = some (.lst [.bl true, .int 1])) : DatV K p H (.ref l) := by
  obtain ⟨f1, f2⟩ := fit_num h
  refine ⟨fun z e => (by cases e), .list [.int i, .str "ab", .list [.bool true, .int 1]], ⟨?_, rfl, Nat.le_of_ble_eq_true rfl, ?_⟩, fun H' b => ⟨.lst (SqL.of (b _ _ n1 e1)) (.cons (.int i) (.cons (.str "ab") (.cons (.lst (SqL.of (b _ _ n2 e2)) (.cons (.bl true) (.cons (.int 1) .nil))) .nil))), .inr (noStr_lst (b _ _ n1 e1)), _, .base (.lst (b _ _ n1 e1)), by decide⟩⟩
  · show ((PyData.int i).showable && true) = true
    rw [f1]
    rfl
  · show (listText [PyData.shown (.int i), reprText "ab", PyData.shown (.list [.bool true, .int 1])]).length ≤ _
    refine Nat.le_trans (list_lenN (m := 3002) (k := 3) (fun t ht => ?_) (by show 3 ≤ 3; decide)) (by decide)
    rcases List.mem_cons.mp ht with rfl | ht
    · exact f2
    rcases List.mem_cons.mp ht with rfl | ht
    · decide +kernel
    · rw [List.mem_singleton.mp ht]
      decide +kernel
theorem datV_t3 {l m u : Addr} {i : Int} (n1 : l ≠ p) (n2 : m ≠ p) (n3 : u ≠ p) (h : i.natAbs < 10 ^ 29) (e1 : H l = some (.tup [.int i, .ref u, .ref m])) (e2 : H m = some (.tup [.str "a", .non])) (e3 : H u = some (.tup [])) : DatV K p H (.ref l) := by
  obtain ⟨f1, f2⟩ := fit_num h
  refine ⟨fun z e => (by cases e), .tuple [.int i, .tuple [], .tuple [.str "a", .none]], ⟨?_, rfl, Nat.le_of_ble_eq_true rfl, ?_⟩, fun H' b => ⟨.tup (SqT.of (b _ _ n1 e1)) (.cons (.int i) (.cons (.tup (SqT.of (b _ _ n3 e3)) .nil) (.cons (.tup (SqT.of (b _ _ n2 e2)) (.cons (.str "a") (.cons .non .nil))) .nil))), .inr (noStr_tup (b _ _ n1 e1)), _, .base (.tup (b _ _ n1 e1)), by decide⟩⟩
  · show ((PyData.int i).showable && true) = true
    rw [f1]
    rfl
  · show (tupleText [PyData.shown (.int i), PyData.shown (.tuple []), PyData.shown (.tuple [.str "a", .none])]).length ≤ _
    refine Nat.le_trans (tuple_lenN (m := 3002) (k := 3) (fun t ht => ?_) (by show 3 ≤ 3; decide)) (by decide)
    rcases List.mem_cons.mp ht with rfl | ht
    · exact f2
    rcases List.mem_cons.mp ht with rfl | ht
    · decide +kernel
    · rw [List.mem_singleton.mp ht]
      decide +kernel
theorem as_small : ∀ n : Nat, n < 30 → MulOk ("a" : Str) (n : Int) ∧ SmallS (Txt.mul "a" (n : Int) ++ " {}") ∧ (Txt.mul "a" (n : Int)).length ≤ 30 := by
  unfold MulOk SmallS
  decide +kernel
end
/-! ### made errors -/
structure Er0 (K : PySem.W.Frag) (mg : Str → Option Value) (C : Addr) (x : Str) : Prop where
  ex : ∃ B newId initId bmB, ExcBaseFacts B newId initId bmB ∧ PySem.W.excIn K C bmB newId = true
  g : mg x = some (.ref C)
  k : PySem.W.keepIn K (.ref C) = true
theorem pe_er0 {X : Cx} {C : Addr} {x : Str} {p pos : Pos} (c : Er0 X.K X.mg C x) (hg : Gl X x) (hdb : (x == ("__debug__" : Str)) = false := by decide) : PE X (.Call (.Name x p) [] [] pos) (fun _ H Q => ∀ a, H a = none → Q (.ref a) (upd H a (exo a C none))) := by
  obtain ⟨_, _, _, _, F, q⟩ := c.ex
  exact pe_exc0 F q c.g c.k hg hdb
section
variable {K : PySem.W.Frag} {H : Hp} {a C dx : Addr} {kv : List (Str × V)} {f : Str} {v : V} {Q : VK}
theorem ef_use (e : ErrAt H a C kv) (xf : XfC K C) (no : PySem.W.findIn K (.ref C) f = some none) (m : (f, v) ∈ kv) (q : Q v H) :
    ∃ (a' C' d : Addr) (fs : List (Str × V)) (v' : V), V.ref a = .ref a' ∧ H a' = some (exo a' C' (some d)) ∧ H d = some (exd d fs) ∧ XfC K C' ∧ PySem.W.findIn K (.ref C') f = some none ∧ fs.lookup f = some v' ∧ Q v' H := by
  obtain ⟨d, l, h1, h2, h3⟩ := e
  exact ⟨a, C, d, l, v, rfl, h1, h2, xf, no, h3 _ _ m, q⟩
theorem ini_bar {o o' : HO} (nd : H dx = none) : Bar a H (upd (upd H dx o) a o') := fun b u n e => by
  rw [upd_ne n, upd_ne (ne_of_none e nd)]
  exact e
theorem bar_dx {H' : Hp} {o : HO} (nd : H dx = none) (b : Bar a H H') : Bar a H (upd H' dx o) := fun c u n e => by
  rw [upd_ne (ne_of_none e nd)]
  exact b c u n e
end
end WB
namespace WB
open PySem L2
theorem mkS {H1 H' : Hp} {a : Addr} {o : HO} (na : H1 a = none) (b : Bar a (upd H1 a o) H') : Same H1 H' := fun c u z => by
  have n := ne_of_none z na
  exact b c u n (by rw [upd_ne n]; exact z)
/-- a value and its data, as long as nothing but the bag changes -/
def Dv (K : PySem.W.Frag) (p : Addr) (H : Hp) (x : V) (d : PyData) : Prop := Fit d ∧ ∀ H', Bar p H H' → Dp K H' x d
inductive Dvs (K : PySem.W.Frag) (p : Addr) (H : Hp) : List V → List PyData → Prop
  | nil : Dvs K p H [] []
  | cons {x : V} {d : PyData} {xs : List V} {ds : List PyData} : Dv K p H x d → Dvs K p H xs ds → Dvs K p H (x :: xs) (d :: ds)
section
variable {K : PySem.W.Frag} {p l : Addr} {H H' : Hp}
theorem Dvs.all (s : Bar p H H') : ∀ {xs : List V} {ds : List PyData}, Dvs K p H xs ds → DpAll K H' xs ds
  | _, _, .nil => .nil
  | _, _, .cons h r => .cons (h.2 _ s) (r.all s)
theorem Dvs.dp {xs : List V} {ds : List PyData} (h : Dvs K p H xs ds) (s : Same H H') (e : H' l = some (.lst xs)) : Dp K H' (.ref l) (.list ds) := .lst (SqL.of e) (h.all (bar_of s))
theorem Dvs.fit : ∀ {xs : List V} {ds : List PyData}, Dvs K p H xs ds → ∀ d ∈ ds, Fit d
  | _, _, .nil, d, hd => absurd hd List.not_mem_nil
  | _, _, .cons h r, d, hd => by
    rcases List.mem_cons.mp hd with e | hd
    · rw [e]
      exact h.1
    · exact r.fit d hd
theorem Dvs.ok {xs : List V} {ds : List PyData} (h : Dvs K p H xs ds) (hl : ds.length ≤ 8) : OkD (.list ds) := okd_fits h.fit hl
theorem DatV.dv {x : V} (h : DatV K p H x) : ∃ d, Dv K p H x d := by
  obtain ⟨_, d, f, k⟩ := h
  exact ⟨d, f, fun H2 b => (k H2 b).1⟩
end
end WB

set_option Elab.async false
set_option linter.all false
set_option maxRecDepth 100000
set_option maxHeartbeats 4000000
namespace WB
open PySem L2
/-! ### rows of programs: how they are read -/
def LETS : List Nat := List.range' 97 26
theorem lets_eq : ("abcdefghijklmnopqrstuvwxyz" : Str) = S LETS := by decide +kernel
def RESV : List Str := ["answer", "caller", "else", "end", "fail", "from", "given", "if", "in", "is", "item", "marks", "module", "not", "out", "stop", "task"]
def SGN : List Str := ["|", "&", "-", "^"]
def CHG : List Str := ["|=", "&=", "-=", "^="]
def hasS (ws : List Str) (z : Str) : Bool := ws.any fun a => a == z
theorem hasS_mem {ws : List Str} {z : Str} : hasS ws z = true ↔ z ∈ ws := by
  unfold hasS
  rw [List.any_eq_true]
  exact ⟨fun ⟨a, h, e⟩ => by rw [← beq_iff_eq.mp e]; exact h, fun h => ⟨z, h, beq_self_eq_true z⟩⟩
theorem inV_strs (ws : List Str) (z : Str) : inV (.str z) (ws.map V.str) = hasS ws z := by
  unfold inV hasS
  rw [List.any_map]
  rfl
/-- a word that may be chosen -/
def wordB (z : Str) : Bool := (decide (1 ≤ z.length) && decide (z.length ≤ 8)) && !hasS RESV z && z.cps.toList.all fun c => decide (c ∈ LETS)
/-- what stands within the braces -/
def inner (z : Str) : Str := cutS z (some 1) (some (-1))
/-- a set of these marks -/
def setB (m z : Str) : Bool := Txt.startswith z "{" && Txt.endswith z "}" && decide (inner z = sb (mem (inner z))) && (inner z).cps.toList.all fun c => mem m c
def termB (ws : List Str) (m z : Str) : Bool := hasS ws z || setB m z
/-- the parts of a row -/
def parts (z : Str) : List Str := Txt.split z " "
theorem parts_pos (z : Str) : 0 < (parts z).length := PyProof.Rows.split_pos z " "
theorem parts_le (z : Str) : (parts z).length ≤ z.length + 2 := PyProof.Rows.split_le z " "
theorem parts_short {z a : Str} (h : a ∈ parts z) : a.length ≤ z.length := PyProof.Rows.part_short h
def fst (z : Str) : Str := (parts z).headD ""
theorem fst_at (z : Str) : (parts z)[0]? = some (fst z) := by
  have h := parts_pos z
  unfold fst
  cases e : parts z with
  | nil =>
    rw [e] at h
    cases h
  | cons a r => rfl
/-- the word on the left, the sign, the terms -/
def form (ps : List Str) : Option (Str × Str × List Str) := match ps with
  | [l, s, t] => if (s == "=" || hasS CHG s) = true then some (l, s, [t]) else none
  | [l, e, t, s, u] => if (e == "=" && hasS SGN s) = true then some (l, s, [t, u]) else none
  | _ => none
def rowB (ws : List Str) (m : Str) (fresh : Bool) (z : Str) : Bool := match form (parts z) with
  | none => false
  | some (l, s, ts) => (hasS ws l || (fresh && (!hasS CHG s && wordB l))) && ts.all (termB ws m)
def condB (ws : List Str) (m : Str) (ps : List Str) : Bool := match ps with
  | [a, s, b] => if (s == "in") = true then (decide (a.length = 1) && a.cps.toList.all (mem m)) && termB ws m b
    else if (s == "is") = true then hasS ws a && hasS ws b
    else hasS ["==", "<="] s && (termB ws m a && termB ws m b)
  | _ => false
def failB (ws : List Str) (m : Str) (ps : List Str) : Bool := match ps with
  | [t] => termB ws m t
  | [t, f, u] => (f == "from") && (termB ws m t && termB ws m u)
  | _ => false
def taskB (ws : List Str) (m : Str) (z : Str) : Bool :=
  if hasS ["else", "end", "stop"] z = true then true
  else if (fst z == "if") = true then condB ws m (if ((parts z)[1]? == some ("not" : Str)) = true then (parts z).drop 2 else (parts z).drop 1)
  else if (fst z == "fail") = true then failB ws m ((parts z).drop 1)
  else rowB ws m false z
def spWd : Sp := fun vs H Q _ => ∃ z : Str, vs = [.str z] ∧ z.length ≤ 1000 ∧ ∀ H', Same H H' → Q (.bl (wordB z)) H'
def spMark : Sp := fun vs H Q _ => ∃ z m : Str, vs = [.str z, .str m] ∧ z.length ≤ 1000 ∧ Q (.bl (decide (z.length = 1) && z.cps.toList.all (mem m))) H
def spInside : Sp := fun vs H Q _ => ∃ z : Str, vs = [.str z] ∧ z.length ≤ 1000 ∧ Q (.str (inner z)) H
def spSet : Sp := fun vs H Q _ => ∃ z m : Str, vs = [.str z, .str m] ∧ z.length ≤ 1000 ∧ ∀ H', Same H H' → Q (.bl (setB m z)) H'
def spTerms (K : PySem.W.Frag) : Sp := fun vs H Q _ => ∃ (a b : Addr) (ps ws : List Str) (m : Str), vs = [.ref a, .ref b, .str m] ∧ SqL K H a (ps.map V.str) ∧ SqL K H b (ws.map V.str) ∧ ps.length ≤ 1000 ∧ (∀ z ∈ ps, z.length ≤ 1000) ∧ ∀ H', Same H H' → Q (.bl (ps.all (termB ws m))) H'
def spFirst : Sp := fun vs H Q _ => ∃ z : Str, vs = [.str z] ∧ z.length ≤ 1000 ∧ ∀ H', Same H H' → Q (.str (fst z)) H'
def spForm : Sp := fun vs H Q _ => ∃ z : Str, vs = [.str z] ∧ z.length ≤ 1000 ∧ (form (parts z) = none → ∀ H', Same H H' → Q .non H') ∧ ∀ l s ts, form (parts z) = some (l, s, ts) → ∀ H' t u, Same H H' → H' t = some (.tup [.str l, .str s, .ref u]) → H' u = some (.lst (ts.map V.str)) → Q (.ref t) H'
end WB
namespace WB
open PySem L2
theorem same_at {H H3 : Hp} {D : Addr} {o : HO} (hD : H D = none) (s : Same H H3) : Same H (upd H3 D o) := fun b u e => by
  rw [upd_ne (ne_of_none e hD)]
  exact s _ _ e
theorem take_all {z : Str} {q : Nat → Bool} : (z.cps.toList.take z.cps.size).map (fun c => V.bl (q c)) = (z.cps.toList.map q).map V.bl := by
  rw [List.take_of_length_le (by rw [Array.length_toList]; exact Nat.le_refl _), List.map_map]
  rfl
theorem all_map {α : Type} (l : List α) (q : α → Bool) : (l.map q).all id = l.all q := by
  rw [List.all_map]
  rfl
theorem len1 {z : Str} (h : z.length = 1) : ∃ c, z = ⟨#[c]⟩ := by
  obtain ⟨⟨l⟩⟩ := z
  match l, h with
  | [c], _ => exact ⟨c, rfl⟩
end WB
namespace WB
open PySem L2
theorem dec_len (n m : Nat) : decide (V.int (n : Nat) = V.int (m : Nat)) = decide (n = m) := by
  by_cases h : n = m
  · rw [h, decide_eq_true rfl, decide_eq_true rfl]
  · rw [decide_eq_false h, decide_eq_false fun q => h (by injection q with q; omega)]
theorem dqs (a b : Str) : decide (V.str a = V.str b) = (a == b) := by
  by_cases h : a = b
  · subst h
    rw [decide_eq_true rfl, beq_self_eq_true]
  · rw [decide_eq_false fun q => h (V.str.inj q)]
    exact (beq_eq_false_iff_ne.mpr h).symm
theorem form_none {ps : List Str} (h3 : ps.length ≠ 3) (h5 : ps.length ≠ 5) : form ps = none := by
  unfold form
  split
  · exact absurd rfl h3
  · exact absurd rfl h5
  · rfl
theorem three {α : Type} {l : List α} (h : l.length = 3) : ∃ a b c, l = [a, b, c] := by
  match l, h with
  | [a, b, c], _ => exact ⟨a, b, c, rfl⟩
theorem five {α : Type} {l : List α} (h : l.length = 5) : ∃ a b c d e, l = [a, b, c, d, e] := by
  match l, h with
  | [a, b, c, d, e], _ => exact ⟨a, b, c, d, e, rfl⟩
end WB
namespace WB
open PySem L2
theorem form3 (a b c : Str) : form [a, b, c] = if (b == "=" || hasS CHG b) = true then some (a, b, [c]) else none := rfl
theorem form5 (a e b s c : Str) : form [a, e, b, s, c] = if (e == "=" && hasS SGN s) = true then some (a, s, [b, c]) else none := rfl
end WB
namespace WB
open PySem L2
def spPlain (K : PySem.W.Frag) : Sp := fun vs H Q _ => ∃ (x : V) (b : Addr) (ws : List Str) (m : Str) (fr : Bool), vs = [x, .ref b, .str m, .bl fr] ∧ Thing K H x ∧ SqL K H b (ws.map V.str) ∧ ((∀ z, x = .str z → z.length ≤ 1000 ∧ ∀ H', Same H H' → Q (.bl (rowB ws m fr z)) H') ∧ ((∀ z, x ≠ .str z) → ∀ H', Same H H' → Q (.bl false) H'))
def spCond (K : PySem.W.Frag) : Sp := fun vs H Q _ => ∃ (a b : Addr) (ps ws : List Str) (m : Str), vs = [.ref a, .ref b, .str m] ∧ SqL K H a (ps.map V.str) ∧ SqL K H b (ws.map V.str) ∧ ps.length ≤ 1100 ∧ (∀ z ∈ ps, z.length ≤ 1000) ∧ ∀ H', Same H H' → Q (.bl (condB ws m ps)) H'
def spFail (K : PySem.W.Frag) : Sp := fun vs H Q _ => ∃ (a b : Addr) (ps ws : List Str) (m : Str), vs = [.ref a, .ref b, .str m] ∧ SqL K H a (ps.map V.str) ∧ SqL K H b (ws.map V.str) ∧ ps.length ≤ 1100 ∧ (∀ z ∈ ps, z.length ≤ 1000) ∧ ∀ H', Same H H' → Q (.bl (failB ws m ps)) H'
def spTaskRow (K : PySem.W.Frag) : Sp := fun vs H Q _ => ∃ (x : V) (b : Addr) (ws : List Str) (m : Str), vs = [x, .ref b, .str m] ∧ Thing K H x ∧ SqL K H b (ws.map V.str) ∧ ((∀ z, x = .str z → SmallS z ∧ ∀ H', Same H H' → Q (.bl (taskB ws m z)) H') ∧ ((∀ z, x ≠ .str z) → ∀ H', Same H H' → Q (.bl false) H'))
def plains (z : Str) : List Nat := z.cps.toList.filter fun c => Txt.islower ⟨#[c]⟩
def spPlains : Sp := fun vs H Q _ => ∃ z : Str, vs = [.str z] ∧ z.length ≤ 1000 ∧ ∀ H' l, Same H H' → H l = none → H' l = some (.lst ((plains z).map sg)) → Q (.ref l) H'
/-- the blocks that wait, behind a row -/
def blocks (z : Str) (bs : List Str) : Option (List Str) :=
  if (fst z == "if") = true then some (bs ++ [("if" : Str)])
  else if (fst z == "else") = true then (if bs.drop (bs.length - 1) = [("if" : Str)] then some (bs.dropLast ++ [("else" : Str)]) else none)
  else if (fst z == "end") = true then (if bs = [] then none else some bs.dropLast)
  else some bs
def spBlocks : Sp := fun vs H Q _ => ∃ (z : Str) (a : Addr) (bs : List Str), vs = [.str z, .ref a] ∧ z.length ≤ 1000 ∧ H a = some (.lst (bs.map V.str)) ∧ bs.length ≤ 1000 ∧ (∀ b ∈ bs, SmallS b) ∧ (blocks z bs = none → ∀ H', Same H H' → Q .non H') ∧ ∀ bs', blocks z bs = some bs' → ∀ H' l, Same H H' → H' l = some (.lst (bs'.map V.str)) → Q (.ref l) H'
end WB
namespace WB
open PySem L2
theorem and_val {c : Bool} {te : TE} {σ : L2.St} {H : Hp} {Q : VK} (C : V → Hp → Prop) (h1 : c = true → ∀ Q' : VK, (∀ v H', C v H' → Q' v H') → te σ H Q') (h2 : c = false → C (.bl false) H) (h : ∀ v H', C v H' → Q v H') : if c = true then te σ H Q else Q (.bl false) H := by
  cases c with
  | true => exact iteT (h1 rfl Q h)
  | false => exact iteF (h _ _ (h2 rfl))
theorem or_val {c : Bool} {te : TE} {σ : L2.St} {H : Hp} {Q : VK} (C : V → Hp → Prop) (h1 : c = true → C (.bl true) H) (h2 : c = false → ∀ Q' : VK, (∀ v H', C v H' → Q' v H') → te σ H Q') (h : ∀ v H', C v H' → Q v H') : if c = true then Q (.bl true) H else te σ H Q := by
  cases c with
  | true => exact iteT (h _ _ (h1 rfl))
  | false => exact iteF (h2 rfl Q h)
theorem form_sub {ps : List Str} {l s : Str} {ts : List Str} (h : form ps = some (l, s, ts)) : (l ∈ ps ∧ s ∈ ps ∧ ∀ t ∈ ts, t ∈ ps) ∧ ts.length ≤ 2 := by
  unfold form at h
  split at h
  · split at h
    · cases h
      exact ⟨⟨by simp, by simp, fun t ht => by simp at ht; simp [ht]⟩, by show 1 ≤ 2; decide⟩
    · cases h
  · split at h
    · cases h
      exact ⟨⟨by simp, by simp, fun t ht => by simp at ht; rcases ht with rfl | rfl <;> simp⟩, by show 2 ≤ 2; decide⟩
    · cases h
  · cases h
theorem cond_not {ws ps : List Str} {m : Str} (h : ps.length ≠ 3) : condB ws m ps = false := by
  unfold condB
  split
  · exact absurd rfl h
  · rfl
theorem fail_not {ws ps : List Str} {m : Str} (h : ps.length ≠ 3) (h1 : ps.length ≠ 1) : failB ws m ps = false := by
  unfold failB
  split
  · exact absurd rfl h1
  · exact absurd rfl h
  · rfl
theorem one_of {α : Type} {l : List α} (h : l.length = 1) : ∃ a, l = [a] := by
  match l, h with
  | [a], _ => exact ⟨a, rfl⟩
theorem cut_drop (xs : List V) (k : Nat) : cutV xs (some (k : Int)) none = xs.drop k := by
  unfold cutV
  rw [HT.sIx_none, HT.sIx_nat]
  by_cases h : k ≤ xs.length
  · rw [Nat.min_eq_left h, List.take_of_length_le (by rw [List.length_drop]; exact Nat.le_refl _)]
  · rw [Nat.min_eq_right (by omega), List.drop_length, List.take_nil, List.drop_of_length_le (by omega)]
theorem cut_one (xs : List V) : cutV xs (some 1) (some 2) = (xs.drop 1).take 1 := by
  show cutV xs (some ((1 : Nat) : Int)) (some ((2 : Nat) : Int)) = _
  unfold cutV
  rw [HT.sIx_nat, HT.sIx_nat]
  match xs with
  | [] => rfl
  | [a] => rfl
  | a :: b :: r =>
    have h1 : min 1 (a :: b :: r).length = 1 := Nat.min_eq_left (by show 1 ≤ r.length + 1 + 1; omega)
    have h2 : min 2 (a :: b :: r).length = 2 := Nat.min_eq_left (by show 2 ≤ r.length + 1 + 1; omega)
    rw [h1, h2]
end WB
namespace WB
open PySem L2
theorem cut_last (xs : List V) : cutV xs (some (-1)) none = xs.drop (xs.length - 1) := by
  unfold cutV
  have e : HT.sIx xs.length 0 (some (-1)) = xs.length - 1 := by
    show (if (-1 : Int) < 0 then ((-1 : Int) + (xs.length : Int)).toNat else min (-1 : Int).toNat xs.length) = _
    rw [if_pos (by decide)]
    omega
  rw [HT.sIx_none, e, List.take_of_length_le (by rw [List.length_drop]; exact Nat.le_refl _)]
theorem cut_init (xs : List V) : cutV xs none (some (-1)) = xs.dropLast := by
  unfold cutV
  have e : HT.sIx xs.length xs.length (some (-1)) = xs.length - 1 := by
    show (if (-1 : Int) < 0 then ((-1 : Int) + (xs.length : Int)).toNat else min (-1 : Int).toNat xs.length) = _
    rw [if_pos (by decide)]
    omega
  rw [HT.sIx_none, e, List.drop_zero, Nat.sub_zero, List.dropLast_eq_take]
theorem eqv_one (qs : List Str) (z : Str) : PyData.eqv (.list (qs.map PyData.str)) (.list [.str z]) = decide (qs = [z]) := by
  match qs with
  | [] => rw [decide_eq_false (by intro h; cases h)]; rfl
  | [a] =>
    show (PyData.eqv (.str a) (.str z) && PyData.eqvAll [] []) = _
    have e1 : PyData.eqv (.str a) (.str z) = (a == z) := rfl
    have e2 : PyData.eqvAll [] [] = true := rfl
    rw [e1, e2, Bool.and_true]
    by_cases h : a = z
    · subst h
      rw [decide_eq_true rfl, beq_self_eq_true]
    · rw [decide_eq_false fun q => h (by cases q; rfl)]
      exact beq_eq_false_iff_ne.mpr h
  | a :: b :: r =>
    rw [decide_eq_false (by intro h; cases h)]
    show (PyData.eqv (.str a) (.str z) && PyData.eqvAll (.str b :: r.map PyData.str) []) = _
    have e2 : PyData.eqvAll (.str b :: r.map PyData.str) [] = false := rfl
    rw [e2, Bool.and_false]
theorem shaped_txs {qs : List Str} (h : ∀ z ∈ qs, SmallS z) : SeqAt.shaped (.list (qs.map PyData.str)) = true := shaped_sm h
theorem joinL_mem (sep : List Nat) : ∀ (l : List (List Nat)) (a : List Nat), a ∈ l → ∀ c ∈ a, c ∈ TL.joinL sep l
  | [], a, h, c, hc => absurd h List.not_mem_nil
  | [x], a, h, c, hc => by
    rw [List.mem_singleton.mp h] at hc
    exact hc
  | x :: y :: r, a, h, c, hc => by
    show c ∈ x ++ (sep ++ TL.joinL sep (y :: r))
    rcases List.mem_cons.mp h with e | h
    · rw [e] at hc
      exact List.mem_append_left _ hc
    · exact List.mem_append_right _ (List.mem_append_right _ (joinL_mem sep (y :: r) a h c hc))
theorem parts_small {z : Str} (h : SmallS z) : ∀ y ∈ parts z, SmallS y := fun y hy => by
  refine ⟨Nat.le_trans (parts_short hy) h.1, fun c hc => h.2 c ?_⟩
  have e : Str.join " " (parts z) = z := StrLaws.join_split z " "
  have e2 := TL.tl_join (" " : Str) (parts z)
  rw [e] at e2
  show c ∈ TL.tl z
  rw [e2]
  exact joinL_mem _ _ (TL.tl y) (List.mem_map.mpr ⟨y, hy, rfl⟩) c hc
theorem not_at (z : Str) (w : Str) : decide (((parts z).drop 1).take 1 = [w]) = ((parts z)[1]? == some w) := by
  match parts z with
  | [] => rfl
  | [a] => rfl
  | a :: b :: r =>
    show decide ([b] = [w]) = (some b == some w)
    by_cases h : b = w
    · subst h
      rw [decide_eq_true rfl]
      exact (beq_self_eq_true _).symm
    · rw [decide_eq_false fun q => h (by cases q; rfl)]
      exact (beq_eq_false_iff_ne.mpr fun q => h (Option.some.inj q)).symm
end WB

set_option Elab.async false
set_option linter.all false
set_option maxRecDepth 100000
set_option maxHeartbeats 4000000
namespace WB
open PySem L2
/-! ### own errors of several fields, raised -/
def spG (C : Addr) (fs : List Str) : Sp := fun vs H Q _ => ∃ (a : Addr) (ys : List V), vs = .ref a :: ys ∧ ys.length = fs.length ∧ H a = some (exo a C none) ∧
  ∀ (H' : Hp) (d : Addr) (l : List (Str × V)), Bar a H H' → H d = none → d ≠ a → H' a = some (exo a C (some d)) → H' d = some (exd d l) → (∀ f v, (f, v) ∈ fs.zip ys → l.lookup f = some v) → Q .non H'
structure ErY (P : Program) (w : World) (K : PySem.W.Frag) (mg : Str → Option Value) (base : Heap) (C : Addr) (x : Str) (fs ps : List Str) : Prop where
  ox : ∃ B newId initId bmB, OexB K C B newId initId bmB
  xf : XfC K C
  no : ∀ f ∈ fs, PySem.W.findIn K (.ref C) f = some none
  g : mg x = some (.ref C)
  te : PySem.W.exmOne K (.ref C) (.ref C) = some true
  ini : ∃ (g : Addr) (fd : FuncData), PySem.W.findIn K (.ref C) "__init__" = some (some (.ref g)) ∧ PySem.W.typeIn K (.ref g) = some (.type "function") ∧ FnOk P w K mg base C8.CX0 1 g fd ("self" :: ps) (spG C fs) ∧ Binds K fd ("self" :: ps) []
theorem pmk_ery {X : Cx} {C : Addr} {j : Nat} {x : Str} {fs ps : List Str} {e : Expr} {es : List Expr} {ta : TA} {p pos : Pos} (c : ErY X.prog X.w X.K X.mg X.base C x fs ps) (hr : Room j X.A) (hk : 2 ≤ j) (hg : Gl X x) (ha : PA X (e :: es) ta)
    (hdb : (x == ("__debug__" : Str)) = false := by decide) (he : starEach (e :: es) X.env = (false, eval e X.env) :: starEach es X.env := by rfl) (hpl : (backTo pos (starEach es X.env)).any (·.1) = false := by rfl) :
    PMk X (.Call (.Name x p) (e :: es) [] pos) (tMkO C (spG C fs) [] ta) := by
  obtain ⟨g, fd, h1, h2, F, b⟩ := c.ini
  obtain ⟨_, _, _, _, T⟩ := c.ox
  exact pmk_oexB T h1 h2 F (hr.mono hk) b (fun _ _ _ _ _ _ _ z => z.elim) hg c.g ha hdb he hpl
/-- the error's own dict -/
def XD (H : Hp) (d : Addr) (kv : List (Str × V)) : Prop := ∃ l, H d = some (.xd l) ∧ ∀ f v, (f, v) ∈ kv → l.lookup f = some v
theorem ery_ok {C a : Addr} {fs : List Str} {ys : List V} {H1 : Hp} {Q E : XK} (hl : ys.length = fs.length) (na : H1 a = none) (h : ∀ H' d, Same H1 H' → H1 d = none → XD H' d (fs.zip ys) → Q (.ref C) (some d) H') :
    spG C fs (.ref a :: (ys ++ [])) (upd H1 a (exo a C none)) (fun v H2 => v = .non ∧ ∃ (d : Addr) (l : List (Str × V)), H2 a = some (exo a C (some d)) ∧ H2 d = some (exd d l) ∧ H1 d = none ∧ Q (.ref C) (some d) (upd (del H2 a) d (.xd l))) E := by
  refine ⟨a, ys, by rw [List.append_nil], hl, upd_same, fun H' d l b nd ne e1 e2 lk => ?_⟩
  rw [upd_ne ne] at nd
  refine ⟨rfl, d, l, e1, e2, nd, h _ d (fun c u z => ?_) nd ⟨l, upd_same, lk⟩⟩
  have n1 := ne_of_none z na
  rw [upd_ne (ne_of_none z nd), del_ne n1]
  exact b c u n1 (by rw [upd_ne n1]; exact z)
/-! ### marks, rows: what is raised -/
def conS (z : Str) : Bool := decide (z = sb (mem z))
def marksB : V → Bool
  | .str z => conS z && (decide (1 ≤ z.length) && decide (z.length ≤ 3)) && decide ((plains z).length ≤ 2)
  | _ => false
def spChkM (K : PySem.W.Frag) (CB : Addr) : Sp := fun vs H Q E => ∃ x : V, vs = [x] ∧ Thing K H x ∧ (∀ z, x = .str z → z.length ≤ 1000) ∧ (marksB x = true → ∀ H', Same H H' → Q .non H') ∧
  (marksB x = false → ∀ H' d, Same H H' → H d = none → XD H' d [("part", .str "marks"), ("at", .int (-1))] → E (.ref CB) (some d) H')
def spChkR (K : PySem.W.Frag) (CB CT : Addr) : Sp := fun vs H Q E => ∃ (p : Str) (x : V) (most : Int), vs = [.str p, x, .int most] ∧
  ((∃ l xs, x = .ref l ∧ H l = some (.lst xs) ∧ (((xs.length : Nat) : Int) ≤ most → Q .non H) ∧ (most < ((xs.length : Nat) : Int) → ∀ H' d, Same H H' → H d = none → XD H' d [("what", .str "rows")] → E (.ref CT) (some d) H')) ∨
   (∃ t, TyX K H x (.type t) ∧ kitB t "list" = some false ∧ ∀ H' d, Same H H' → H d = none → XD H' d [("part", .str p), ("at", .int (-1))] → E (.ref CB) (some d) H'))
/-- a row, of any kind -/
def RowV (K : PySem.W.Frag) (H : Hp) (x : V) : Prop := (∀ z, x = .str z → SmallS z) ∧ ∀ H', Same H H' → Thing K H' x
theorem RowV.same {K : PySem.W.Frag} {H H' : Hp} {x : V} (h : RowV K H x) (s : Same H H') : RowV K H' x := ⟨h.1, fun H2 s2 => h.2 H2 (s.trans s2)⟩
/-- what is bound behind the rows, or the index of the first wrong one -/
def bound (m : Str) : List V → Nat → List Str → Nat ⊕ List Str
  | [], _, ws => .inr ws
  | .str z :: r, i, ws => if rowB ws m true z = true then bound m r (i + 1) (if hasS ws (fst z) = true then ws else ws ++ [fst z]) else .inl i
  | _ :: _, i, _ => .inl i
def spBound (K : PySem.W.Frag) (CB : Addr) : Sp := fun vs H Q E => ∃ (p : Str) (l b : Addr) (xs : List V) (ws : List Str) (m : Str), vs = [.str p, .ref l, .ref b, .str m] ∧ SqL K H l xs ∧ SqL K H b (ws.map V.str) ∧ xs.length ≤ 100 ∧ ws.length ≤ 100 ∧ (∀ x ∈ xs, RowV K H x) ∧
  (∀ ws', bound m xs 0 ws = .inr ws' → ∀ H' q, Same H H' → H q = none → H' q = some (.lst (ws'.map V.str)) → Q (.ref q) H') ∧
  (∀ i, bound m xs 0 ws = .inl i → ∀ H' d, Same H H' → H d = none → XD H' d [("part", .str p), ("at", .int (i : Nat))] → E (.ref CB) (some d) H')
/-- the task's rows: the index of the first wrong one, or the blocks that wait at the end -/
def taskF (ws : List Str) (m : Str) : List V → Nat → List Str → Nat ⊕ List Str
  | [], _, bs => .inr bs
  | .str z :: r, i, bs => if taskB ws m z = true then (match blocks z bs with | some bs' => taskF ws m r (i + 1) bs' | none => .inl i) else .inl i
  | _ :: _, i, _ => .inl i
def taskE (ws : List Str) (m : Str) (xs : List V) : Option Nat := match taskF ws m xs 0 [] with
  | .inl i => some i
  | .inr bs => if bs = [] then none else some xs.length
def spChkT (K : PySem.W.Frag) (CB : Addr) : Sp := fun vs H Q E => ∃ (l b : Addr) (xs : List V) (ws : List Str) (m : Str), vs = [.ref l, .ref b, .str m] ∧ SqL K H l xs ∧ SqL K H b (ws.map V.str) ∧ xs.length ≤ 100 ∧ (∀ x ∈ xs, RowV K H x) ∧
  (taskE ws m xs = none → ∀ H', Same H H' → Q .non H') ∧
  (∀ i, taskE ws m xs = some i → ∀ H' d, Same H H' → H d = none → XD H' d [("part", .str "task"), ("at", .int (i : Nat))] → E (.ref CB) (some d) H')
end WB

set_option Elab.async false
set_option linter.all false
set_option maxRecDepth 100000
set_option maxHeartbeats 4000000
namespace WB
open PySem L2
/-! ### programs made -/
inductive Er where
  | bad (p : Str) (i : Int)
  | many (w : Str)
def kvE : Er → List (Str × V)
  | .bad p i => [("part", .str p), ("at", .int i)]
  | .many w => [("what", .str w)]
def clE (CB CT : Addr) : Er → Addr
  | .bad _ _ => CB
  | .many _ => CT
def argE (p : Str) (most : Nat) : Option (List V) → Except Er (List V)
  | none => .error (.bad p (-1))
  | some xs => if most < xs.length then .error (.many "rows") else .ok xs
def boundE (p m : Str) (ws : List Str) (xs : List V) : Except Er (List Str) := match bound m xs 0 ws with
  | .inl i => .error (.bad p (i : Nat))
  | .inr w => .ok w
structure Prog where
  m : Str
  xs : List V
  ys : List V
  zs : List V
  ws : List Str
  os : List Str
def pT (m : Str) (xs ys : List V) (ws os : List Str) (oc : Option (List V)) : Except Er Prog := (argE "task" 16 oc).bind fun zs => match taskE (ws ++ [("item" : Str), ("out" : Str)]) m zs with
  | some i => .error (.bad "task" (i : Nat))
  | none => .ok ⟨m, xs, ys, zs, ws, os⟩
def owns (ws w2 : List Str) : List Str := w2.filter fun z => !hasS ws z
def pC (m : Str) (xs : List V) (ws : List Str) (ob oc : Option (List V)) : Except Er Prog := (argE "caller" 6 ob).bind fun ys => (boundE "caller" m ws ys).bind fun w2 =>
  if (decide (2 < (owns ws w2).length) || decide (4 < w2.length)) = true then .error (.many "names") else pT m xs ys ws (owns ws w2) oc
def pM (m : Str) (oa ob oc : Option (List V)) : Except Er Prog := (argE "module" 6 oa).bind fun xs => (boundE "module" m [] xs).bind fun ws =>
  if 3 < ws.length then .error (.many "globals") else pC m xs ws ob oc
def txtV : V → Str
  | .str z => z
  | _ => ""
def progE (x : V) (oa ob oc : Option (List V)) : Except Er Prog := if marksB x = true then pM (txtV x) oa ob oc else .error (.bad "marks" (-1))
def ArgV (K : PySem.W.Frag) (H : Hp) (x : V) : Option (List V) → Prop
  | some xs => ∃ l, x = .ref l ∧ H l = some (.lst xs) ∧ xs.length ≤ 100 ∧ ∀ y ∈ xs, RowV K H y
  | none => ∃ t, (∀ H', Same H H' → TyX K H' x (.type t)) ∧ kitB t "list" = some false
theorem ArgV.same {K : PySem.W.Frag} {H H' : Hp} {x : V} {o : Option (List V)} (h : ArgV K H x o) (s : Same H H') : ArgV K H' x o := by
  cases o with
  | some xs =>
    obtain ⟨l, e, hl, hn, hr⟩ := h
    exact ⟨l, e, s _ _ hl, hn, fun y hy => (hr y hy).same s⟩
  | none =>
    obtain ⟨t, ht, hk⟩ := h
    exact ⟨t, fun H2 s2 => ht H2 (s.trans s2), hk⟩
def ProgAt (C : Addr) (H : Hp) (a : Addr) (p : Prog) : Prop := ∃ (dx t1 t2 t3 t4 t5 : Addr), H a = some (.ins C dx [("marks", .str p.m), ("module", .ref t1), ("caller", .ref t2), ("task", .ref t3), ("shared", .ref t4), ("own", .ref t5)]) ∧
  H t1 = some (.tup p.xs) ∧ H t2 = some (.tup p.ys) ∧ H t3 = some (.tup p.zs) ∧ H t4 = some (.tup (p.ws.map V.str)) ∧ H t5 = some (.tup (p.os.map V.str))
def spInitP (K : PySem.W.Frag) (C CB CT : Addr) : Sp := fun vs H Q E => ∃ (a dx : Addr) (x ya yb yc : V) (oa ob oc : Option (List V)), vs = [.ref a, x, ya, yb, yc] ∧ H a = some (.ins C dx []) ∧ Thing K H x ∧ (∀ z, x = .str z → z.length ≤ 1000) ∧
  ArgV K H ya oa ∧ ArgV K H yb ob ∧ ArgV K H yc oc ∧
  (∀ e, progE x oa ob oc = .error e → ∀ H' d, Same H H' → H d = none → XD H' d (kvE e) → E (.ref (clE CB CT e)) (some d) H') ∧
  (∀ p, progE x oa ob oc = .ok p → ∀ H', Bar a H H' → ProgAt C H' a p → Q .non H')
theorem bound_len {m : Str} : ∀ {xs : List V} {i : Nat} {ws w : List Str}, bound m xs i ws = .inr w → w.length ≤ ws.length + xs.length
  | [], _, _, _, h => by
    cases h
    exact Nat.le_refl _
  | .str z :: r, i, ws, w, h => by
    have e : bound m (.str z :: r) i ws = if rowB ws m true z = true then bound m r (i + 1) (if hasS ws (fst z) = true then ws else ws ++ [fst z]) else .inl i := rfl
    rw [e] at h
    split at h
    · have := bound_len h
      have h2 : (if hasS ws (fst z) = true then ws else ws ++ [fst z]).length ≤ ws.length + 1 := by
        split
        · exact Nat.le_succ _
        · rw [List.length_append]
          exact Nat.le_refl _
      show _ ≤ ws.length + (r.length + 1)
      omega
    · cases h
  | .int _ :: _, _, _, _, h => by cases h
  | .bl _ :: _, _, _, _, h => by cases h
  | .non :: _, _, _, _, h => by cases h
  | .ref _ :: _, _, _, _, h => by cases h
  | .flt _ :: _, _, _, _, h => by cases h
  | .byt _ :: _, _, _, _, h => by cases h
  | .ty _ :: _, _, _, _, h => by cases h
end WB
namespace WB
open PySem L2
theorem argE_ok {p : Str} {n : Nat} {xs : List V} (h : xs.length ≤ n) : argE p n (some xs) = .ok xs := if_neg (Nat.not_lt.mpr h)
theorem chkR {K : PySem.W.Frag} {CB CT : Addr} {H1 : Hp} {p : Str} {x : V} {most : Int} {n : Nat} {o : Option (List V)} {R : Prop} {E : XK} (hm : most = ((n : Nat) : Int)) (hA : ArgV K H1 x o)
    (k1 : ∀ e, argE p n o = .error e → ∀ H' d, Same H1 H' → H1 d = none → XD H' d (kvE e) → E (.ref (clE CB CT e)) (some d) H')
    (k2 : ∀ xs l, o = some xs → xs.length ≤ n → x = .ref l → H1 l = some (.lst xs) → xs.length ≤ 100 → (∀ z ∈ xs, RowV K H1 z) → R) :
  ((∃ l xs, x = .ref l ∧ H1 l = some (.lst xs) ∧ (((xs.length : Nat) : Int) ≤ most → R) ∧ (most < ((xs.length : Nat) : Int) → ∀ H' d, Same H1 H' → H1 d = none → XD H' d [("what", .str "rows")] → E (.ref CT) (some d) H')) ∨
   (∃ t, TyX K H1 x (.type t) ∧ kitB t "list" = some false ∧ ∀ H' d, Same H1 H' → H1 d = none → XD H' d [("part", .str p), ("at", .int (-1))] → E (.ref CB) (some d) H')) := by
  subst hm
  cases o with
  | none =>
    obtain ⟨t, ht, hk⟩ := hA
    exact .inr ⟨t, ht _ (Same.refl _), hk, fun H' d s nd xd => k1 (.bad p (-1)) rfl H' d s nd xd⟩
  | some xs =>
    obtain ⟨l, rfl, hl, hn, hr⟩ := hA
    refine .inl ⟨l, xs, rfl, hl, fun h => k2 xs l rfl (by omega) rfl hl hn hr, fun h H' d s nd xd => k1 (.many "rows") (if_pos (by omega)) H' d s nd xd⟩
theorem tstep {G : Hp} {a t : Addr} {o o1 o2 : HO} (ha : G a = some o) (nt : G t = none) : t ≠ a ∧ Bar a G (upd (upd G t o1) a o2) ∧ (upd (upd G t o1) a o2) t = some o1 := by
  have ne : t ≠ a := fun e => by
    rw [e, ha] at nt
    cases nt
  refine ⟨ne, fun b u nb hb => ?_, by rw [upd_ne ne]; exact upd_same⟩
  rw [upd_ne nb, upd_ne (ne_of_none hb nt)]
  exact hb
theorem owns_step {ws w2 : List Str} {j : Nat} {c : Str} (h : w2[j]? = some c) : owns ws (w2.take (j + 1)) = owns ws (w2.take j) ++ (if hasS ws c = true then [] else [c]) := by
  unfold owns
  rw [List.take_succ, h, List.filter_append]
  congr 1
  show List.filter _ [c] = _
  rw [List.filter_cons, List.filter_nil]
  cases hasS ws c <;> rfl
theorem owns_len {ws w2 : List Str} : (owns ws w2).length ≤ w2.length := List.length_filter_le _ _
end WB

set_option Elab.async false
set_option linter.all false
set_option maxRecDepth 100000
set_option maxHeartbeats 4000000
/-! sorted(set(text)) -/
namespace WB
open PySem PySem.Spec PyProof.Rows L2
def keyS (e : Int × Value) : Str := match e.2 with
  | .str k _ => k
  | _ => Str.empty
def GoodS (w : World) (e : Int × Value) : Prop := ∃ k tk, e.2 = Value.str k tk ∧ e.1 = hashStr w k
/-- the set at a holds the texts of L, each once -/
def SR (w : World) (h : Heap) (a : Addr) (L : List Str) : Prop := ∃ o es ep t, h.get? a = some o ∧ o.ExactSet ∧ o.data = .set es ep t ∧ ((∀ e ∈ es.toList, GoodS w e) ∧ (es.toList.map keyS).Nodup ∧ (∀ k, k ∈ L ↔ k ∈ es.toList.map keyS) ∧ es.size ≤ L.length) ∧
  t.fits es.size = true ∧ Ris t.place.toList ∧ (w.params.followText "set-order" = true ∨ t.led = true)
section
variable {P : Program} {w : World} {h h' : Heap} {a : Addr} {L : List Str}
theorem SR.at (R : SR w h a L) (k : ∀ o, h.get? a = some o → h'.get? a = some o) : SR w h' a L := by
  obtain ⟨o, es, ep, t, ho, r⟩ := R
  exact ⟨o, es, ep, t, k o ho, r⟩
theorem goodS_elems {l : List (Int × Value)} (g : ∀ e ∈ l, GoodS w e) : ElemsOf (PySem.strKind P w) l := fun e he => by
  obtain ⟨k, tk, h1, h2⟩ := g e he
  exact ⟨⟨k, by rw [h1]; exact strKind_is P w k tk, h2⟩, by rw [h1] <;> rfl⟩
theorem goodS_is {e : Int × Value} (g : GoodS w e) (k : Str) : (PySem.strKind P w).is k e.2 = true ↔ keyS e = k := by
  obtain ⟨k0, tk, h1, _⟩ := g
  unfold keyS
  rw [h1]
  have e : (PySem.strKind P w).is k (Value.str k0 tk) = decide (k0 = k) := by
    by_cases q : k0 = k
    · rw [q, decide_eq_true rfl]
      exact strKind_is P w k tk
    · rw [decide_eq_false q]
      cases c : (PySem.strKind P w).is k (Value.str k0 tk) with
      | false => rfl
      | true =>
        obtain ⟨t2, e2⟩ := Value.isStrOf_shape (x := k) (v := Value.str k0 tk) c
        cases e2
        exact absurd rfl q
  rw [e]
  exact decide_eq_true_iff
theorem goodS_mem {l : List (Int × Value)} (g : ∀ e ∈ l, GoodS w e) (k : Str) : k ∈ l.map keyS ↔ ∃ e ∈ l, (PySem.strKind P w).is k e.2 = true := by
  rw [List.mem_map]
  exact ⟨fun ⟨e, he, q⟩ => ⟨e, he, (goodS_is (g e he) k).2 q⟩, fun ⟨e, he, q⟩ => ⟨e, he, (goodS_is (g e he) k).1 q⟩⟩
end
section
variable {P : Program} {w : World} {A : Around} {E : Value → Shared → Prop} {s : Shared} {a : Addr} {L : List Str}
theorem sr_tail {g : Bool → Sem Unit} (hg : ∀ (b : Bool) (s₁ : Shared) (Q' : Unit → Shared → Prop), Q' () s₁ → wpAny (model P w) A (g b) Q' E s₁)
    {o : Obj} {es : Array (Int × Value)} {ep : Nat} {t : SetTable} (ho : s.heap.get? a = some o) (hex : o.ExactSet) (hd : o.data = .set es ep t)
    {es1 : Array (Int × Value)} {t2 : SetTable} (C : (∀ e ∈ es1.toList, GoodS w e) ∧ (es1.toList.map keyS).Nodup ∧ (∀ k, k ∈ L ↔ k ∈ es1.toList.map keyS) ∧ es1.size ≤ L.length) (hb : L.length < scanBound)
    (hf2 : t2.fits es1.size = true) (hr : Ris t2.place.toList) (hl : w.params.followText "set-order" = true ∨ t2.led = true) {wasDummy : Bool} {R : Option Bool → Shared → Prop}
    (hR : ∀ h', Heap.SameBut a s.heap h' → SR w h' a L → R (some true) { s with heap := h' }) :
    wpAny (model P w) A (do
        storeSet a es1 t2
        if (!wasDummy && t2.tooFull) = true then do
            g (relayAll t2 es1 (SetTable.grown es1.size)).2.2
            storeSet a (relayAll t2 es1 (SetTable.grown es1.size)).1 (relayAll t2 es1 (SetTable.grown es1.size)).2.1
            pure (some true)
          else pure (some true)) R E s := by
  obtain ⟨g1, nd1, m1, sz1⟩ := C
  have hb1 : es1.size < scanBound := Nat.lt_of_le_of_lt sz1 hb
  refine wpAny_bind (wpAny_storeSet_of ho hd ?_ (fits_of_scanBound hb1))
  have ho1 := store_at (es' := es1) (t' := t2) ho hd
  have sb1 := Heap.SameBut.update s.heap a (Obj.putSet es1 t2)
  split
  · have pm := relayAll_perm t2 es1 (SetTable.grown es1.size)
    have hf3 := relayAll_fits t2 es1 (SetTable.grown es1.size)
    have hr3 := relayAll_ris t2 es1 (SetTable.grown es1.size)
    have hl3 := relayAll_led t2 es1 (SetTable.grown es1.size)
    generalize relayAll t2 es1 (SetTable.grown es1.size) = Z at pm hf3 hr3 hl3 ⊢
    obtain ⟨es2, t3, gave⟩ := Z
    dsimp only at pm hf3 hr3 hl3 ⊢
    have hsz : es2.size = es1.size := by rw [← Array.length_toList, pm.length_eq, Array.length_toList]
    refine wpAny_bind (hg _ _ _ ?_)
    refine wpAny_bind (wpAny_storeSet_of ho1 rfl ?_ (fits_of_scanBound (by rw [hsz]; exact hb1)))
    exact wpAny_pure (hR _ (sb1.trans (Heap.SameBut.update _ a _)) ⟨_, es2, _, t3, store_at (es' := es2) (t' := t3) ho1 rfl, hex, rfl,
      ⟨fun e he => g1 e (pm.mem_iff.mp he), (pm.map keyS).nodup_iff.mpr nd1, fun k => (m1 k).trans (pm.map keyS).mem_iff.symm, by rw [hsz]; exact sz1⟩, hf3, hr3, hl.imp id fun z => by rw [hl3]; exact z⟩)
  · exact wpAny_pure (hR _ sb1 ⟨_, es1, _, t2, ho1, hex, rfl, ⟨g1, nd1, m1, sz1⟩, hf2, hr, hl⟩)
theorem sr_add {k : Str} {tk : Tok} {Q : Bool → Shared → Prop} (R : SR w s.heap a L) (room : L.length + 1 < scanBound)
    (hQ : ∀ h' b, Heap.SameBut a s.heap h' → SR w h' a (L ++ [k]) → Q b { s with heap := h' }) :
    wpAny (model P w) A (setAddHashed a (.str k tk) ((PySem.strKind P w).hash k)) Q E s := by
  obtain ⟨o, es, ep, t, ho, hex, hd, ⟨g, nd, hm, hn⟩, hf, hr, hl⟩ := R
  have hkey : (PySem.strKind P w).is k (.str k tk) = true := strKind_is P w k tk
  have hsc : (Value.str k tk).scannable = true := rfl
  have hb : es.size < scanBound := by omega
  have hel : ElemsOf (PySem.strKind P w) es.toList := goodS_elems g
  unfold setAddHashed setAddHashedIn
  refine wpAny_holding (wpAny_bind (wpAny_setState_of ho hd hf ?_))
  dsimp only
  rw [byScan_of hsc hb hel]
  simp only [↓reduceIte]
  unfold setAddByScan
  refine wpAny_bind ?_
  refine wpAny_bind (wpAny_rule ?_)
  refine wpAny_bind (wpAny_setScan_of hkey ho hd hf hel ?_)
  cases hfi : List.findIdx? (fun e => (PySem.strKind P w).is k e.2) es.toList with
  | some j =>
    dsimp only
    obtain ⟨hj, pj, _⟩ := List.findIdx?_eq_some_iff_getElem.mp hfi
    have hin : k ∈ es.toList.map keyS := (goodS_mem (P := P) g k).2 ⟨es.toList[j], List.getElem_mem hj, pj⟩
    refine wpAny_pure (wpAny_pure (hQ s.heap _ (Heap.SameBut.refl a s.heap) ⟨o, es, ep, t, ho, hex, hd, ⟨g, nd, fun i => ?_, ?_⟩, hf, hr, hl⟩))
    · rw [List.mem_append, List.mem_singleton, hm i]
      exact ⟨fun z => z.elim id fun e => e ▸ hin, .inl⟩
    · rw [List.length_append]
      exact Nat.le_succ_of_le hn
  | none =>
    dsimp only
    have hnk : k ∉ es.toList.map keyS := fun z => by
      obtain ⟨e, he, q⟩ := (goodS_mem (P := P) g k).1 z
      have c := List.findIdx?_eq_none_iff.mp hfi e he
      rw [q] at c
      cases c
    have hgw : ∀ (b : Bool) {s₁ : Shared} {Q' : Unit → Shared → Prop}, Q' () s₁ → wpAny (model P w) A (match b with | true => rule "set.scan.the-table-gave-way" | false => pure ()) Q' E s₁ :=
      fun b s₁ Q' q => by cases b <;> first | exact wpAny_pure q | exact wpAny_rule q
    have pm := layNew_perm t es ((PySem.strKind P w).hash k) (.str k tk)
    have hf1 := layNew_fits t es ((PySem.strKind P w).hash k) (.str k tk)
    have hr1 := layNew_ris t es ((PySem.strKind P w).hash k) (.str k tk) hr
    have hl1 := layNew_led t es ((PySem.strKind P w).hash k) (.str k tk)
    generalize layNew t es ((PySem.strKind P w).hash k) (.str k tk) = Z at pm hf1 hr1 hl1 ⊢
    obtain ⟨es1, t1, wasDummy, gave⟩ := Z
    dsimp only at pm hf1 hr1 hl1 ⊢
    rw [Array.toList_push] at pm
    have pc : es1.toList.Perm (((PySem.strKind P w).hash k, Value.str k tk) :: es.toList) := pm.trans (List.perm_append_singleton _ _)
    have pk : (es1.toList.map keyS).Perm (k :: es.toList.map keyS) := pc.map keyS
    have C : (∀ e ∈ es1.toList, GoodS w e) ∧ (es1.toList.map keyS).Nodup ∧ (∀ i, i ∈ L ++ [k] ↔ i ∈ es1.toList.map keyS) ∧ es1.size ≤ (L ++ [k]).length := by
      refine ⟨fun e he => ?_, pk.nodup_iff.mpr (List.nodup_cons.mpr ⟨hnk, nd⟩), fun i => ?_, ?_⟩
      · rcases List.mem_cons.mp (pc.mem_iff.mp he) with z | z
        · rw [z]; exact ⟨k, tk, rfl, rfl⟩
        · exact g e z
      · rw [List.mem_append, List.mem_singleton, hm i, pk.mem_iff, List.mem_cons]
        exact Or.comm
      · rw [List.length_append, ← Array.length_toList, pc.length_eq, List.length_cons, Array.length_toList]
        exact Nat.succ_le_succ hn
    have hb1 : (L ++ [k]).length < scanBound := by rw [List.length_append]; exact room
    have hled : w.params.followText "set-order" = true ∨ t1.led = true := hl.imp id fun z => by rw [hl1]; exact z
    refine wpAny_bind (hgw _ ?_)
    split
    · refine wpAny_bind ?_
      rw [hashByValue_scannable 8 hsc]
      refine wpAny_pure ?_
      refine sr_tail ?_ ho hex hd C hb1 ?_ ?_ ?_ ?_
      · intro b s₁ Q' q; cases b <;> first | exact wpAny_pure q | exact wpAny_rule q
      · first | (split <;> first | exact hf1 | exact SetTable.fits_plain_off hf1) | exact hf1
      · first | (split <;> exact hr1) | exact hr1
      · first | (split <;> exact hled) | exact hled
      · intro h' sb r; dsimp only; exact wpAny_pure (hQ h' _ sb r)
    · refine wpAny_bind (wpAny_pure ?_)
      simp only [↓reduceIte]
      refine sr_tail ?_ ho hex hd C hb1 hf1 hr1 hled ?_
      · intro b s₁ Q' q; cases b <;> first | exact wpAny_pure q | exact wpAny_rule q
      · intro h' sb r; dsimp only; exact wpAny_pure (hQ h' _ sb r)
end
end WB

set_option Elab.async false
set_option linter.all false
set_option maxRecDepth 100000
set_option maxHeartbeats 4000000
namespace WB
open PySem PySem.Spec PyProof.Rows L2
section
variable {P : Program} {w : World} {A : Around} {E : Value → Shared → Prop} {s : Shared}
/-- the signs of a text, as texts -/
def sgs (z : Str) : List Str := z.cps.toList.map fun c => ⟨#[c]⟩
theorem sgs_len {z : Str} : (sgs z).length = z.cps.size := by
  unfold sgs
  rw [List.length_map, Array.length_toList]
theorem sr_loop {I : Addr} {fp wr : List Addr} {G : Array GenState → Array GenState → Prop} {z : Str} {St : Nat → Shared → Prop} {R : Result → Shared → Prop}
    (W : WalksS P w A.in1 I fp wr G z.cps.size (SignAt z) St) (S : Addr) (hSf : S ∉ fp) (hb : z.cps.size + 1 < scanBound) :
    ∀ (k i : Nat) (s : Shared), z.cps.size - i = k → i ≤ z.cps.size → St i s → SR w s.heap S ((sgs z).take i) →
      (∀ s', Moved (S :: wr) G s s' → SR w s'.heap S (sgs z) → R (.ok (.ret .none)) s') →
      codeAny (model P w) A (.builtin "set.update.loop" ⟨[.ref S, .ref I], []⟩) R s := by
  have hSw : S ∉ wr := fun h => hSf (W.sub _ h)
  have hsub : ∀ b ∈ wr, b ∈ S :: wr := fun b hb => List.mem_cons_of_mem _ hb
  intro k
  induction k with
  | zero =>
    intro i s hk' hi hst hS hR
    have hin : i = z.cps.size := by omega
    subst hin
    refine codeAny_builtin F.entry_set_update_loop ?_
    rw [Around.under_plainId F.plain_set_update_loop _]
    show wpAny _ A.in1 (pyNext (.ref I) >>= _) _ _ s
    refine wpAny_bind (W.done s _ _ hst fun s' hm => ?_)
    rw [List.take_of_length_le (by rw [sgs_len]; exact Nat.le_refl _)] at hS
    show wpAny _ A.in1 (ret Value.none) _ _ s'
    exact wpAny_pure (hR s' (hm.mono hsub) (hS.at fun o e => hm.heap S o hSw e))
  | succ k ih =>
    intro i s hk' hi hst hS hR
    have hlt : i < z.cps.size := by omega
    refine codeAny_builtin F.entry_set_update_loop ?_
    rw [Around.under_plainId F.plain_set_update_loop _]
    show wpAny _ A.in1 (pyNext (.ref I) >>= _) _ _ s
    refine wpAny_bind (W.item i s _ _ hlt hst fun v s' hP hst' hm => ?_)
    obtain ⟨c, t, hc, rfl⟩ := hP
    have hS' : SR w s'.heap S ((sgs z).take i) := hS.at fun o e => hm.heap S o hSw e
    show wpAny _ A.in1 (holding [Value.str ⟨#[c]⟩ t] (setAdd S (.str ⟨#[c]⟩ t)) >>= _) _ _ s'
    refine wpAny_bind (wpAny_holding ?_)
    unfold setAdd
    refine wpAny_holding ?_
    refine wpAny_bind ((PySem.strKind P w).pyHash (k := ⟨#[c]⟩) (strKind_is _ _ _ _) ?_)
    have hlen : ((sgs z).take i).length ≤ z.cps.size := by
      rw [List.length_take]
      exact Nat.le_trans (Nat.min_le_left _ _) hi
    refine sr_add (s := { s' with toks := s'.toks + 1 }) hS' (by omega) fun h' b0 hsb hS2 => ?_
    have e1 : (sgs z).take (i + 1) = (sgs z).take i ++ [(⟨#[c]⟩ : Str)] := by
      have h2 : (sgs z)[i]? = some ⟨#[c]⟩ := by
        unfold sgs
        rw [List.getElem?_map, Array.getElem?_toList, hc]
        rfl
      rw [List.take_succ, h2]
      rfl
    rw [← e1] at hS2
    refine wpAny_pure ⟨plainId_quiet F.plain_set_update_loop _, ih (i + 1) _ (by omega) hlt (W.frame _ s' _ _ hst' (Nat.le_succ _) fun b hb o e => ?_) hS2 fun s'' hm'' hS'' => ?_⟩
    · rw [hsb.2 b (fun h : b = S => hSf (by rw [← h]; exact hb))]
      exact e
    · refine hR s'' (Moved.trans W.gtrans ((hm.mono hsub).then_heap (Nat.le_succ _) fun b o hb e => ?_) hm'') hS''
      rw [hsb.2 b (fun h : b = S => hb (by rw [h]; exact List.mem_cons_self))]
      exact e
theorem sr_new {h : Heap} {a : Addr} (ho : h.get? a = some { cls := .type "set", dict := none, data := .set #[] 0 (.fresh 0 0 (!w.params.followText "set-order")) }) : SR w h a [] :=
  ⟨_, #[], 0, _, ho, ⟨rfl, rfl, rfl⟩, rfl, ⟨(fun e he => by simp at he), (by simp), (fun k => by simp), Nat.le_refl _⟩, (by rfl), List.Pairwise.nil, by
    show _ ∨ (!w.params.followText "set-order") = true
    cases w.params.followText "set-order"
    · exact .inr rfl
    · exact .inl rfl⟩
theorem call_setText {z : Str} {t : Tok} {Q : Value → Shared → Prop} (hh : A.handled = none) (hb : z.cps.size + 1 < scanBound)
    (h : ∀ (h' : Heap) (tk : Nat), SR w h' s.heap.objs.size (sgs z) → (∀ b o, s.heap.get? b = some o → h'.get? b = some o) → Q (.ref s.heap.objs.size) { s with heap := h', toks := tk }) :
    wpAny (model P w) A (call (.type "set") [.str z t]) Q E s := by
  obtain ⟨c, tl, hmro⟩ := F.called_set.mro
  have hmade := F.called_set.made
  have hsub := F.called_set.sub
  refine wpAny_call (codeAny_of_tree ?_)
  show wpAny _ _ (callAny (.type "set") _) _ _ _
  refine wpAny_pure ⟨Code.quiet_builtin _ (by decide +kernel), codeAny_builtin F.entry_type_call ?_⟩
  rw [Around.under_plain (weight_type_call_type "set" [.str z t] []) rfl]
  have h1 := F.called_set.notType
  have h2 := F.called_set.canCreate
  have hct := F.typeCall_set_1 (.str z t)
  repeat (any_goals (first | assumption | wp_step))
  refine codeAny_mono (code_set_led1 (.str z t) (E := E) (Q₁ := fun obj s₁ => obj = .ref s.heap.objs.size ∧ s₁ = { s with heap := s.heap.push { cls := .type "set", dict := none, data := .set #[] 0 (.fresh 0 0 (!w.params.followText "set-order")) } }) ⟨rfl, rfl⟩) fun r s₁ hr => ?_
  cases r with
  | error e => exact hr
  | ok fl =>
    cases fl with
    | ret obj =>
      obtain ⟨rfl, rfl⟩ := hr
      have hS : (s.heap.push { cls := .type "set", dict := none, data := .set #[] 0 (.fresh 0 0 (!w.params.followText "set-order")) }).get? s.heap.objs.size = some { cls := .type "set", dict := none, data := .set #[] 0 (.fresh 0 0 (!w.params.followText "set-order")) } := Heap.get?_push_size _ rfl
      have hT : Shared.TypeIs { s with heap := s.heap.push { cls := .type "set", dict := none, data := .set #[] 0 (.fresh 0 0 (!w.params.followText "set-order")) } } (.ref s.heap.objs.size) "set" := ⟨_, hS, rfl⟩
      have hli := F.called_set.init.lookup
      have hbi := F.called_set.init.bind (.ref s.heap.objs.size)
      repeat (any_goals (first | assumption | wp_step))
      refine codeAny_mono (codeAny_call_builtin (R := wants (fun r s₂ => r = .none ∧ ∃ h' tk, s₂ = { s with heap := h', toks := tk } ∧ SR w h' s.heap.objs.size (sgs z) ∧ (∀ b o, s.heap.get? b = some o → h'.get? b = some o)) E) F.called_set.init.plain F.entry_set_init (check_set_init_1 hT ?_)) fun r₂ s₂ hr₂ => ?_
      · have hsls := F.sub_str_set
        have hslf := F.sub_str_frozenset
        have hne : (Value.type "str" == Value.type "dict") = false := by decide
        generalize hS1 : s.heap.push { cls := .type "set", dict := none, data := .set #[] 0 (.fresh 0 0 (!w.params.followText "set-order")) } = h1 at hS hT ⊢
        have hz1 : h1.objs.size = s.heap.objs.size + 1 := by rw [← hS1]; exact Heap.size_push ..
        have hk1 : ∀ b o, s.heap.get? b = some o → h1.get? b = some o := fun b o e => by rw [← hS1]; exact Heap.get?_push_of_some _ e
        unfold Builtin.«set.__init__» noKeywords Builtin.Frozenset.updateFrom
        generalize hPI : pyIter = PI
        wp_walk
        subst hPI
        refine wpAny_pyIter_str fun o St hW hst => ?_
        refine wpAny_bind (wpAny_runValue ?_)
        have hh3 : A.in1.in1.in1.handled = none := by simp [hh]
        have hSf : s.heap.objs.size ∉ [h1.objs.size] := by
          rw [hz1, List.mem_singleton]
          exact Nat.ne_of_lt (Nat.lt_succ_self _)
        refine sr_loop ((hW A.in1.in1.in1 hh3).toS) s.heap.objs.size hSf hb (z.cps.size - 0) 0 _ (by omega) (Nat.zero_le _) hst (sr_new (Heap.get?_push_of_some _ hS)) fun s' hm hS' => ?_
        obtain ⟨h', g2, d', tk', os'⟩ := s'
        have eg : g2 = s.gens := hm.gens
        have ed : d' = s.drawn := hm.drawn
        have eo : os' = s.os := hm.os
        subst eg; subst ed; subst eo
        show wpAny _ _ _ _ _ _
        refine wpAny_pure ?_
        show wpAny _ _ (ret Value.none) _ _ _
        refine wpAny_pure ⟨rfl, h', tk', rfl, hS', fun b o2 e => ?_⟩
        have hb0 : b < s.heap.objs.size := Heap.lt_size e
        refine hm.heap b o2 ?_ (Heap.get?_push_of_some _ (hk1 b o2 e))
        simp only [List.mem_cons, List.mem_singleton, List.not_mem_nil, or_false, not_or]
        exact ⟨Nat.ne_of_lt hb0, by rw [hz1]; exact Nat.ne_of_lt (Nat.lt_succ_of_lt hb0)⟩
      · cases r₂ with
        | error e => exact hr₂
        | ok fl₂ =>
          cases fl₂ with
          | ret r =>
            obtain ⟨rfl, h', tk, rfl, hS', hk'⟩ := hr₂
            repeat (any_goals (first | assumption | wp_step))
            exact h _ _ hS' hk'
          | _ => exact hr₂.elim
    | _ => exact hr.elim
end
end WB

set_option Elab.async false
set_option linter.all false
set_option maxRecDepth 100000
set_option maxHeartbeats 4000000
namespace WB
open PySem PySem.Spec PyProof.Rows L2
section
variable {P : Program} {w : World} {A : Around} {E : Value → Shared → Prop} {s : Shared} {a : Addr} {L : List Str}
theorem sorted_texts {Q : Value → Shared → Prop} (R : SR w s.heap a L) (hh : A.handled = none) (h64 : ∀ ks : List Str, ks.Nodup → (∀ k ∈ ks, k ∈ L) → ks.length < 64)
    (hQ : ∀ s' p (out : Array Value) (c : Nat) (ys : List Str), (∀ b o, s.heap.get? b = some o → s'.heap.get? b = some o) → s'.gens = s.gens → s'.os = s.os → s.heap.objs.size ≤ p →
      s'.heap.get? p = some (seqObj "list" out c) → StrsAre out.toList ys → sortedS ys = true → ys.Nodup → (∀ k, k ∈ ys ↔ k ∈ L) → ys.length ≤ L.length → Q (.ref p) s') :
    wpAny (model P w) A (call (.builtin "sorted") [.ref a]) Q E s := by
  obtain ⟨o, es, ep, t, ho, hex, hd, ⟨g, nd, hm, hn⟩, hf, hr, hl⟩ := R
  have hes : es.size < 64 := by
    have := h64 (es.toList.map keyS) nd (fun k hk => (hm k).mpr hk)
    rw [List.length_map, Array.length_toList] at this
    exact this
  have hb : es.size < scanBound := Nat.lt_trans hes (by decide)
  refine Calls.call_function_entry kind_sorted plain_sorted entry_sorted (args_sorted1 _) ?_
  unfold Builtin.«sorted»
  refine wpAny_bind (m := checkCount "sorted" 1 1 _) (wpAny_pure ?_)
  refine wpAny_bind (collect_set (A := A.in1) hh ⟨o, ho, hex.1, hd⟩ hf hb hr hl fun s1 vs k1 hz g1 o1 pm => ?_)
  have hvl : vs.length < 64 := by
    rw [pm.length_eq, List.length_map, Array.length_toList]
    exact hes
  have hI : StrsAre vs (vs.map strOf) := strsAre_map vs fun v hv => by
    obtain ⟨e, he, q⟩ := List.mem_map.mp (pm.mem_iff.mp hv)
    obtain ⟨k, tk, h1, _⟩ := g e he
    exact ⟨k, tk, by rw [← q]; exact h1⟩
  have ek : (es.toList.map (·.2)).map strOf = es.toList.map keyS := by
    rw [List.map_map]
    refine List.map_congr_left fun e he => ?_
    obtain ⟨k, tk, h1, _⟩ := g e he
    show strOf e.2 = keyS e
    unfold keyS strOf
    rw [h1]
  have pk : (vs.map strOf).Perm (es.toList.map keyS) := by
    rw [← ek]
    exact pm.map strOf
  refine wpAny_bind (wpAny_newList ?_ (by rw [sizeLine_eq]; omega))
  have hoL : (s1.heap.push (seqObj "list" vs.toArray 0)).get? s1.heap.objs.size = some (seqObj "list" vs.toArray 0) := Heap.get?_push_size _ rfl
  refine wpAny_bind (wpAny_holding (wpAny_call_entry slot_list_sort ⟨_, hoL, rfl⟩ entry_list_sort
    (list_sort_treeK strKind_oneLt hoL hI.keysOf (fun v₁ v₂ rest e => keyKind_strs (ss := vs.map strOf) (by rw [← e]; exact hI)) hvl fun st' hp hs => ⟨_, rfl, ?_⟩) (args_list_sort _)))
  obtain ⟨ys, a1, a2, a3⟩ := sorted_out_str hI hp hs
  obtain ⟨c, hc⟩ := sortedHeap_at (vs := vs) (out := (arrOf st').map (·.2)) hoL
  have pn : ys.Perm (es.toList.map keyS) := a2.trans pk
  refine wpAny_pure ⟨_, rfl, hQ _ s1.heap.objs.size _ c ys (fun b u e => ?_) g1 o1 hz hc a1 a3 (pn.nodup_iff.mpr nd) (fun k => by rw [pn.mem_iff, ← hm k]) ?_⟩
  · have q := k1 b u e
    have hlt := Heap.lt_size q
    show (sortedHeap (s1.heap.push (seqObj "list" vs.toArray 0)) s1.heap.objs.size vs _).get? b = some u
    rw [sortedHeap_old (Nat.ne_of_lt hlt) (by rw [size_push']; exact Nat.lt_succ_of_lt hlt)]
    exact Heap.get?_push_of_some _ q
  · rw [pn.length_eq, List.length_map, Array.length_toList]
    exact hn
end
theorem nodup_len {α : Type} [DecidableEq α] : ∀ {ks L : List α}, ks.Nodup → (∀ k ∈ ks, k ∈ L) → ks.length ≤ L.length
  | [], _, _, _ => Nat.zero_le _
  | k :: r, L, nd, h => by
    have hk := h k List.mem_cons_self
    obtain ⟨n1, n2⟩ := List.nodup_cons.mp nd
    have := nodup_len (ks := r) (L := L.erase k) n2 fun x hx => (List.mem_erase_of_ne (fun e => n1 (by subst e; exact hx))).mpr (h x (List.mem_cons_of_mem _ hx))
    rw [List.length_erase_of_mem hk] at this
    have pos : 0 < L.length := List.length_pos_of_mem hk
    rw [List.length_cons]
    omega
/-- the letters of a short text are few -/
theorem few_of_short {z : Str} (h : z.length < 64) : z.length < 99 ∧ ∀ ks : List Str, ks.Nodup → (∀ k ∈ ks, k ∈ sgs z) → ks.length < 64 := ⟨by omega, fun ks nd hk => by
  have := nodup_len nd hk
  rw [sgs_len] at this
  exact Nat.lt_of_le_of_lt this h⟩
/-- sorted(set(x)), x a short text -/
def tSortSet (ta : TE) : TE := fun σ H Q => ta σ H fun x H1 => ∃ z : Str, x = .str z ∧ (z.length < 99 ∧ ∀ ks : List Str, ks.Nodup → (∀ k ∈ ks, k ∈ sgs z) → ks.length < 64) ∧ ∀ (ys : List Str) p, sortedS ys = true → ys.Nodup → (∀ k, k ∈ ys ↔ k ∈ sgs z) → ys.length < 64 → H1 p = none → Q (.ref p) (upd H1 p (.lst (ys.map V.str)))
theorem pe_sortSet {X : Cx} {a : Expr} {ta : TE} {p p2 q pos : Pos} (hc : X.calm = true) (hg : Gl X "sorted") (hm : X.mg "sorted" = none) (hg2 : Gl X "set") (hm2 : X.mg "set" = none) (ha : PE X a ta)
    (na : starEach [a] X.env = (false, eval a X.env) :: starEach [] X.env := by rfl) : PE X (.Call (.Name "sorted" p) [.Call (.Name "set" p2) [a] [] q] [] pos) (tSortSet ta) := by
  refine ⟨fun pins s σ H Q I h => ?_⟩
  refine Call_ (ld_blt I hg hm boot_sorted ?_)
  refine PyProof.Rows.callWith_builtin1 (PyProof.Rows.args_cons ?_ rfl) rfl rfl
  refine Call_ (ld_blt I hg2 hm2 boot_set ?_)
  refine PyProof.Rows.callWith_type1 (PyProof.Rows.args_cons (thn (ha.run pins s σ H _ I h) fun v s1 ⟨x, H1, I1, r1, q1⟩ => PyProof.Rows.args_nil ?_) na) na rfl
  obtain ⟨z, rfl, hz, q1⟩ := q1
  obtain ⟨t, rfl⟩ := r1
  have hz2 : z.cps.size < 99 := hz.1
  refine call_setText (I1.ok.hd hc) (Nat.lt_trans (Nat.succ_lt_succ hz2) (by decide)) fun h' tk hS hk => ?_
  refine PyProof.Rows.args_nil ?_
  have I2 : Inv X pins σ H1 { s1 with heap := h', toks := tk } := I1.kept hk
  have R2 : SR X.w ({ s1 with heap := h', toks := tk } : Shared).heap s1.heap.objs.size (sgs z) := hS
  refine sorted_texts R2 (I2.ok.hd hc) hz.2 fun s' p out c ys k g o hp hg hi hs nd hm hl => ?_
  have hl64 : ys.length < 64 := hz.2 ys nd fun k hk => (hm k).mp hk
  have hlen : (ys.map V.str).length ≤ sizeLine := by rw [List.length_map, sizeLine_eq]; omega
  have hn : H1 p = none := I2.hok.fresh hp
  have J : Inv X pins σ (upd H1 p (.lst (ys.map V.str))) { ({ s1 with heap := h', toks := tk } : Shared) with heap := s'.heap, gens := s'.gens, drawn := s'.drawn, toks := s'.toks } :=
    I2.call (ch := []) (Un.laid k hp hn) (I2.hok.laid k hp ⟨hlen, out.toList, c, vals_of_strs hi, hg⟩) (by rw [g]; exact I2.bare) (fun _ z => nomatch z)
  have e : s' = { ({ s1 with heap := h', toks := tk } : Shared) with heap := s'.heap, gens := s'.gens, drawn := s'.drawn, toks := s'.toks } := by
    cases s'
    cases s1
    cases o
    rfl
  rw [e]
  exact ⟨.ref p, _, J, rfl, q1 ys p hs nd hm hl64 hn⟩
end WB

set_option Elab.async false
set_option linter.all false
set_option maxRecDepth 100000
set_option maxHeartbeats 4000000
namespace WB
open PySem L2
/-! ### the stream of draws of the programs' laws -/
def StrA (H : Hp) (p q : Addr) (n : Nat) : Prop := ∃ (c s i : Int) (ns : List Int),
  H p = some (.lst [.int c, .int s, .int i, .ref q]) ∧ H q = some (.lst (ns.map V.int)) ∧ 0 < ns.length ∧ ns.length ≤ 64 ∧ 0 ≤ s ∧ s < 2 ^ 40 ∧ 0 ≤ i ∧ i ≤ ((n : Nat) : Int)
theorem StrA.same {H H' : Hp} {p q : Addr} {n : Nat} (h : StrA H p q n) (e : Same H H') : StrA H' p q n := by
  obtain ⟨c, s, i, ns, h1, h2, h3⟩ := h
  exact ⟨c, s, i, ns, e _ _ h1, e _ _ h2, h3⟩
theorem StrA.mono {H : Hp} {p q : Addr} {n m : Nat} (h : StrA H p q n) (e : n ≤ m) : StrA H p q m := by
  obtain ⟨c, s, i, ns, h1, h2, h3, h4, h5, h6, h7, h8⟩ := h
  exact ⟨c, s, i, ns, h1, h2, h3, h4, h5, h6, h7, by omega⟩
theorem StrA.pq {H : Hp} {p q : Addr} {n : Nat} (h : StrA H p q n) : q ≠ p := fun e => by
  obtain ⟨c, s, i, ns, h1, h2, h3⟩ := h
  rw [e, h1] at h2
  have z := HO.lst.inj (Option.some.inj h2)
  match ns, z with
  | [_, _, _, a], z => cases z
def spNums (K : PySem.W.Frag) : Sp := fun vs H Q _ => ∃ (a : Addr) (ns : List Int) (j : Nat), vs = [.ref a, .int (j : Int)] ∧ SqL K H a (ns.map V.int) ∧ ns.length ≤ 63 ∧ j < 63 ∧
  ∀ H' p q, Same H H' → H p = none → H q = none → StrA H' p q 200 → Q (.ref p) H'
def spDraw : Sp := fun vs H Q _ => ∃ (p q : Addr) (m : Int) (n : Nat), vs = [.ref p, .int m] ∧ StrA H p q n ∧ n < 2 ^ 60 ∧ 0 < m ∧ m < 2 ^ 200 ∧
  ∀ H' (d : Int), Bar p H H' → StrA H' p q (n + 1) → 0 ≤ d → d < m → Q (.int d) H'
def spOfS (K : PySem.W.Frag) : Sp := fun vs H Q _ => ∃ (p q l : Addr) (xs : List V) (n : Nat), vs = [.ref p, .ref l] ∧ StrA H p q n ∧ n < 2 ^ 60 ∧ l ≠ p ∧ H l = some (.lst xs) ∧ 0 < xs.length ∧ xs.length < 1000 ∧
  ∀ H' x, Bar p H H' → StrA H' p q (n + 1) → x ∈ xs → Q x H'
def spPick : Sp := fun vs H Q _ => ∃ (p q : Addr) (z : Str) (m n : Nat), vs = [.ref p, .str z, .int (m : Nat)] ∧ StrA H p q n ∧ n < 2 ^ 59 ∧ z.length ≤ 52 ∧ m ≤ z.length ∧
  ∀ H' (r : Str), Bar p H H' → StrA H' p q (n + 52) → r.length = m → (∀ c ∈ r.cps.toList, c ∈ z.cps.toList) → (z.cps.toList.Nodup → r.cps.toList.Pairwise (· < ·)) → Q (.str r) H'
theorem log_small {m : Int} (hm : 0 < m) (hm2 : m < 2 ^ 200) : CDivW 0 m := by
  refine ⟨hm, ?_⟩
  have h : m.natAbs < 2 ^ 200 := by omega
  have x := PySem.Flt.log2_lt_of (k := 200) (by decide) h
  omega
end WB
namespace WB
open PySem L2
theorem sgs_map : ∀ {ys : List Str} {z : Str}, (∀ y ∈ ys, y ∈ sgs z) → ∃ cs : List Nat, ys = cs.map (fun c => S [c]) ∧ ∀ c ∈ cs, c ∈ z.cps.toList
  | [], _, _ => ⟨[], rfl, fun _ h => absurd h List.not_mem_nil⟩
  | y :: r, z, h => by
    obtain ⟨cs, e, hc⟩ := sgs_map (ys := r) (z := z) fun b hb => h b (List.mem_cons_of_mem _ hb)
    obtain ⟨c, hcz, ec⟩ := List.mem_map.mp (show y ∈ z.cps.toList.map fun c => (⟨#[c]⟩ : Str) from h y List.mem_cons_self)
    refine ⟨c :: cs, ?_, fun d hd => ?_⟩
    · rw [List.map_cons, ← e, ← ec]
    · rcases List.mem_cons.mp hd with q | q
      · rw [q]
        exact hcz
      · exact hc d q
theorem map_erase {α β : Type} (f : α → β) : ∀ (l : List α) (j : Nat), (l.map f).eraseIdx j = (l.eraseIdx j).map f
  | [], _ => rfl
  | _ :: _, 0 => rfl
  | a :: r, j + 1 => by
    show f a :: (r.map f).eraseIdx j = _
    rw [map_erase f r j]
    rfl
theorem S_list (l : List Nat) : (S l).cps.toList = l := by simp [S]
theorem one_sum : ∀ (cs : List Nat), ((cs.map fun c => S [c]).map (fun x => x.length)).sum = cs.length
  | [] => rfl
  | c :: r => by
    rw [List.map_cons, List.map_cons, List.sum_cons, one_sum r, List.length_cons]
    exact Nat.add_comm 1 _
theorem StrA.put {H : Hp} {p q x : Addr} {n : Nat} {o : HO} (h : StrA H p q n) (a : x ≠ p) (b : x ≠ q) : StrA (upd H x o) p q n := by
  obtain ⟨c, s, i, ns, h1, h2, h3⟩ := h
  exact ⟨c, s, i, ns, (upd_ne a.symm).trans h1, (upd_ne b.symm).trans h2, h3⟩
theorem StrA.ne {H : Hp} {p q x : Addr} {n : Nat} (h : StrA H p q n) (e : H x = none) : x ≠ p ∧ x ≠ q := by
  obtain ⟨c, s, i, ns, h1, h2, h3⟩ := h
  refine ⟨fun z => ?_, fun z => ?_⟩
  · rw [z, h1] at e
    cases e
  · rw [z, h2] at e
    cases e
end WB

set_option Elab.async false
set_option linter.all false
set_option maxRecDepth 100000
set_option maxHeartbeats 4000000
namespace WB
open PySem L2
/-! ### drawn texts of programs, told by their lengths alone -/
def spMarksD : Sp := fun vs H Q _ => ∃ (p q : Addr) (n : Nat), vs = [.ref p, .int 0, .int 3] ∧ StrA H p q n ∧ n < 2 ^ 58 ∧ ∀ H' z, Bar p H H' → StrA H' p q (n + 110) → Sm 6 z → Q (.str z) H'
def spDC : Sp := fun vs H Q _ => ∃ (p q : Addr) (m : Str) (n : Nat), vs = [.ref p, .str m] ∧ StrA H p q n ∧ n < 2 ^ 58 ∧ Sm 3 m ∧ m.length ≤ 3 ∧ ∀ H' z, Bar p H H' → StrA H' p q (n + 3) → Sm 3 z → Q (.str z) H'
def spResv : Sp := fun vs H Q _ => ∃ u : Unit, vs = [] ∧ ∀ H' l, Same H H' → H l = none → H' l = some (.lst (RESV.map V.str)) → Q (.ref l) H'
def spTermD : Sp := fun vs H Q _ => ∃ (p q l : Addr) (ws : List Str) (m : Str) (n : Nat), vs = [.ref p, .ref l, .str m] ∧ StrA H p q n ∧ n < 2 ^ 57 ∧ l ≠ p ∧ H l = some (.lst (ws.map V.str)) ∧ ws.length ≤ 20 ∧ (∀ z ∈ ws, Sm 8 z) ∧ Sm 3 m ∧
  ∀ H' z, Bar p H H' → StrA H' p q (n + 5) → Sm 8 z → Q (.str z) H'
def spSumD : Sp := fun vs H Q _ => ∃ (p q l : Addr) (ws : List Str) (m : Str) (n : Nat), vs = [.ref p, .ref l, .str m] ∧ StrA H p q n ∧ n < 2 ^ 56 ∧ l ≠ p ∧ H l = some (.lst (ws.map V.str)) ∧ ws.length ≤ 20 ∧ (∀ z ∈ ws, Sm 8 z) ∧ Sm 3 m ∧
  ∀ H' z, Bar p H H' → StrA H' p q (n + 11) → Sm 19 z → Q (.str z) H'
def spBindD : Sp := fun vs H Q _ => ∃ (p q l : Addr) (z : Str) (ws : List Str) (m : Str) (n : Nat), vs = [.ref p, .str z, .ref l, .str m] ∧ StrA H p q n ∧ n < 2 ^ 55 ∧ l ≠ p ∧ H l = some (.lst (ws.map V.str)) ∧ ws.length ≤ 20 ∧ (∀ z ∈ ws, Sm 8 z) ∧ Sm 8 z ∧ Sm 3 m ∧
  ∀ H' z, Bar p H H' → StrA H' p q (n + 20) → Sm 30 z → Q (.str z) H'
def spRowD : Sp := fun vs H Q _ => ∃ (p q l : Addr) (ws : List Str) (m : Str) (n : Nat), vs = [.ref p, .ref l, .str m] ∧ StrA H p q n ∧ n < 2 ^ 54 ∧ l ≠ p ∧ H l = some (.lst (ws.map V.str)) ∧ 0 < ws.length ∧ ws.length ≤ 20 ∧ (∀ z ∈ ws, Sm 8 z) ∧ Sm 3 m ∧
  ∀ H' z, Bar p H H' → StrA H' p q (n + 30) → Sm 30 z → Q (.str z) H'
end WB
namespace WB
open PySem L2
theorem sm_lit {z : Str} {n : Nat} (h : z.length ≤ n := by decide) (h2 : (z.cps.toList.all fun c => decide (c < 1000 ∧ c ≠ 10)) = true := by decide +kernel) : Sm n z := ⟨h, fun c hc => of_decide_eq_true (List.all_eq_true.mp h2 c hc)⟩
theorem Sm.mono {n m : Nat} {z : Str} (h : Sm n z) (e : n ≤ m) : Sm m z := ⟨Nat.le_trans h.1 e, h.2⟩
theorem mulok_two {z : Str} {d : Int} (d0 : 0 ≤ d) (d1 : d < 2) : PySem.MulOk z d := by
  have h : d = 0 ∨ d = 1 := by omega
  rcases h with rfl | rfl
  · exact ⟨by decide, fun h => absurd (by decide) h, fun h => absurd (by decide) h⟩
  · exact ⟨by decide, fun _ h => (by cases h), fun _ h => (by cases h)⟩
theorem mul_two {c : Nat} {d : Int} (d0 : 0 ≤ d) (d1 : d < 2) : Txt.mul ⟨#[c]⟩ d = S [] ∨ Txt.mul ⟨#[c]⟩ d = ⟨#[c]⟩ := by
  have h : d = 0 ∨ d = 1 := by omega
  rcases h with rfl | rfl
  · exact .inl rfl
  · exact .inr rfl
end WB

set_option Elab.async false
set_option linter.all false
set_option maxRecDepth 100000
set_option maxHeartbeats 4000000
namespace WB
open PySem L2
/-! ### drawn words -/
def WordS (z : Str) : Prop := 1 ≤ z.length ∧ z.length ≤ 8 ∧ ∀ c ∈ z.cps.toList, c ∈ LETS
theorem lets_lt {c : Nat} (h : c ∈ LETS) : c < 1000 ∧ c ≠ 10 := of_decide_eq_true (List.all_eq_true.mp (show (LETS.all fun c => decide (c < 1000 ∧ c ≠ 10)) = true by decide +kernel) c h)
theorem WordS.sm {z : Str} (h : WordS z) : Sm 8 z := ⟨h.2.1, fun c hc => lets_lt (h.2.2 c hc)⟩
theorem lets_mem {k : Nat} (h : k < 26) : 97 + k ∈ LETS := by
  unfold LETS
  rw [List.mem_range'_1]
  omega
theorem lets_of {c : Nat} (h : c ∈ LETS) : ∃ k, k < 26 ∧ c = 97 + k := by
  unfold LETS at h
  rw [List.mem_range'_1] at h
  exact ⟨c - 97, by omega, by omega⟩
theorem lower_ok {c : Nat} (h : c ∈ mk) : ∃ d, Txt.lower ⟨#[c]⟩ = ⟨#[d]⟩ ∧ d ∈ LETS := by
  have hall : (mk.all fun c => LETS.any fun d => Txt.lower ⟨#[c]⟩ == (⟨#[d]⟩ : Str)) = true := by decide +kernel
  obtain ⟨d, hd, e⟩ := List.any_eq_true.mp (List.all_eq_true.mp hall c h)
  exact ⟨d, beq_iff_eq.mp e, hd⟩
theorem find_ok {k : Nat} (h : k < 26) : Txt.find "abcdefghijklmnopqrstuvwxyz" ⟨#[97 + k]⟩ = (k : Int) := by
  have hall : ((List.range 26).all fun k => Txt.find "abcdefghijklmnopqrstuvwxyz" ⟨#[97 + k]⟩ == ((k : Nat) : Int)) = true := by decide +kernel
  exact beq_iff_eq.mp (List.all_eq_true.mp hall k (List.mem_range.mpr h))
theorem pig : ∀ {l m : List Str}, l.Nodup → (∀ a ∈ l, a ∈ m) → l.length ≤ m.length
  | [], _, _, _ => Nat.zero_le _
  | a :: r, m, nd, h => by
    obtain ⟨n1, n2⟩ := List.nodup_cons.mp nd
    have ha := h a List.mem_cons_self
    have ih := pig (l := r) (m := m.erase a) n2 fun b hb => (List.mem_erase_of_ne (fun e => n1 (by rw [← e]; exact hb))).mpr (h b (List.mem_cons_of_mem _ hb))
    have e := List.length_erase_of_mem ha
    have hp : 0 < m.length := List.length_pos_of_mem ha
    show r.length + 1 ≤ _
    omega
/-- the word with its last letter turned on by t -/
def vr (pre : List Nat) (k : Nat) : Str := S (pre ++ [97 + k % 26])
theorem vr_inj {pre : List Nat} {a b : Nat} (h : vr pre a = vr pre b) : a % 26 = b % 26 := by
  have e : (vr pre a).cps.toList = (vr pre b).cps.toList := by rw [h]
  unfold vr at e
  rw [S_list, S_list] at e
  have e2 := List.append_cancel_left e
  have e3 := (List.cons.inj e2).1
  omega
theorem vr_nodup {pre : List Nat} {k0 : Nat} : ∀ n, n ≤ 26 → ((List.range n).map fun t => vr pre (k0 + t)).Nodup
  | 0, _ => List.nodup_nil
  | n + 1, h => by
    rw [List.range_succ, List.map_append, List.nodup_append]
    refine ⟨vr_nodup n (by omega), List.nodup_cons.mpr ⟨List.not_mem_nil, List.nodup_nil⟩, fun a ha b hb e => ?_⟩
    obtain ⟨t, ht, e1⟩ := List.mem_map.mp ha
    have ht := List.mem_range.mp ht
    have e2 : b = vr pre (k0 + n) := List.mem_singleton.mp hb
    rw [← e1, e2] at e
    have := vr_inj e
    omega
theorem vr_free {pre : List Nat} {k0 : Nat} {fb : List Str} (h : fb.length < 26) : ∃ j, j < 26 ∧ vr pre (k0 + j) ∉ fb := by
  refine Classical.byContradiction fun no => ?_
  have all : ∀ a ∈ (List.range 26).map fun t => vr pre (k0 + t), a ∈ fb := fun a ha => by
    obtain ⟨t, ht, rfl⟩ := List.mem_map.mp ha
    exact Classical.byContradiction fun c => no ⟨t, List.mem_range.mp ht, c⟩
  have := pig (vr_nodup 26 (Nat.le_refl _)) all
  rw [List.length_map, List.length_range] at this
  omega
theorem cut_pre {z : Str} {i : Nat} : (cutS z none (some (i : Int))).length ≤ i := by
  show ((List.take _ _).toArray).size ≤ i
  rw [List.size_toArray, List.length_take, HT.sIx_nat]
  exact Nat.le_trans (Nat.min_le_left _ _) (Nat.le_trans (Nat.sub_le _ _) (Nat.min_le_left _ _))
theorem cut_post {z : Str} {i : Nat} : (cutS z (some (i : Int)) none).length ≤ z.length - i := by
  show ((List.take _ _).toArray).size ≤ _
  rw [List.size_toArray, List.length_take, HT.sIx_nat, HT.sIx_none]
  refine Nat.le_trans (Nat.min_le_left _ _) ?_
  rcases Nat.le_total i z.length with h | h
  · rw [Nat.min_eq_left h]
    exact Nat.le_refl _
  · rw [Nat.min_eq_right h]
    omega
theorem cut_init_s {pre : List Nat} {c : Nat} : cutS (S (pre ++ [c])) none (some (-1)) = S pre := by
  unfold cutS
  have e : HT.sIx (S (pre ++ [c])).length (S (pre ++ [c])).length (some (-1)) = pre.length := by
    show (if (-1 : Int) < 0 then ((-1 : Int) + ((S (pre ++ [c])).length : Int)).toNat else min (-1 : Int).toNat (S (pre ++ [c])).length) = _
    rw [if_pos (by decide), SX.S_len, List.length_append]
    show ((-1 : Int) + ((pre.length + 1 : Nat) : Int)).toNat = _
    omega
  rw [e, HT.sIx_none, S_list, List.drop_zero, Nat.sub_zero]
  have t : (pre ++ [c]).take pre.length = pre := List.take_left
  rw [t]
theorem cut_sub {z : Str} {lo hi : Option Int} {c : Nat} (h : c ∈ (cutS z lo hi).cps.toList) : c ∈ z.cps.toList := List.mem_of_mem_drop (List.mem_of_mem_take h)
section
open C8
theorem pe_c0 {X : Cx} {k j : Nat} {x : Str} {sp : Sp} {dvs : List V} {p pos : Pos} (c : C8.Cal X.prog X.w X.K X.mg X.base k x sp dvs) (hr : Room j X.A) (hk : k ≤ j) (hg : Gl X x) (hdb : (x == ("__debug__" : Str)) = false := by decide) :
    PE X (.Call (.Name x p) [] [] pos) (tCall sp dvs C8.E0 tNil) := by
  obtain ⟨f, fd, ps, ds, F, hm, kp, b, d⟩ := c.ex
  exact pe_call0 F (hr.mono hk) hg hm kp b d C8.pass0 hdb
end
def WordV (z : Str) : Prop := 1 ≤ z.length ∧ z.length ≤ 3 ∧ ∀ c ∈ z.cps.toList, c ∈ mk
def spWord1 : Sp := fun vs H Q _ => ∃ (p q l : Addr) (ws : List Str) (m : Str) (n : Nat), vs = [.ref p, .ref l, .str m, .int 8] ∧ StrA H p q n ∧ n < 2 ^ 58 ∧ l ≠ p ∧ H l = some (.lst (ws.map V.str)) ∧ ws.length ≤ 8 ∧ (∀ z ∈ ws, WordS z) ∧ WordV m ∧
  ∀ H' z, Bar p H H' → StrA H' p q (n + 20) → WordS z → Q (.str z) H'
def spWords : Sp := fun vs H Q _ => ∃ (p q l : Addr) (ws : List Str) (m : Str) (k n : Nat), vs = [.ref p, .ref l, .str m, .int (k : Nat), .int 8] ∧ StrA H p q n ∧ n < 2 ^ 57 ∧ l ≠ p ∧ H l = some (.lst (ws.map V.str)) ∧ ws.length + k ≤ 8 ∧ (∀ z ∈ ws, WordS z) ∧ WordV m ∧
  ∀ H' r (vs : List Str), Bar p H H' → StrA H' p q (n + 20 * k) → H r = none → H' r = some (.lst (vs.map V.str)) → vs.length = k → (∀ z ∈ vs, WordS z) → Q (.ref r) H'
end WB
namespace WB
open PySem L2
def LTR : Str := "abcdefghijklmnopqrstuvwxyz"
theorem at26 {j : Nat} (h : j < 26) : atI (LTR.cps.toList) ((j : Nat) : Int) = some (97 + j) := by
  refine atI_nat ?_
  have e : LTR.cps.toList = LETS := by
    show ("abcdefghijklmnopqrstuvwxyz" : Str).cps.toList = LETS
    rw [lets_eq, S_list]
  rw [e]
  unfold LETS
  rw [List.getElem?_range' (by omega)]
  rw [Nat.one_mul]
theorem WordS.split {z : Str} (h : WordS z) : ∃ (pre : List Nat) (k0 : Nat), z = vr pre k0 ∧ (∀ c ∈ pre, c ∈ LETS) ∧ pre.length ≤ 7 := by
  obtain ⟨h1, h2, h3⟩ := h
  obtain ⟨⟨l⟩⟩ := z
  have hne : l ≠ [] := fun e => by
    rw [e] at h1
    exact absurd h1 (by decide)
  have e := List.dropLast_concat_getLast hne
  obtain ⟨k, hk, ek⟩ := lets_of (h3 _ (List.getLast_mem hne))
  refine ⟨l.dropLast, k, ?_, fun c hc => h3 c ((List.dropLast_sublist l).subset hc), ?_⟩
  · unfold vr
    rw [Nat.mod_eq_of_lt hk, ← ek, e]
  · have : l.length ≤ 8 := h2
    rw [List.length_dropLast]
    omega
theorem vr_word {pre : List Nat} {k : Nat} (h : ∀ c ∈ pre, c ∈ LETS) (h7 : pre.length ≤ 7) : WordS (vr pre k) := by
  unfold vr
  refine ⟨?_, ?_, fun c hc => ?_⟩
  · rw [SX.S_len, List.length_append]
    exact Nat.le_add_left 1 _
  · rw [SX.S_len, List.length_append]
    exact Nat.succ_le_succ h7
  · rw [S_list] at hc
    rcases List.mem_append.mp hc with q | q
    · exact h c q
    · rw [List.mem_singleton.mp q]
      exact lets_mem (Nat.mod_lt _ (by decide))
theorem vr_next {pre : List Nat} {k : Nat} : S pre ++ (⟨#[97 + (k % 26 + 1) % 26]⟩ : Str) = vr pre (k + 1) := by
  have e : (k % 26 + 1) % 26 = (k + 1) % 26 := by omega
  rw [e]
  show S pre ++ S [97 + (k + 1) % 26] = S (pre ++ [97 + (k + 1) % 26])
  exact SX.S_cat _ _
theorem WordS.line {z : Str} (h : WordS z) : z.length ≤ sizeLine := Nat.le_trans h.2.1 (by decide)
/-- a word with one letter put in another's place -/
theorem word_put {z : Str} {e : Nat} {c : Nat} (h : WordS z) (he : e < z.length) (hc : c ∈ LETS) : WordS ((cutS z none (some (e : Int)) ++ (⟨#[c]⟩ : Str)) ++ cutS z (some ((e : Int) + 1)) none) := by
  have h1 := cut_pre (z := z) (i := e)
  have h2 := cut_post (z := z) (i := e + 1)
  have h8 := h.2.1
  have e1 : ((⟨#[c]⟩ : Str)).length = 1 := rfl
  refine ⟨?_, ?_, fun d hd => ?_⟩
  · rw [Str.length_append, Str.length_append, e1]
    omega
  · rw [Str.length_append, Str.length_append, e1]
    have : (cutS z (some ((e : Int) + 1)) none).length ≤ z.length - (e + 1) := h2
    omega
  · rw [Str.cps_append, Array.toList_append, Str.cps_append, Array.toList_append] at hd
    rcases List.mem_append.mp hd with hd | hd
    · rcases List.mem_append.mp hd with hd | hd
      · exact h.2.2 d (cut_sub hd)
      · have : d = c := by simpa using hd
        rw [this]
        exact hc
    · exact h.2.2 d (cut_sub hd)
end WB

set_option Elab.async false
set_option linter.all false
set_option maxRecDepth 100000
set_option maxHeartbeats 4000000
namespace WB
open PySem L2
def spPlainsD (K : PySem.W.Frag) : Sp := fun vs H Q _ => ∃ (p q l1 l2 : Addr) (ks fs : List Str) (m : Str) (n : Nat), vs = [.ref p, .ref l1, .ref l2, .int 6, .str m] ∧ StrA H p q n ∧ n < 2 ^ 50 ∧ l1 ≠ p ∧ l2 ≠ p ∧ H l1 = some (.lst (ks.map V.str)) ∧ H l2 = some (.lst (fs.map V.str)) ∧
  ks.length ≤ 8 ∧ fs.length ≤ 6 ∧ (∀ z ∈ ks, Sm 8 z) ∧ (∀ z ∈ fs, Sm 8 z) ∧ Sm 3 m ∧ ∀ H' r (rs : List Str), Bar p H H' → StrA H' p q (n + 400) → H r = none → H' r = some (.lst (rs.map V.str)) → rs.length ≤ 6 → (∀ z ∈ rs, Sm 30 z) → Q (.ref r) H'
def spTestD : Sp := fun vs H Q _ => ∃ (p q l : Addr) (ws : List Str) (m : Str) (n : Nat), vs = [.ref p, .ref l, .str m] ∧ StrA H p q n ∧ n < 2 ^ 54 ∧ l ≠ p ∧ H l = some (.lst (ws.map V.str)) ∧ 0 < ws.length ∧ ws.length ≤ 20 ∧ (∀ z ∈ ws, Sm 8 z) ∧ Sm 3 m ∧ 1 ≤ m.length ∧
  ∀ H' z, Bar p H H' → StrA H' p q (n + 30) → Sm 30 z → Q (.str z) H'
def spLastD : Sp := fun vs H Q _ => ∃ (p q l : Addr) (ws : List Str) (m : Str) (n : Nat), vs = [.ref p, .ref l, .str m] ∧ StrA H p q n ∧ n < 2 ^ 54 ∧ l ≠ p ∧ H l = some (.lst (ws.map V.str)) ∧ ws.length ≤ 20 ∧ (∀ z ∈ ws, Sm 8 z) ∧ Sm 3 m ∧
  ∀ H' z, Bar p H H' → StrA H' p q (n + 30) → Sm 30 z → Q (.str z) H'
def spWorkD : Sp := fun vs H Q _ => ∃ (p q l : Addr) (ws : List Str) (m : Str) (n : Nat), vs = [.ref p, .ref l, .str m, .int 16, .int 1] ∧ StrA H p q n ∧ n < 2 ^ 50 ∧ l ≠ p ∧ H l = some (.lst (ws.map V.str)) ∧ 0 < ws.length ∧ ws.length ≤ 20 ∧ (∀ z ∈ ws, Sm 8 z) ∧ Sm 3 m ∧ 1 ≤ m.length ∧
  ∀ H' r (rs : List Str), Bar p H H' → StrA H' p q (n + 2000) → H r = none → H' r = some (.lst (rs.map V.str)) → rs.length ≤ 16 → (∀ z ∈ rs, Sm 30 z) → Q (.ref r) H'
end WB
namespace WB
open PySem L2
theorem ifs_join {c : TT} {t u : TS} {D : Ends} {σ : L2.St} {H : Hp} (C : Bool → Hp → Prop) (h1 : ∀ Q' : Bool → Hp → Prop, (∀ b H', C b H' → Q' b H') → c σ H Q') (ht : ∀ H', C true H' → t D σ H') (hu : ∀ H', C false H' → u D σ H') : tIfS c t u D σ H :=
  h1 _ fun b H' h => by
    cases b with
    | true => exact iteT (ht H' h)
    | false => exact iteF (hu H' h)
theorem eqv_nil {ws : List Str} : PyData.eqv (.list (ws.map PyData.str)) (.list []) = decide (ws.length = 0) := by
  cases ws <;> rfl
theorem eqv_nilB {bs : List Bool} : PyData.eqv (.list (bs.map PyData.bool)) (.list []) = decide (bs.length = 0) := by
  cases bs <;> rfl
end WB
namespace WB
open PySem L2
theorem ixN_last {n : Nat} (h : 0 < n) : ixN n (-1) = some (n - 1) := by
  unfold ixN
  rw [if_neg (by decide), if_pos (by omega)]
  congr 1
  omega
theorem atI_last' {bs : List Bool} (h : 0 < bs.length) : ∃ b, atI (bs.map V.bl) (-1) = some (V.bl b) ∧ (bs.map V.bl)[(bs.map V.bl).length - 1]? = some (V.bl b) := by
  have e : (bs.map V.bl).length - 1 < (bs.map V.bl).length := by
    rw [List.length_map]
    omega
  refine ⟨bs[bs.length - 1]'(by omega), ?_, ?_⟩
  · unfold atI
    rw [ixN_last (by rw [List.length_map]; exact h)]
    show (bs.map V.bl)[(bs.map V.bl).length - 1]? = _
    rw [List.getElem?_map, List.length_map, List.getElem?_eq_getElem (by omega)]
    rfl
  · rw [List.getElem?_map, List.length_map, List.getElem?_eq_getElem (by omega)]
    rfl
end WB

set_option Elab.async false
set_option linter.all false
set_option maxRecDepth 100000
set_option maxHeartbeats 4000000
namespace WB
open PySem PySem.Spec L2 PyProof.Rows
/-! ### sorted(set(text)), read -/
theorem rising_one : ∀ (cs : List Nat) (p : Nat), risingS (S [p]) (cs.map fun c => S [c]) = true → (∀ c ∈ cs, p ≤ c) ∧ cs.Pairwise (· ≤ ·)
  | [], _, _ => ⟨fun _ h => absurd h List.not_mem_nil, .nil⟩
  | c :: r, p, h => by
    have e : risingS (S [p]) ((c :: r).map fun c => S [c]) = (!ltCps [c] [p] && risingS (S [c]) (r.map fun c => S [c])) := rfl
    rw [e, Bool.and_eq_true] at h
    obtain ⟨h1, h2⟩ := h
    obtain ⟨a, b⟩ := rising_one r c h2
    have hpc : p ≤ c := by
      rw [ltCps_eq] at h1
      have : ¬ ([c] < [p]) := by simpa using h1
      rw [lt_one] at this
      omega
    refine ⟨fun d hd => ?_, List.pairwise_cons.mpr ⟨a, b⟩⟩
    rcases List.mem_cons.mp hd with q | q
    · rw [q]
      exact hpc
    · exact Nat.le_trans hpc (a d q)
theorem sorted_ones {cs : List Nat} (h : sortedS (cs.map fun c => S [c]) = true) (nd : cs.Nodup) : cs.Pairwise (· < ·) := by
  have le : cs.Pairwise (· ≤ ·) := by
    cases cs with
    | nil => exact .nil
    | cons c r =>
      obtain ⟨a, b⟩ := rising_one r c h
      exact List.pairwise_cons.mpr ⟨a, b⟩
  exact le.imp₂ (fun _ _ h1 h2 => Nat.lt_of_le_of_ne h1 h2) nd
/-- the signs of z, each once, ascending -/
theorem sorted_set_of {z : Str} {ys : List Str} (h1 : sortedS ys = true) (h2 : ys.Nodup) (h3 : ∀ k, k ∈ ys ↔ k ∈ sgs z) : ∃ cs : List Nat, ys = cs.map (fun c => S [c]) ∧ cs.Pairwise (· < ·) ∧ ∀ c, c ∈ cs ↔ c ∈ z.cps.toList := by
  obtain ⟨cs, e, hc⟩ := sgs_map fun y hy => (h3 y).mp hy
  subst e
  have nd : cs.Nodup := by
    refine List.Pairwise.imp_of_mem ?_ (List.pairwise_map.mp h2)
    intro a b _ _ h q
    exact h (by rw [q])
  refine ⟨cs, rfl, sorted_ones h1 nd, fun c => ⟨hc c, fun h => ?_⟩⟩
  have := (h3 (S [c])).mpr (List.mem_map.mpr ⟨c, h, rfl⟩)
  obtain ⟨d, hd, e⟩ := List.mem_map.mp this
  have e2 : (S [d]).cps.toList = (S [c]).cps.toList := by rw [e]
  rw [S_list, S_list] at e2
  rw [← (List.cons.inj e2).1]
  exact hd
/-- of letters alone: it is the contents -/
theorem set_is {z : Str} {cs : List Nat} (h1 : cs.Pairwise (· < ·)) (h2 : ∀ c, c ∈ cs ↔ c ∈ z.cps.toList) (h3 : ∀ c ∈ z.cps.toList, c ∈ mk) : S cs = sb (mem z) := by
  have e : cs = mk.filter (mem z) := sorted_eq h1 (mk_sorted.filter _) fun c => by
    rw [List.mem_filter]
    unfold mem
    rw [decide_eq_true_eq, h2]
    exact ⟨fun h => ⟨h3 c h, h⟩, fun h => h.2⟩
  unfold sb
  rw [← e]
theorem cons_in {m : Str} (h : conS m = true) : ∀ c ∈ m.cps.toList, c ∈ mk := fun c hc => by
  have e := of_decide_eq_true h
  rw [e] at hc
  unfold sb at hc
  rw [S_list] at hc
  exact (List.mem_filter.mp hc).1
theorem few_marks {m z : Str} (hm : conS m = true) (h : (z.cps.toList.all fun c => mem m c) = true) : ∀ ks : List Str, ks.Nodup → (∀ k ∈ ks, k ∈ sgs z) → ks.length < 64 := fun ks nd hk => by
  have := nodup_len nd (L := mk.map fun c => (⟨#[c]⟩ : Str)) (fun k hk' => by
    obtain ⟨c, hc, rfl⟩ := List.mem_map.mp (hk k hk')
    exact List.mem_map.mpr ⟨c, cons_in hm c (of_decide_eq_true (List.all_eq_true.mp h c hc)), rfl⟩)
  rw [List.length_map] at this
  have e : mk.length = 52 := by decide +kernel
  omega
theorem subAt_one {z : Str} {c i : Nat} : PySem.Builtin.Str.subAt z (⟨#[c]⟩ : Str) i = decide (z.cps.toList[i]? = some c) := by
  unfold PySem.Builtin.Str.subAt
  rw [Bool.eq_iff_iff, beq_iff_eq, decide_eq_true_eq, ← Array.toList_inj, Array.toList_extract]
  have e1 : i + (⟨#[c]⟩ : Str).length - i = 1 := by
    show i + 1 - i = 1
    omega
  have e2 : z.cps.toList[i]? = (z.cps.toList.drop i)[0]? := by rw [List.getElem?_drop]; rfl
  rw [e2, List.extract_eq_take_drop, e1]
  cases z.cps.toList.drop i with
  | nil => exact ⟨fun h => (by cases h), fun h => (by cases h)⟩
  | cons a r =>
    show [a] = [c] ↔ some a = some c
    exact ⟨fun h => by cases h; rfl, fun h => by cases h; rfl⟩
theorem ends_at {z : Str} : (Txt.startswith z "{" && Txt.endswith z "}") = (decide (2 ≤ z.length) && (decide (z.cps.toList[0]? = some 123) && decide (z.cps.toList[z.length - 1]? = some 125))) := by
  have e1 : Txt.startswith z "{" = (decide (1 ≤ z.length) && decide (z.cps.toList[0]? = some 123)) := by
    show (decide (0 + 1 ≤ z.length) && PySem.Builtin.Str.subAt z (⟨#[123]⟩ : Str) 0) = _
    rw [subAt_one]
  have e2 : Txt.endswith z "}" = (decide (1 ≤ z.length) && decide (z.cps.toList[z.length - 1]? = some 125)) := by
    show (decide (0 + 1 ≤ z.length) && PySem.Builtin.Str.subAt z (⟨#[125]⟩ : Str) (z.length - 1)) = _
    rw [subAt_one]
  rw [e1, e2]
  by_cases h0 : z.length = 0
  · rw [h0]
    rfl
  · by_cases h1 : z.length = 1
    · rw [h1]
      show ((true && decide (z.cps.toList[0]? = some 123)) && (true && decide (z.cps.toList[0]? = some 125))) = (false && _)
      rw [Bool.false_and, Bool.true_and, Bool.true_and]
      by_cases h : z.cps.toList[0]? = some 123
      · rw [h]
        rfl
      · rw [decide_eq_false h]
        rfl
    · rw [decide_eq_true (show 1 ≤ z.length by omega), decide_eq_true (show 2 ≤ z.length by omega), Bool.true_and, Bool.true_and, Bool.true_and]
/-! ### what the law reads -/
def NoKw (ws : List Str) : Prop := ∀ z ∈ ws, hasS ["if", "else", "end", "stop", "fail"] z = false
def fiveB (z : Str) : Bool := hasS ["if", "else", "end", "stop", "fail"] z
/-- a row that begins with one of the five -/
def fitsT (ws : List Str) (m : Str) (ps : List Str) : Bool :=
  if (ps.headD "" == "fail") = true then failB ws m (ps.drop 1)
  else if (ps.headD "" == "if") = true then condB ws m (if (ps[1]? == some ("not" : Str)) = true then ps.drop 2 else ps.drop 1)
  else decide (ps.length = 1)
def fitsB (tk : Bool) (ws : List Str) (m : Str) (z : Str) : Bool := if tk = true then taskB ws m z else rowB ws m true z
def wh (k : Nat) : Str := if k = 0 then "module" else if k = 1 then "caller" else "task"
def spReads (K : PySem.W.Frag) : Sp := fun vs H Q _ => ∃ (z : Str) (l : Addr) (ws : List Str) (m : Str), vs = [.str z, .ref l, .str m] ∧ SqL K H l (ws.map V.str) ∧ z.length < 99 ∧ conS m = true ∧ ∀ H', Same H H' → Q (.bl (termB ws m z)) H'
def spFitsT (K : PySem.W.Frag) : Sp := fun vs H Q _ => ∃ (a l : Addr) (ps ws : List Str) (m : Str), vs = [.ref a, .ref l, .str m] ∧ SqL K H a (ps.map V.str) ∧ SqL K H l (ws.map V.str) ∧ 0 < ps.length ∧ ps.length ≤ 100 ∧ (∀ z ∈ ps, z.length < 99 ∧ SmallS z) ∧ conS m = true ∧ fiveB (ps.headD "") = true ∧ ∀ H', Same H H' → Q (.bl (fitsT ws m ps)) H'
def spFits (K : PySem.W.Frag) : Sp := fun vs H Q _ => ∃ (x : V) (k : Nat) (l : Addr) (ws : List Str) (m : Str), vs = [x, .str (wh k), .ref l, .str m] ∧ k < 3 ∧ Thing K H x ∧ SqL K H l (ws.map V.str) ∧ conS m = true ∧ NoKw ws ∧
  ((∀ z, x = .str z → z.length < 99 ∧ SmallS z ∧ ∀ H', Same H H' → Q (.bl (fitsB (decide (k = 2)) ws m z)) H') ∧ ((∀ z, x ≠ .str z) → ∀ H', Same H H' → Q (.bl false) H'))
end WB
namespace WB
open PySem L2
theorem dec_sign {c d : Nat} : decide (V.str ⟨#[c]⟩ = V.str ⟨#[d]⟩) = decide (c = d) := by
  by_cases h : c = d
  · rw [h, decide_eq_true rfl, decide_eq_true rfl]
  · rw [decide_eq_false h, decide_eq_false]
    intro q
    have e : (⟨#[c]⟩ : Str).cps.toList = (⟨#[d]⟩ : Str).cps.toList := by rw [V.str.inj q]
    exact h (List.cons.inj e).1
theorem at_first {z : Str} (h : 1 ≤ z.length) : ∃ c, z.cps.toList[0]? = some c ∧ atI z.cps.toList 0 = some c := by
  have h2 : 0 < z.cps.toList.length := by rw [Array.length_toList]; exact h
  exact ⟨_, List.getElem?_eq_getElem h2, atI_nat (j := 0) (List.getElem?_eq_getElem h2)⟩
theorem at_end {z : Str} (h : 1 ≤ z.length) : ∃ c, z.cps.toList[z.length - 1]? = some c ∧ atI z.cps.toList (-1) = some c := by
  have h0 : z.cps.toList.length = z.length := Array.length_toList
  have h2 : z.length - 1 < z.cps.toList.length := by omega
  refine ⟨_, List.getElem?_eq_getElem h2, ?_⟩
  unfold atI
  rw [ixN_last (by omega), h0]
  exact List.getElem?_eq_getElem h2
theorem dec_strs {a b : Str} : decide (V.str a = V.str b) = decide (a = b) := by
  by_cases h : a = b
  · rw [h, decide_eq_true rfl, decide_eq_true rfl]
  · rw [decide_eq_false h, decide_eq_false fun q => h (V.str.inj q)]
theorem join_ones {cs : List Nat} : Txt.join "" (cs.map fun c => S [c]) = S cs := join_signs cs
end WB
namespace WB
open PySem L2
theorem not_at2 (ps : List Str) (w : Str) : decide ((ps.drop 1).take 1 = [w]) = (ps[1]? == some w) := by
  match ps with
  | [] => rfl
  | [a] => rfl
  | a :: b :: r =>
    show decide ([b] = [w]) = (some b == some w)
    by_cases h : b = w
    · subst h
      rw [decide_eq_true rfl]
      exact (beq_self_eq_true _).symm
    · rw [decide_eq_false fun q => h (by cases q; rfl)]
      exact (beq_eq_false_iff_ne.mpr fun q => h (Option.some.inj q)).symm
theorem cut_three (xs : List V) : cutV xs (some 3) (some 4) = (xs.drop 3).take 1 := by
  show cutV xs (some ((3 : Nat) : Int)) (some ((4 : Nat) : Int)) = _
  unfold cutV
  rw [HT.sIx_nat, HT.sIx_nat]
  by_cases h : 4 ≤ xs.length
  · rw [Nat.min_eq_left h, Nat.min_eq_left (show 3 ≤ xs.length by omega)]
  · have e : xs.drop (min 3 xs.length) = xs.drop 3 := by
      by_cases h3 : 3 ≤ xs.length
      · rw [Nat.min_eq_left h3]
      · rw [Nat.min_eq_right (by omega), List.drop_length, List.drop_of_length_le (by omega)]
    rw [e, Nat.min_eq_right (by omega)]
    rw [List.take_of_length_le (by rw [List.length_drop]; omega), List.take_of_length_le (by rw [List.length_drop]; omega)]
theorem four_of {α : Type} {l : List α} (h : l.length = 4) : ∃ a b c d, l = [a, b, c, d] := by
  match l, h with
  | [a, b, c, d], _ => exact ⟨a, b, c, d, rfl⟩
theorem two_of {α : Type} {l : List α} (h : l.length = 2) : ∃ a b, l = [a, b] := by
  match l, h with
  | [a, b], _ => exact ⟨a, b, rfl⟩
end WB
namespace WB
open PySem L2
theorem hasS_cons {a : Str} {r : List Str} {z : Str} : hasS (a :: r) z = (a == z || hasS r z) := rfl
theorem parts_join (z : Str) : Str.join " " (parts z) = z := StrLaws.join_split z " "
theorem parts_one {z : Str} (h : (parts z).length = 1) : z = fst z := by
  obtain ⟨a, e⟩ := one_of h
  have j := parts_join z
  have f : fst z = a := by
    unfold fst
    rw [e]
    rfl
  rw [e] at j
  rw [f, ← j]
  rfl
theorem wh_task {k : Nat} (h : k < 3) : decide (V.str (wh k) = V.str "task") = decide (k = 2) := by
  have hk : k = 0 ∨ k = 1 ∨ k = 2 := by omega
  rcases hk with rfl | rfl | rfl <;> decide +kernel
theorem three_lit {z : Str} (h : hasS ["else", "end", "stop"] z = true) : (parts z).length = 1 ∧ fst z = z := by
  have hm := hasS_mem.mp h
  simp only [List.mem_cons, List.not_mem_nil, or_false] at hm
  rcases hm with rfl | rfl | rfl <;> exact ⟨by decide +kernel, by decide +kernel⟩
/-- a task's row that begins with none of the five -/
theorem task_plain {ws : List Str} {m z : Str} (h : fiveB (fst z) = false) : taskB ws m z = rowB ws m false z := by
  have n1 : hasS ["else", "end", "stop"] z = false := by
    cases c : hasS ["else", "end", "stop"] z with
    | false => rfl
    | true =>
      obtain ⟨_, e⟩ := three_lit c
      have hm := hasS_mem.mp c
      have : fiveB (fst z) = true := by
        rw [e]
        refine hasS_mem.mpr ?_
        simp only [List.mem_cons, List.not_mem_nil, or_false] at hm ⊢
        rcases hm with q | q | q <;> simp [q]
      rw [h] at this
      cases this
  have nf : fst z ∉ (["if", "else", "end", "stop", "fail"] : List Str) := fun q => by
    have := hasS_mem.mpr q
    unfold fiveB at h
    rw [h] at this
    cases this
  have ni : (fst z == ("if" : Str)) = false := beq_eq_false_iff_ne.mpr fun q => nf (by rw [q]; simp)
  have nl : (fst z == ("fail" : Str)) = false := beq_eq_false_iff_ne.mpr fun q => nf (by rw [q]; simp)
  unfold taskB
  rw [n1, ni, nl]
  rfl
theorem row_kw {ws : List Str} {m z : Str} (hk : NoKw ws) (h : fiveB (fst z) = true) : rowB ws m false z = false := by
  unfold rowB
  cases e : form (parts z) with
  | none => rfl
  | some x =>
    obtain ⟨l, s, ts⟩ := x
    have hl : l = fst z := by
      unfold fst
      unfold form at e
      split at e
      · rename_i q
        split at e
        · cases e
          rw [q]
          rfl
        · cases e
      · rename_i q
        split at e
        · cases e
          rw [q]
          rfl
        · cases e
      · cases e
    have hn : hasS ws l = false := by
      cases c : hasS ws l with
      | false => rfl
      | true =>
        have := hk l (hasS_mem.mp c)
        rw [hl] at this
        unfold fiveB at h
        rw [h] at this
        cases this
    show ((hasS ws l || (false && (!hasS CHG s && wordB l))) && ts.all (termB ws m)) = false
    rw [hn, Bool.false_and, Bool.false_or, Bool.false_and]
theorem task_kw {ws : List Str} {m z : Str} (hk : NoKw ws) (h : fiveB (fst z) = true) : taskB ws m z = fitsT ws m (parts z) := by
  have hd : (parts z).headD "" = fst z := rfl
  have hm := hasS_mem.mp h
  have n3 : fst z = "if" ∨ fst z = "fail" → hasS ["else", "end", "stop"] z = false := fun q => by
    cases c : hasS ["else", "end", "stop"] z with
    | false => rfl
    | true =>
      obtain ⟨_, e⟩ := three_lit c
      rw [e] at q
      rcases q with q | q <;> rw [q] at c <;> exact absurd c (by decide +kernel)
  unfold fitsT
  rw [hd]
  have hm : fst z = "if" ∨ fst z = "else" ∨ fst z = "end" ∨ fst z = "stop" ∨ fst z = "fail" := by simpa using hm
  have rest : (fst z == ("fail" : Str)) = false → (fst z == ("if" : Str)) = false → (∀ y, fst z = y → hasS ["else", "end", "stop"] y = true) → taskB ws m z = (if (fst z == ("fail" : Str)) = true then failB ws m ((parts z).drop 1) else if (fst z == ("if" : Str)) = true then condB ws m (if ((parts z)[1]? == some ("not" : Str)) = true then (parts z).drop 2 else (parts z).drop 1) else decide ((parts z).length = 1)) := fun q1 q2 q3 => by
    by_cases l1 : (parts z).length = 1
    · rw [decide_eq_true l1, q1, q2]
      have e := q3 _ rfl
      rw [← parts_one l1] at e
      unfold taskB
      rw [if_pos e]
      rfl
    · have n1 : hasS ["else", "end", "stop"] z = false := by
        cases c : hasS ["else", "end", "stop"] z with
        | false => rfl
        | true => exact absurd (three_lit c).1 l1
      rw [decide_eq_false l1, q1, q2]
      have e : taskB ws m z = rowB ws m false z := by
        unfold taskB
        rw [n1, q1, q2]
        rfl
      rw [e, row_kw hk h]
      rfl
  rcases hm with q | q | q | q | q
  · have n1 := n3 (.inl q)
    have q1 : (fst z == ("if" : Str)) = true := beq_iff_eq.mpr q
    have q2 : (fst z == ("fail" : Str)) = false := by rw [q]; decide +kernel
    unfold taskB
    rw [n1, q1, q2]
    rfl
  · exact rest (by rw [q]; decide +kernel) (by rw [q]; decide +kernel) fun y e => by rw [← e, q]; decide +kernel
  · exact rest (by rw [q]; decide +kernel) (by rw [q]; decide +kernel) fun y e => by rw [← e, q]; decide +kernel
  · exact rest (by rw [q]; decide +kernel) (by rw [q]; decide +kernel) fun y e => by rw [← e, q]; decide +kernel
  · have n1 := n3 (.inr q)
    have q1 : (fst z == ("if" : Str)) = false := by rw [q]; decide +kernel
    have q2 : (fst z == ("fail" : Str)) = true := beq_iff_eq.mpr q
    unfold taskB
    rw [n1, q1, q2]
    rfl
end WB
namespace WB
open PySem L2
theorem in_35 {n : Nat} : inV (.int (n : Nat)) [.int 3, .int 5] = (decide (n = 3) || decide (n = 5)) := by
  show (((3 : Int) == (n : Int)) || (((5 : Int) == (n : Int)) || false)) = _
  rw [Bool.or_false]
  have e : ∀ k : Nat, (((k : Nat) : Int) == (n : Int)) = decide (n = k) := fun k => by
    by_cases h : n = k
    · rw [h, decide_eq_true rfl]
      exact beq_self_eq_true _
    · rw [decide_eq_false h]
      exact beq_eq_false_iff_ne.mpr (by omega)
  exact congr (congrArg or (e 3)) (e 5)
theorem sgn_chg {s : Str} (h : hasS SGN s = true) : hasS CHG s = false := by
  have hm := hasS_mem.mp h
  unfold SGN at hm
  simp only [List.mem_cons, List.not_mem_nil, or_false] at hm
  rcases hm with rfl | rfl | rfl | rfl <;> decide +kernel
end WB

set_option Elab.async false
set_option linter.all false
set_option maxRecDepth 100000
set_option maxHeartbeats 4000000
namespace WB
open PySem L2
theorem erase_perm {α : Type} : ∀ (l : List α) (j : Nat) (h : j < l.length), (l[j] :: l.eraseIdx j).Perm l
  | a :: r, 0, _ => List.Perm.refl _
  | a :: r, j + 1, h => by
    have h' : j < r.length := Nat.lt_of_succ_lt_succ h
    show (r[j] :: a :: r.eraseIdx j).Perm (a :: r)
    exact (List.Perm.swap _ _ _).trans ((erase_perm r j h').cons a)
theorem step_perm {α : Type} {ls fs zs : List α} {j : Nat} (h : j < ls.length) (p : (ls ++ fs).Perm zs) : (ls.eraseIdx j ++ (fs ++ [ls[j]])).Perm zs := by
  refine List.Perm.trans ?_ p
  have e := erase_perm ls j h
  have h1 : (ls.eraseIdx j ++ (fs ++ [ls[j]])).Perm ((ls[j] :: ls.eraseIdx j) ++ fs) := by
    rw [← List.append_assoc]
    exact (List.perm_append_comm (l₁ := ls.eraseIdx j ++ fs) (l₂ := [ls[j]]))
  exact h1.trans (e.append_right fs)
theorem sgs_nodup {z : Str} (h : z.cps.toList.Nodup) : (sgs z).Nodup := by
  unfold sgs
  refine List.Pairwise.map _ (fun a b hab e => hab ?_) h
  have : ([a] : List Nat) = [b] := congrArg (fun s : Str => s.cps.toList) e
  exact (List.cons.inj this).1
theorem ones_nodup {cs : List Nat} (h : (cs.map fun c => S [c]).Nodup) : cs.Nodup := by
  have := List.pairwise_map.mp h
  exact this.imp fun {a b} hab e => hab (by rw [e])
theorem up_no_low : ∀ c ∈ ("ABCDEFGHIJKLMNOPQRSTUVWXYZ" : Str).cps.toList, Txt.islower ⟨#[c]⟩ = false := by decide +kernel
theorem up_lo : ∀ c ∈ ("ABCDEFGHIJKLMNOPQRSTUVWXYZ" : Str).cps.toList, c < 91 := by decide +kernel
theorem lo_lo : ∀ c ∈ ("abcdefghijklmnopqrstuvwxyz" : Str).cps.toList, 97 ≤ c := by decide +kernel
theorem up_mk : ∀ c ∈ ("ABCDEFGHIJKLMNOPQRSTUVWXYZ" : Str).cps.toList, c ∈ mk := by decide +kernel
theorem lo_mk : ∀ c ∈ ("abcdefghijklmnopqrstuvwxyz" : Str).cps.toList, c ∈ mk := by decide +kernel
theorem up_nodup : ("ABCDEFGHIJKLMNOPQRSTUVWXYZ" : Str).cps.toList.Nodup := by decide +kernel
theorem lo_nodup : ("abcdefghijklmnopqrstuvwxyz" : Str).cps.toList.Nodup := by decide +kernel
theorem conS_of {z : Str} (h : z.cps.toList.Pairwise (· < ·)) (hm : ∀ c ∈ z.cps.toList, c ∈ mk) : conS z = true := by
  have e : z.cps.toList = mk.filter (mem z) := sorted_eq h (mk_sorted.filter _) fun c => by
    rw [List.mem_filter]
    exact ⟨fun hc => ⟨hm c hc, decide_eq_true hc⟩, fun hc => of_decide_eq_true hc.2⟩
  exact decide_eq_true ((SX.S_tl z).symm.trans (congrArg S e))
theorem marks_cat {r r2 : Str} (h1 : ∀ c ∈ r.cps.toList, c ∈ ("ABCDEFGHIJKLMNOPQRSTUVWXYZ" : Str).cps.toList) (h2 : ∀ c ∈ r2.cps.toList, c ∈ ("abcdefghijklmnopqrstuvwxyz" : Str).cps.toList)
    (p1 : r.cps.toList.Pairwise (· < ·)) (p2 : r2.cps.toList.Pairwise (· < ·)) (l : 1 ≤ (r ++ r2).length) (u : (r ++ r2).length ≤ 3) (t : r2.length ≤ 2) : marksB (.str (r ++ r2)) = true := by
  have ea : (r ++ r2).cps.toList = r.cps.toList ++ r2.cps.toList := by rw [Str.cps_append, Array.toList_append]
  have c1 : conS (r ++ r2) = true := by
    refine conS_of ?_ fun c hc => ?_
    · rw [ea, List.pairwise_append]
      refine ⟨p1, p2, fun a ha b hb => ?_⟩
      have := up_lo a (h1 a ha)
      have := lo_lo b (h2 b hb)
      omega
    · rw [ea] at hc
      rcases List.mem_append.mp hc with hc | hc
      · exact up_mk c (h1 c hc)
      · exact lo_mk c (h2 c hc)
  have c2 : (plains (r ++ r2)).length ≤ 2 := by
    unfold plains
    rw [ea, List.filter_append, List.length_append]
    have e0 : r.cps.toList.filter (fun c => Txt.islower ⟨#[c]⟩) = [] := by
      rw [List.filter_eq_nil_iff]
      intro c hc
      rw [up_no_low c (h1 c hc)]
      exact Bool.noConfusion
    rw [e0]
    have := List.length_filter_le (fun c => Txt.islower ⟨#[c]⟩) r2.cps.toList
    have e3 : r2.cps.toList.length = r2.length := Array.length_toList
    show 0 + _ ≤ 2
    omega
  show (conS (r ++ r2) && (decide (1 ≤ (r ++ r2).length) && decide ((r ++ r2).length ≤ 3)) && decide ((plains (r ++ r2)).length ≤ 2)) = true
  rw [c1, decide_eq_true l, decide_eq_true u, decide_eq_true c2]
  rfl
end WB

set_option Elab.async false
set_option linter.all false
set_option maxRecDepth 100000
set_option maxHeartbeats 4000000
namespace WB
open PySem L2
/-! ### the first wrong row, as the law finds it -/
def RowF (K : PySem.W.Frag) (H : Hp) (x : V) : Prop := RowV K H x ∧ ∀ z, x = .str z → z.length < 99
theorem RowF.same {K : PySem.W.Frag} {H H' : Hp} {x : V} (h : RowF K H x) (s : Same H H') : RowF K H' x := ⟨h.1.same s, h.2⟩
def outF (k : Nat) (ws : List Str) (m : Str) (xs : List V) : Option Nat := if k = 2 then taskE ws m xs else match bound m xs 0 ws with
  | .inl i => some i
  | .inr _ => none
def AllW (ws : List Str) : Prop := ∀ z ∈ ws, wordB z = true
theorem AllW.noKw {ws : List Str} (h : AllW ws) : NoKw ws := fun z hz => by
  have hw := h z hz
  cases c : hasS ["if", "else", "end", "stop", "fail"] z with
  | false => rfl
  | true =>
    have hm := hasS_mem.mp c
    have hr : hasS RESV z = true := by
      refine hasS_mem.mpr ?_
      unfold RESV
      simp only [List.mem_cons, List.not_mem_nil, or_false] at hm ⊢
      rcases hm with q | q | q | q | q <;> simp [q]
    unfold wordB at hw
    rw [hr, Bool.not_true, Bool.and_false, Bool.false_and] at hw
    cases hw
theorem noKw_task {ws : List Str} (h : AllW ws) : NoKw (ws ++ [("item" : Str), ("out" : Str)]) := fun z hz => by
  rcases List.mem_append.mp hz with hz | hz
  · exact h.noKw z hz
  · simp only [List.mem_cons, List.not_mem_nil, or_false] at hz
    rcases hz with rfl | rfl <;> decide +kernel
/-- a fitting row: what stands at its second place -/
theorem row_form {ws : List Str} {m z : Str} (h : rowB ws m true z = true) : ∃ a b r, parts z = a :: b :: r ∧ r ≠ [] ∧ (hasS ws a = false → b = "=" ∧ wordB a = true) := by
  unfold rowB at h
  cases e : form (parts z) with
  | none =>
    rw [e] at h
    cases h
  | some x =>
    obtain ⟨l, s, ts⟩ := x
    rw [e] at h
    have h : ((hasS ws l || (true && (!hasS CHG s && wordB l))) && ts.all (termB ws m)) = true := h
    rw [Bool.and_eq_true, Bool.or_eq_true, Bool.true_and, Bool.and_eq_true] at h
    unfold form at e
    split at e
    · rename_i a b c q
      split at e
      · rename_i q2
        cases e
        refine ⟨l, s, [c], q, fun y => (by cases y), fun hn => ?_⟩
        rcases h.1 with hh | hh
        · rw [hn] at hh
          cases hh
        · rw [Bool.not_eq_true'] at hh
          rw [hh.1, Bool.or_false] at q2
          exact ⟨beq_iff_eq.mp q2, hh.2⟩
      · cases e
    · rename_i a b c d f q
      split at e
      · rename_i q2
        cases e
        rw [Bool.and_eq_true] at q2
        refine ⟨l, b, [c, s, f], q, fun y => (by cases y), fun hn => ?_⟩
        rcases h.1 with hh | hh
        · rw [hn] at hh
          cases hh
        · exact ⟨beq_iff_eq.mp q2.1, hh.2⟩
      · cases e
    · cases e
theorem row_long {z : Str} {a b : Str} {r : List Str} (e : parts z = a :: b :: r) : (z == ("else" : Str)) = false ∧ (z == ("end" : Str)) = false := by
  refine ⟨beq_eq_false_iff_ne.mpr fun q => ?_, beq_eq_false_iff_ne.mpr fun q => ?_⟩
  · rw [q, show parts "else" = [("else" : Str)] from by decide +kernel] at e
    cases e
  · rw [q, show parts "end" = [("end" : Str)] from by decide +kernel] at e
    cases e
/-- else and end alone begin so -/
theorem kw_row {ws : List Str} {m z : Str} (hk : NoKw ws) (h : taskB ws m z = true) (w : Str) (hw : w = "else" ∨ w = "end") : (fst z == w) = (z == w) := by
  by_cases c : z = w
  · rw [c]
    rcases hw with rfl | rfl <;> decide +kernel
  · have e1 : (z == w) = false := beq_eq_false_iff_ne.mpr c
    rw [e1]
    refine beq_eq_false_iff_ne.mpr fun q => c ?_
    have h5 : fiveB (fst z) = true := by
      rw [q]
      rcases hw with rfl | rfl <;> decide +kernel
    rw [task_kw hk h5] at h
    unfold fitsT at h
    rw [show (parts z).headD "" = fst z from rfl, q] at h
    have l1 : (parts z).length = 1 := by
      rcases hw with rfl | rfl
      · rw [if_neg (by decide +kernel), if_neg (by decide +kernel)] at h
        exact of_decide_eq_true h
      · rw [if_neg (by decide +kernel), if_neg (by decide +kernel)] at h
        exact of_decide_eq_true h
    rw [parts_one l1, q]
def IfEl (bs : List Str) : Prop := ∀ b ∈ bs, b = "if" ∨ b = "else"
def spFW (K : PySem.W.Frag) : Sp := fun vs H Q _ => ∃ (k : Nat) (l lk : Addr) (xs : List V) (ws : List Str) (m : Str), vs = [.str (wh k), .ref l, .ref lk, .str m] ∧ k < 3 ∧ SqL K H l xs ∧ SqL K H lk (ws.map V.str) ∧ xs.length ≤ 40 ∧ ws.length ≤ 10 ∧ conS m = true ∧ NoKw ws ∧ (k ≠ 2 → AllW ws) ∧
  (∀ x ∈ xs, RowF K H x) ∧ (∀ i, outF k ws m xs = some i → ∀ H' t r, Same H H' → H' t = some (.tup [.int (i : Nat), .ref r]) → Q (.ref t) H') ∧
  (outF k ws m xs = none → ∀ H' t r w2, (k ≠ 2 → bound m xs 0 ws = .inr w2 ∧ AllW w2) → Same H H' → H r = none → H' t = some (.tup [.non, .ref r]) → H' r = some (.lst (w2.map V.str)) → Q (.ref t) H')
end WB

set_option Elab.async false
set_option linter.all false
set_option maxRecDepth 100000
set_option maxHeartbeats 4000000
namespace WB
open PySem L2
structure MakP (P : Program) (w : World) (K : PySem.W.Frag) (mg : Str → Option Value) (base : Heap) (k : Nat) (x : Str) (C : Addr) (sp : Sp) : Prop where
  ex : ∃ (f : Addr) (fd : FuncData) (ps : List Str), Mk K C f ∧ FnOk P w K mg base (L2.CX P w) k f fd ps sp ∧ mg x = some (.ref C) ∧ Binds K fd ps []
theorem pe_mkP {X : Cx} {k j : Nat} {C : Addr} {x : Str} {sp : Sp} {p pos : Pos} {e : Expr} {es : List Expr} {t : TA} {W : WX} (c : MakP X.prog X.w X.K X.mg X.base k x C sp) (tk : Takes X W) (hr : Room j X.A) (hk : k + 1 ≤ j) (hg : Gl X x) (ha : PA X (e :: es) t)
    (hdb : (x == ("__debug__" : Str)) = false := by decide) (he : starEach (e :: es) X.env = (false, eval e X.env) :: starEach es X.env := by rfl) (hpl : (backTo pos (starEach es X.env)).any (·.1) = false := by rfl) :
    PE X (.Call (.Name x p) (e :: es) [] pos) (tMakeS C sp (WE W) t) := by
  obtain ⟨f, fd, ps, M, F, hm, b⟩ := c.ex
  exact pe_makeS M F (hr.mono hk) hg hm b (fun σ => passAt tk σ) ha hdb he hpl
def ArgF (K : PySem.W.Frag) (H : Hp) (x : V) : Option (List V) → Prop
  | some xs => ∃ l, x = .ref l ∧ H l = some (.lst xs) ∧ xs.length ≤ 40 ∧ ∀ y ∈ xs, RowF K H y
  | none => ∃ t, (∀ H', Same H H' → TyX K H' x (.type t)) ∧ kitB t "list" = some false
theorem ArgF.same {K : PySem.W.Frag} {H H' : Hp} {x : V} {o : Option (List V)} (h : ArgF K H x o) (s : Same H H') : ArgF K H' x o := by
  cases o with
  | some xs =>
    obtain ⟨l, e, hl, hn, hr⟩ := h
    exact ⟨l, e, s _ _ hl, hn, fun y hy => (hr y hy).same s⟩
  | none =>
    obtain ⟨t, ht, hk⟩ := h
    exact ⟨t, fun H2 s2 => ht H2 (s.trans s2), hk⟩
theorem ArgF.arg {K : PySem.W.Frag} {H : Hp} {x : V} {o : Option (List V)} (h : ArgF K H x o) : ArgV K H x o := by
  cases o with
  | some xs =>
    obtain ⟨l, e, hl, hn, hr⟩ := h
    exact ⟨l, e, hl, by omega, fun y hy => (hr y hy).1⟩
  | none => exact h
def AnsE (H : Hp) (v : V) : Except Er Prog → Prop
  | .ok _ => v = .non
  | .error (.bad p i) => ∃ t, v = .ref t ∧ H t = some (.tup [.str "program", .str p, .int i])
  | .error (.many w) => ∃ t, v = .ref t ∧ H t = some (.tup [.str "many", .str w])
theorem AnsE.same {H H' : Hp} {v : V} {r : Except Er Prog} (h : AnsE H v r) (s : Same H H') : AnsE H' v r := by
  match r, h with
  | .ok _, h => exact h
  | .error (.bad _ _), ⟨t, e, h⟩ => exact ⟨t, e, s _ _ h⟩
  | .error (.many _), ⟨t, e, h⟩ => exact ⟨t, e, s _ _ h⟩
def spAns (K : PySem.W.Frag) : Sp := fun vs H Q _ => ∃ (x ya yb yc : V) (oa ob oc : Option (List V)), vs = [x, ya, yb, yc] ∧ Thing K H x ∧ (∀ H', Same H H' → Thing K H' x) ∧ (∀ z, x = .str z → z.length ≤ 1000) ∧ ArgF K H ya oa ∧ ArgF K H yb ob ∧ ArgF K H yc oc ∧
  ∀ H' v, Same H H' → AnsE H' v (progE x oa ob oc) → Q v H'
def spAreM (K : PySem.W.Frag) : Sp := fun vs H Q _ => ∃ x : V, vs = [x] ∧ Thing K H x ∧ (∀ z, x = .str z → z.length ≤ 1000) ∧ ∀ H', Same H H' → Q (.bl (marksB x)) H'
def spSameE (K : PySem.W.Frag) : Sp := fun vs H Q _ => ∃ (x y : V) (d : PyData), vs = [x, y] ∧ OkD d ∧ Dp K H x d ∧ Dp K H y d ∧ Q (.bl true) H
end WB
namespace WB
open PySem L2
def UPP : Str := "ABCDEFGHIJKLMNOPQRSTUVWXYZ"
def LOW : Str := "abcdefghijklmnopqrstuvwxyz"
theorem mk_split {c : Nat} : c ∈ mk ↔ c ∈ UPP.cps.toList ∨ c ∈ LOW.cps.toList := by
  have e : mk = UPP.cps.toList ++ LOW.cps.toList := by decide +kernel
  rw [e, List.mem_append]
theorem up_low {c : Nat} (h : c ∈ UPP.cps.toList) : c ∉ LOW.cps.toList := by
  have hall : (UPP.cps.toList.all fun c => !decide (c ∈ LOW.cps.toList)) = true := by decide +kernel
  have := List.all_eq_true.mp hall c h
  simpa using this
theorem lower_is {c : Nat} (h : c ∈ mk) : Txt.islower ⟨#[c]⟩ = decide (c ∈ LOW.cps.toList) := by
  have hall : (mk.all fun c => Txt.islower ⟨#[c]⟩ == decide (c ∈ LOW.cps.toList)) = true := by decide +kernel
  exact beq_iff_eq.mp (List.all_eq_true.mp hall c h)
theorem two_counts : ∀ l : List Nat, (l.filter fun c => decide (c ∈ UPP.cps.toList)).length + (l.filter fun c => decide (c ∈ LOW.cps.toList)).length ≤ l.length ∧
    ((l.filter fun c => decide (c ∈ UPP.cps.toList)).length + (l.filter fun c => decide (c ∈ LOW.cps.toList)).length = l.length ↔ ∀ c ∈ l, c ∈ mk)
  | [] => ⟨Nat.le_refl _, ⟨fun _ _ h => absurd h List.not_mem_nil, fun _ => rfl⟩⟩
  | a :: r => by
    obtain ⟨h1, h2⟩ := two_counts r
    by_cases hu : a ∈ UPP.cps.toList
    · have hl := up_low hu
      rw [List.filter_cons_of_pos (by rw [decide_eq_true hu]), List.filter_cons_of_neg (by rw [decide_eq_false hl]; exact Bool.noConfusion), List.length_cons, List.length_cons]
      refine ⟨by omega, ⟨fun h c hc => ?_, fun h => ?_⟩⟩
      · rcases List.mem_cons.mp hc with q | q
        · rw [q]
          exact mk_split.mpr (.inl hu)
        · exact h2.mp (by omega) c q
      · have := h2.mpr fun c hc => h c (List.mem_cons_of_mem _ hc)
        omega
    · by_cases hl : a ∈ LOW.cps.toList
      · rw [List.filter_cons_of_neg (by rw [decide_eq_false hu]; exact Bool.noConfusion), List.filter_cons_of_pos (by rw [decide_eq_true hl]), List.length_cons, List.length_cons]
        refine ⟨by omega, ⟨fun h c hc => ?_, fun h => ?_⟩⟩
        · rcases List.mem_cons.mp hc with q | q
          · rw [q]
            exact mk_split.mpr (.inr hl)
          · exact h2.mp (by omega) c q
        · have := h2.mpr fun c hc => h c (List.mem_cons_of_mem _ hc)
          omega
      · rw [List.filter_cons_of_neg (by rw [decide_eq_false hu]; exact Bool.noConfusion), List.filter_cons_of_neg (by rw [decide_eq_false hl]; exact Bool.noConfusion), List.length_cons]
        refine ⟨by omega, ⟨fun h => by omega, fun h => ?_⟩⟩
        rcases mk_split.mp (h a List.mem_cons_self) with q | q
        · exact absurd q hu
        · exact absurd q hl
end WB

set_option Elab.async false
set_option linter.all false
set_option maxRecDepth 100000
set_option maxHeartbeats 4000000
namespace WB
open PySem L2
/-! ### the law's error, part by part -/
def pick3 {α : Type} (a b c : α) (k : Nat) : α := if k = 0 then a else if k = 1 then b else c
def most3 (k : Nat) : Nat := if k = 2 then 16 else 6
/-- what is left to be asked at part k: the words known, the words of the module -/
def remE (r : Except Er Prog) (z : Str) (oa ob oc : Option (List V)) (k : Nat) (kw iw : List Str) : Prop :=
  if k = 0 then kw = [] ∧ iw = [] ∧ r = pM z oa ob oc
  else if k = 1 then kw = iw ∧ AllW iw ∧ iw.length ≤ 3 ∧ ∃ xs, r = pC z xs iw ob oc
  else if k = 2 then kw = iw ++ [("item" : Str), ("out" : Str)] ∧ AllW iw ∧ iw.length ≤ 3 ∧ ∃ xs ys os, r = pT z xs ys iw os oc
  else ∃ p, r = .ok p
section
variable {r : Except Er Prog} {z : Str} {oa ob oc : Option (List V)} {kw iw : List Str} {k : Nat}
theorem rem_kw (hk : k < 3) (h : remE r z oa ob oc k kw iw) : kw.length ≤ 5 ∧ NoKw kw ∧ (k ≠ 2 → AllW kw) := by
  have hk : k = 0 ∨ k = 1 ∨ k = 2 := by omega
  rcases hk with rfl | rfl | rfl
  · obtain ⟨rfl, _, _⟩ := h
    have a : AllW [] := fun _ h => absurd h List.not_mem_nil
    exact ⟨by decide, a.noKw, fun _ => a⟩
  · obtain ⟨rfl, a, l, _⟩ := h
    exact ⟨by omega, a.noKw, fun _ => a⟩
  · obtain ⟨rfl, a, l, _⟩ := h
    refine ⟨?_, noKw_task a, fun q => absurd rfl q⟩
    rw [List.length_append]
    show iw.length + 2 ≤ 5
    omega
theorem rem_arg (hk : k < 3) (h : remE r z oa ob oc k kw iw) {e : Er} (he : argE (wh k) (most3 k) (pick3 oa ob oc k) = .error e) : r = .error e := by
  have hk : k = 0 ∨ k = 1 ∨ k = 2 := by omega
  rcases hk with rfl | rfl | rfl
  · obtain ⟨_, _, e1⟩ := h
    have he : argE "module" 6 oa = .error e := he
    rw [e1]
    unfold pM
    rw [he]
    rfl
  · obtain ⟨_, _, _, xs, e1⟩ := h
    have he : argE "caller" 6 ob = .error e := he
    rw [e1]
    unfold pC
    rw [he]
    rfl
  · obtain ⟨_, _, _, xs, ys, os, e1⟩ := h
    have he : argE "task" 16 oc = .error e := he
    rw [e1]
    unfold pT
    rw [he]
    rfl
theorem rem_wrong (hk : k < 3) (h : remE r z oa ob oc k kw iw) {l : List V} {j : Nat} (ho : pick3 oa ob oc k = some l) (hl : l.length ≤ most3 k) (hj : outF k kw z l = some j) : r = .error (.bad (wh k) (j : Nat)) := by
  have hk : k = 0 ∨ k = 1 ∨ k = 2 := by omega
  rcases hk with rfl | rfl | rfl
  · obtain ⟨rfl, _, e1⟩ := h
    have ho : oa = some l := ho
    have hj : (match bound z l 0 [] with | .inl i => some i | .inr _ => none) = some j := hj
    rw [e1, ho]
    unfold pM
    rw [argE_ok (show l.length ≤ 6 from hl)]
    show (boundE "module" z [] l).bind _ = _
    unfold boundE
    cases e : bound z l 0 [] with
    | inl i =>
      rw [e] at hj
      cases hj
      rfl
    | inr _ =>
      rw [e] at hj
      cases hj
  · obtain ⟨rfl, _, _, xs, e1⟩ := h
    have ho : ob = some l := ho
    have hj : (match bound z l 0 kw with | .inl i => some i | .inr _ => none) = some j := hj
    rw [e1, ho]
    unfold pC
    rw [argE_ok (show l.length ≤ 6 from hl)]
    show (boundE "caller" z kw l).bind _ = _
    unfold boundE
    cases e : bound z l 0 kw with
    | inl i =>
      rw [e] at hj
      cases hj
      rfl
    | inr _ =>
      rw [e] at hj
      cases hj
  · obtain ⟨rfl, _, _, xs, ys, os, e1⟩ := h
    have ho : oc = some l := ho
    have hj : taskE (iw ++ [("item" : Str), ("out" : Str)]) z l = some j := hj
    rw [e1, ho]
    unfold pT
    rw [argE_ok (show l.length ≤ 16 from hl)]
    show (match taskE (iw ++ [("item" : Str), ("out" : Str)]) z l with | some i => Except.error (Er.bad "task" ((i : Nat) : Int)) | none => _) = _
    rw [hj]
    rfl
theorem bound_ext {m : Str} : ∀ {xs : List V} {i : Nat} {ws w : List Str}, bound m xs i ws = .inr w → ∃ new, w = ws ++ new ∧ ∀ y ∈ new, y ∉ ws
  | [], _, ws, _, h => by
    cases h
    exact ⟨[], (List.append_nil _).symm, fun _ h => absurd h List.not_mem_nil⟩
  | .str z :: r, i, ws, w, h => by
    have e : bound m (.str z :: r) i ws = if rowB ws m true z = true then bound m r (i + 1) (if hasS ws (fst z) = true then ws else ws ++ [fst z]) else .inl i := rfl
    rw [e] at h
    split at h
    · by_cases hs : hasS ws (fst z) = true
      · rw [if_pos hs] at h
        exact bound_ext h
      · rw [if_neg hs] at h
        obtain ⟨new, e2, hn⟩ := bound_ext h
        refine ⟨fst z :: new, by rw [e2, List.append_assoc]; rfl, fun y hy => ?_⟩
        rcases List.mem_cons.mp hy with q | q
        · rw [q]
          exact fun c => hs (hasS_mem.mpr c)
        · exact fun c => hn y q (List.mem_append_left _ c)
    · cases h
  | .int _ :: _, _, _, _, h => by cases h
  | .bl _ :: _, _, _, _, h => by cases h
  | .non :: _, _, _, _, h => by cases h
  | .ref _ :: _, _, _, _, h => by cases h
  | .flt _ :: _, _, _, _, h => by cases h
  | .byt _ :: _, _, _, _, h => by cases h
  | .ty _ :: _, _, _, _, h => by cases h
theorem owns_ext {ws new : List Str} (h : ∀ y ∈ new, y ∉ ws) : owns ws (ws ++ new) = new := by
  unfold owns
  rw [List.filter_append]
  have e1 : ws.filter (fun z => !hasS ws z) = [] := List.filter_eq_nil_iff.mpr fun a ha => by
    rw [hasS_mem.mpr ha]
    exact Bool.noConfusion
  have e2 : new.filter (fun z => !hasS ws z) = new := List.filter_eq_self.mpr fun a ha => by
    cases c : hasS ws a with
    | false => rfl
    | true => exact absurd (hasS_mem.mp c) (h a ha)
  rw [e1, e2]
  rfl
/-- behind the module -/
theorem rem_0 (h : remE r z oa ob oc 0 kw iw) {l : List V} {w : List Str} (ho : oa = some l) (hl : l.length ≤ 6) (hb : bound z l 0 kw = .inr w) : r = if 3 < w.length then .error (.many "globals") else pC z l w ob oc := by
  obtain ⟨rfl, _, e1⟩ := h
  rw [e1, ho]
  unfold pM
  rw [argE_ok hl]
  show (boundE "module" z [] l).bind _ = _
  unfold boundE
  rw [hb]
  rfl
theorem rem_1 (h : remE r z oa ob oc 1 kw iw) {l : List V} {w : List Str} (ho : ob = some l) (hl : l.length ≤ 6) (hb : bound z l 0 kw = .inr w) : ∃ xs, r = if (decide (4 < w.length) || decide (iw.length + 2 < w.length)) = true then .error (.many "names") else pT z xs l iw (owns iw w) oc := by
  obtain ⟨rfl, _, _, xs, e1⟩ := h
  refine ⟨xs, ?_⟩
  rw [e1, ho]
  unfold pC
  rw [argE_ok hl]
  show (boundE "caller" z kw l).bind _ = _
  unfold boundE
  rw [hb]
  obtain ⟨new, e2, hn⟩ := bound_ext hb
  have eo : (owns kw w).length = w.length - kw.length := by
    rw [e2, owns_ext hn, List.length_append]
    omega
  have el : w.length = kw.length + new.length := by rw [e2, List.length_append]
  show (if (decide (2 < (owns kw w).length) || decide (4 < w.length)) = true then _ else _) = _
  have ec : (decide (2 < (owns kw w).length) || decide (4 < w.length)) = (decide (4 < w.length) || decide (kw.length + 2 < w.length)) := by
    rw [Bool.or_comm, eo]
    congr 1
    by_cases q : 2 < w.length - kw.length
    · rw [decide_eq_true q, decide_eq_true (by omega)]
    · rw [decide_eq_false q, decide_eq_false (by omega)]
  rw [ec]
theorem rem_2 (h : remE r z oa ob oc 2 kw iw) {l : List V} (ho : oc = some l) (hl : l.length ≤ 16) (hb : outF 2 kw z l = none) : ∃ p, r = .ok p := by
  obtain ⟨rfl, _, _, xs, ys, os, e1⟩ := h
  have hj : taskE (iw ++ [("item" : Str), ("out" : Str)]) z l = none := hb
  rw [e1, ho]
  unfold pT
  rw [argE_ok hl]
  refine ⟨⟨z, xs, ys, l, iw, os⟩, ?_⟩
  show (match taskE (iw ++ [("item" : Str), ("out" : Str)]) z l with | some i => Except.error (Er.bad "task" ((i : Nat) : Int)) | none => _) = _
  rw [hj]
end
end WB

set_option Elab.async false
set_option linter.all false
set_option maxRecDepth 100000
set_option maxHeartbeats 4000000
namespace WB
open PySem L2
/-! ### what is told of an error, as data -/
def ErS : Er → Prop
  | .bad p i => SmallS p ∧ i.natAbs ≤ 1000
  | .many w => SmallS w
theorem bound_lt {m : Str} : ∀ {xs : List V} {i : Nat} {ws : List Str} {j : Nat}, bound m xs i ws = .inl j → j < i + xs.length
  | [], _, _, _, h => by cases h
  | .str z :: r, i, ws, j, h => by
    have e : bound m (.str z :: r) i ws = if rowB ws m true z = true then bound m r (i + 1) (if hasS ws (fst z) = true then ws else ws ++ [fst z]) else .inl i := rfl
    rw [e] at h
    show j < i + (r.length + 1)
    split at h
    · have := bound_lt h
      omega
    · cases h
      omega
  | .int _ :: r, i, _, _, h => by cases h; show i < i + (r.length + 1); omega
  | .bl _ :: r, i, _, _, h => by cases h; show i < i + (r.length + 1); omega
  | .non :: r, i, _, _, h => by cases h; show i < i + (r.length + 1); omega
  | .ref _ :: r, i, _, _, h => by cases h; show i < i + (r.length + 1); omega
  | .flt _ :: r, i, _, _, h => by cases h; show i < i + (r.length + 1); omega
  | .byt _ :: r, i, _, _, h => by cases h; show i < i + (r.length + 1); omega
  | .ty _ :: r, i, _, _, h => by cases h; show i < i + (r.length + 1); omega
theorem taskF_lt {ws : List Str} {m : Str} : ∀ {xs : List V} {i : Nat} {bs : List Str} {j : Nat}, taskF ws m xs i bs = .inl j → j < i + xs.length
  | [], _, _, _, h => by cases h
  | .str z :: r, i, bs, j, h => by
    have e : taskF ws m (.str z :: r) i bs = if taskB ws m z = true then (match blocks z bs with | some bs' => taskF ws m r (i + 1) bs' | none => .inl i) else .inl i := rfl
    rw [e] at h
    show j < i + (r.length + 1)
    split at h
    · split at h
      · have := taskF_lt h
        omega
      · cases h
        omega
    · cases h
      omega
  | .int _ :: r, i, _, _, h => by cases h; show i < i + (r.length + 1); omega
  | .bl _ :: r, i, _, _, h => by cases h; show i < i + (r.length + 1); omega
  | .non :: r, i, _, _, h => by cases h; show i < i + (r.length + 1); omega
  | .ref _ :: r, i, _, _, h => by cases h; show i < i + (r.length + 1); omega
  | .flt _ :: r, i, _, _, h => by cases h; show i < i + (r.length + 1); omega
  | .byt _ :: r, i, _, _, h => by cases h; show i < i + (r.length + 1); omega
  | .ty _ :: r, i, _, _, h => by cases h; show i < i + (r.length + 1); omega
theorem arg_ers {p : Str} {most : Nat} {o : Option (List V)} {e : Er} (hp : SmallS p) (h : argE p most o = .error e) : ErS e := by
  cases o with
  | none =>
    cases h
    exact ⟨hp, by decide⟩
  | some xs =>
    unfold argE at h
    dsimp only at h
    split at h
    · cases h
      exact ⟨by decide, by decide⟩
    · cases h
theorem bound_ers {p m : Str} {ws : List Str} {xs : List V} {e : Er} (hp : SmallS p) (hl : xs.length ≤ 40) (h : boundE p m ws xs = .error e) : ErS e := by
  unfold boundE at h
  split at h
  · rename_i j hj
    cases h
    have := bound_lt hj
    exact ⟨hp, by omega⟩
  · cases h
def Len30 (o : Option (List V)) : Prop := ∀ xs, o = some xs → xs.length ≤ 40
theorem arg_len {p : Str} {most : Nat} {o : Option (List V)} {xs : List V} (h : argE p most o = .ok xs) : o = some xs := by
  cases o with
  | none => cases h
  | some ys =>
    unfold argE at h
    dsimp only at h
    split at h
    · cases h
    · cases h
      rfl
theorem pT_ers {m : Str} {xs ys : List V} {ws os : List Str} {oc : Option (List V)} {e : Er} (hc : Len30 oc) (h : pT m xs ys ws os oc = .error e) : ErS e := by
  unfold pT at h
  cases ha : argE "task" 16 oc with
  | error e2 =>
    rw [ha] at h
    cases h
    exact arg_ers ⟨by decide, by decide⟩ ha
  | ok zs =>
    rw [ha] at h
    have hz := hc zs (arg_len ha)
    have h : (match taskE (ws ++ [("item" : Str), ("out" : Str)]) m zs with | some i => Except.error (Er.bad "task" ((i : Nat) : Int)) | none => Except.ok (⟨m, xs, ys, zs, ws, os⟩ : Prog)) = .error e := h
    split at h
    · rename_i j hj
      cases h
      refine ⟨⟨by decide, by decide⟩, ?_⟩
      unfold taskE at hj
      split at hj
      · rename_i j2 hj2
        cases hj
        have := taskF_lt hj2
        omega
      · split at hj
        · cases hj
        · cases hj
          omega
    · cases h
theorem pC_ers {m : Str} {xs : List V} {ws : List Str} {ob oc : Option (List V)} {e : Er} (hb : Len30 ob) (hc : Len30 oc) (h : pC m xs ws ob oc = .error e) : ErS e := by
  unfold pC at h
  cases ha : argE "caller" 6 ob with
  | error e2 =>
    rw [ha] at h
    cases h
    exact arg_ers ⟨by decide, by decide⟩ ha
  | ok ys =>
    rw [ha] at h
    have hz := hb ys (arg_len ha)
    have h : ((boundE "caller" m ws ys).bind fun w2 => if (decide (2 < (owns ws w2).length) || decide (4 < w2.length)) = true then .error (.many "names") else pT m xs ys ws (owns ws w2) oc) = .error e := h
    cases hbd : boundE "caller" m ws ys with
    | error e2 =>
      rw [hbd] at h
      cases h
      exact bound_ers ⟨by decide, by decide⟩ hz hbd
    | ok w2 =>
      rw [hbd] at h
      have h : (if (decide (2 < (owns ws w2).length) || decide (4 < w2.length)) = true then .error (.many "names") else pT m xs ys ws (owns ws w2) oc) = Except.error e := h
      split at h
      · cases h
        exact ⟨by decide, by decide⟩
      · exact pT_ers hc h
theorem prog_ers {x : V} {oa ob oc : Option (List V)} {e : Er} (ha : Len30 oa) (hb : Len30 ob) (hc : Len30 oc) (h : progE x oa ob oc = .error e) : ErS e := by
  unfold progE at h
  split at h
  · unfold pM at h
    cases hx : argE "module" 6 oa with
    | error e2 =>
      rw [hx] at h
      cases h
      exact arg_ers ⟨by decide, by decide⟩ hx
    | ok xs =>
      rw [hx] at h
      have hz := ha xs (arg_len hx)
      have h : ((boundE "module" (txtV x) [] xs).bind fun ws => if 3 < ws.length then .error (.many "globals") else pC (txtV x) xs ws ob oc) = .error e := h
      cases hbd : boundE "module" (txtV x) [] xs with
      | error e2 =>
        rw [hbd] at h
        cases h
        exact bound_ers ⟨by decide, by decide⟩ hz hbd
      | ok w2 =>
        rw [hbd] at h
        have h : (if 3 < w2.length then .error (.many "globals") else pC (txtV x) xs w2 ob oc) = Except.error e := h
        split at h
        · cases h
          exact ⟨by decide, by decide⟩
        · exact pC_ers hb hc h
  · cases h
    exact ⟨⟨by decide, by decide⟩, by decide⟩
def dE : Except Er Prog → PyData
  | .ok _ => .none
  | .error (.bad p i) => .tuple [.str "program", .str p, .int i]
  | .error (.many w) => .tuple [.str "many", .str w]
theorem okd_fitT {ds : List PyData} (h : ∀ d ∈ ds, Fit d) (hl : ds.length ≤ 8) : OkD (.tuple ds) := by
  obtain ⟨h1, h2, h3, h4⟩ := fit_all ds h
  refine ⟨h1, h2, ?_, .inr ?_⟩
  · show PyData.depthAll ds + 1 ≤ 64
    omega
  · show (tupleText (PyData.shownAll ds)).length ≤ _
    exact Nat.le_trans (tuple_lenN (m := 60000) (k := 8) h4 (by rw [shownAll_len]; exact hl)) (by decide)
end WB
namespace WB
open PySem L2
theorem fit_str1 {z : Str} (h : SmallS z) : Fit (.str z) := ⟨rfl, rfl, Nat.zero_le _, Nat.le_trans (repr_len h) (by decide)⟩
theorem fit_int1 {i : Int} (h : i.natAbs ≤ 1000) : Fit (.int i) := by
  obtain ⟨h1, h2⟩ := fit_num (i := i) (Nat.lt_of_le_of_lt h (by decide +kernel))
  exact ⟨h1, rfl, Nat.zero_le _, Nat.le_trans h2 (by decide)⟩
theorem lay_str1 {z : Str} (h : SmallS z) : PyData.canLay0 (.str z) = true := by
  have e : (PyData.canLay0 (.str z) && true) = true := lay_texts [z] fun y hy => by
    rw [List.mem_singleton.mp hy]
    exact h.2
  rw [Bool.and_true] at e
  exact e
theorem data_ans {K : PySem.W.Frag} {H : Hp} {v : V} {r : Except Er Prog} (h : AnsE H v r) : Dp K H v (dE r) := by
  match r, h with
  | .ok _, h =>
    have h : v = .non := h
    subst h
    exact .non
  | .error (.bad p i), ⟨t, e, h2⟩ =>
    subst e
    exact .tup (SqT.of h2) (.cons (.str _) (.cons (.str _) (.cons (.int _) .nil)))
  | .error (.many w), ⟨t, e, h2⟩ =>
    subst e
    exact .tup (SqT.of h2) (.cons (.str _) (.cons (.str _) .nil))
theorem ok_dE {r : Except Er Prog} (h : ∀ e, r = .error e → ErS e) : OkD (dE r) ∧ SeqAt.shaped (dE r) = true ∧ PyData.eqv (dE r) (dE r) = true := by
  match r, h with
  | .ok _, _ => exact ⟨⟨rfl, rfl, Nat.zero_le _, .inr (show (PyData.shown .none).length ≤ sizeLine by decide +kernel)⟩, rfl, rfl⟩
  | .error (.bad p i), h =>
    obtain ⟨hp, hi⟩ := h _ rfl
    have s1 : SmallS "program" := ⟨by decide, by decide⟩
    refine ⟨okd_fitT (fun d hd => ?_) (by show 3 ≤ 8; decide), ?_, ?_⟩
    · simp only [List.mem_cons, List.not_mem_nil, or_false] at hd
      rcases hd with rfl | rfl | rfl
      · exact fit_str1 s1
      · exact fit_str1 hp
      · exact fit_int1 hi
    · show ((PyData.canLay0 (.str "program") && (PyData.canLay0 (.str p) && (true && true))) && decide _) = true
      rw [lay_str1 s1, lay_str1 hp]
      rfl
    · show (("program" : Str) == "program" && ((p == p) && ((i == i) && true))) = true
      rw [beq_self_eq_true, beq_self_eq_true, beq_self_eq_true]
      rfl
  | .error (.many w), h =>
    have hp := h _ rfl
    have s1 : SmallS "many" := ⟨by decide, by decide⟩
    refine ⟨okd_fitT (fun d hd => ?_) (by show 2 ≤ 8; decide), ?_, ?_⟩
    · simp only [List.mem_cons, List.not_mem_nil, or_false] at hd
      rcases hd with rfl | rfl
      · exact fit_str1 s1
      · exact fit_str1 hp
    · show ((PyData.canLay0 (.str "many") && (PyData.canLay0 (.str w) && true)) && decide _) = true
      rw [lay_str1 s1, lay_str1 hp]
      rfl
    · show (("many" : Str) == "many" && ((w == w) && true)) = true
      rw [beq_self_eq_true, beq_self_eq_true]
      rfl
def spSameR (K : PySem.W.Frag) : Sp := fun vs H Q _ => ∃ (x y : V) (r : Except Er Prog), vs = [x, y] ∧ AnsE H x r ∧ AnsE H y r ∧ (∀ e, r = .error e → ErS e) ∧ Q (.bl true) H
end WB
namespace WB
open PySem L2
def spPadD : Sp := fun vs H Q _ => ∃ (p q l1 l2 : Addr) (rs ws : List Str) (mo n : Nat), vs = [.ref p, .ref l1, .ref l2, .int (mo : Nat)] ∧ StrA H p q n ∧ n < 2 ^ 50 ∧ l1 ≠ p ∧ l2 ≠ p ∧ H l1 = some (.lst (rs.map V.str)) ∧ H l2 = some (.lst (ws.map V.str)) ∧ rs.length ≤ 16 ∧ ws.length ≤ 20 ∧ (∀ z ∈ rs, Sm 30 z) ∧ (∀ z ∈ ws, Sm 8 z) ∧ mo ≤ 16 ∧
  ∀ H' r (rs' : List Str), Bar p H H' → StrA H' p q (n + 5) → H r = none → H' r = some (.lst (rs'.map V.str)) → rs'.length ≤ 30 → (∀ z ∈ rs', Sm 30 z) → Q (.ref r) H'
end WB

set_option Elab.async false
set_option linter.all false
set_option maxRecDepth 100000
set_option maxHeartbeats 4000000
namespace WB
open PySem L2
theorem rep_flat {f : Str} : ∀ n : Nat, (List.replicate n [V.str f]).flatten = (List.replicate n f).map V.str
  | 0 => rfl
  | n + 1 => by
    rw [List.replicate_succ, List.flatten_cons, rep_flat n, List.replicate_succ, List.map_cons]
    rfl
end WB

set_option Elab.async false
set_option linter.all false
set_option maxRecDepth 100000
set_option maxHeartbeats 4000000
namespace WB
open PySem L2
/-- a value that is no list of rows -/
def NoList (K : PySem.W.Frag) (H : Hp) (x : V) : Prop := ∃ t, (∀ H', Same H H' → TyX K H' x (.type t)) ∧ kitB t "list" = some false
theorem rowF_str {K : PySem.W.Frag} {H : Hp} {z : Str} (h : Sm 60 z) : RowF K H (.str z) := by
  refine ⟨⟨fun y e => ?_, fun H' _ => .inl ⟨z, rfl, Nat.le_trans h.1 (by decide)⟩⟩, fun y e => ?_⟩
  · cases e
    exact h.small
  · cases e
    exact Nat.lt_of_le_of_lt h.1 (by decide)
theorem rowF_non {K : PySem.W.Frag} {H : Hp} : RowF K H .non := ⟨⟨fun _ e => (by cases e), fun H' _ => .inr ⟨"NoneType", .base .non, by decide +kernel⟩⟩, fun _ e => (by cases e)⟩
theorem rowF_int {K : PySem.W.Frag} {H : Hp} {i : Int} : RowF K H (.int i) := ⟨⟨fun _ e => (by cases e), fun H' _ => .inr ⟨"int", .base (.int i), by decide +kernel⟩⟩, fun _ e => (by cases e)⟩
def spOddD (K : PySem.W.Frag) : Sp := fun vs H Q _ => ∃ (p q l : Addr) (rs : List Str) (n : Nat), vs = [.ref p, .ref l] ∧ StrA H p q n ∧ n < 2 ^ 50 ∧ l ≠ p ∧ H p ≠ none ∧ H l = some (.lst (rs.map V.str)) ∧ rs.length ≤ 30 ∧ (∀ z ∈ rs, Sm 30 z) ∧
  ∀ H' v o, Bar p H H' → StrA H' p q (n + 5) → (∀ H2, Bar p H' H2 → ArgF K H2 v o) → Q v H'
end WB

set_option Elab.async false
set_option linter.all false
set_option maxRecDepth 100000
set_option maxHeartbeats 4000000
namespace WB
open PySem PySem.Spec L2 PyProof.Rows
/-! ### text[::-1], told weakly -/
def tRev (te : TE) (ts : TO) : TE := fun σ H Q => te σ H fun x H1 => ts σ H1 fun o H2 => ∃ z : Str, x = .str z ∧ o = some (-1) ∧ z.length ≤ sizeLine ∧ ∀ r : Str, r.length = z.length → (∀ c ∈ r.cps.toList, c ∈ z.cps.toList) → Q (.str r) H2
theorem rev_len (z : Str) (u : Tok) : (Txt.sliceBy z none none (-1, u)).length = z.length := step_rev_len z u
theorem rev_mem (z : Str) (u : Tok) : ∀ c ∈ (Txt.sliceBy z none none (-1, u)).cps.toList, c ∈ z.cps.toList := fun c hc => by
  rw [step_rev_list] at hc
  obtain ⟨k, hk, rfl⟩ := List.mem_map.mp hc
  have hk := List.mem_range.mp hk
  have hi : z.length - 1 - k < z.cps.size := by
    have : z.length = z.cps.size := rfl
    omega
  have e : z.cps.getD (z.length - 1 - k) 0 = z.cps[z.length - 1 - k] := by simp [Array.getD, hi]
  rw [e]
  exact Array.mem_toList_iff.mpr (Array.getElem_mem hi)
theorem pe_rev {X : Cx} {e st : Expr} {te : TE} {ts : TO} {p2 pos : Pos} (he : PE X e te) (hs : PO X (some st) ts) : PE X (.Subscript e (.Slice none none (some st) p2) pos) (tRev te ts) := by
  refine ⟨fun pins s σ H Q I h => ?_⟩
  refine Subscript_ (thn (he.run pins s σ H _ I h) fun v s1 ⟨x, H1, I1, r1, q1⟩ => ?_)
  refine wpAny_Slice ?_
  rw [evalPart_none]
  refine wpAny_pure (wpAny_pure ?_)
  refine thn (hs.run pins s1 σ H1 _ I1 q1) fun vs s3 ⟨o, H3, I3, ps, q3⟩ => ?_
  obtain ⟨z, rfl, rfl, hz, q⟩ := q3
  obtain ⟨t, rfl⟩ := r1
  obtain ⟨st', e1, e2⟩ := IsPart.raw ps
  subst e1
  obtain ⟨u, rfl⟩ : ∃ u, st' = some (-1, u) := by
    match st', e2 with
    | some (i, u), e2 =>
      have : (some i : Option Int) = some (-1) := by first | exact e2 | exact e2.symm
      cases this
      exact ⟨u, rfl⟩
  have I4 : Inv X pins σ H3 { s3 with heap := s3.heap.push { cls := .type "slice", data := .fields #[.none, .none, partValue (some ((-1 : Int), u))] } } := I3.kept (t' := s3.toks) fun b ob q => Heap.get?_push_of_some _ q
  show wpAny (model X.prog X.w) X.A (subscriptTail e (.Slice none none (some st) p2) (.str z t) (.ref s3.heap.objs.size)) (EP X pins σ Q) X.xe { s3 with heap := s3.heap.push { cls := .type "slice", data := .fields #[.none, .none, partValue (some ((-1 : Int), u))] } }
  refine tail_any (ops := [.ref s3.heap.objs.size, .str z t]) (typeIs_str _ _ _) F.slot_str_getitem.lookup ?_ (by with_unfolding_all rfl)
  refine wpAny_getItem_str_slice (l := none) (u := none) (st := some (-1, u)) ⟨_, Heap.get?_push_size _ rfl, rfl, rfl⟩ rfl ?_
  have q2 := q _ (rev_len z u) (rev_mem z u)
  have hl := rev_len z u
  have c : ¬ (((((some ((-1 : Int), u)).map (·.1)).getD 1 == 1) && ((slicePicked z none none (some ((-1 : Int), u))).length == z.length)) = true) := by
    have : ((((some ((-1 : Int), u)).map (·.1)).getD 1 == 1)) = false := rfl
    rw [this, Bool.false_and]
    exact Bool.noConfusion
  have es : Txt.sliceBy z none none (-1, u) = ⟨((slicePicked z none none (some ((-1 : Int), u))).filterMap (z.cps[·]?)).toArray⟩ := by
    unfold Txt.sliceBy
    rw [if_neg c]
  rw [es] at q2 hl
  unfold sliceMade
  rw [if_neg c]
  exact ⟨by rw [hl]; exact hz, .str _, H3, I4.tok _, ⟨_, rfl⟩, q2⟩
end WB
namespace WB
open PySem L2
/-- a value that may stand for marks -/
def MarkV (K : PySem.W.Frag) (H : Hp) (x : V) : Prop := (∀ H', Same H H' → Thing K H' x) ∧ ∀ z, x = .str z → z.length ≤ 1000
def spAnyM (K : PySem.W.Frag) : Sp := fun vs H Q _ => ∃ (p q : Addr) (n : Nat), vs = [.ref p] ∧ StrA H p q n ∧ n < 2 ^ 50 ∧ ∀ H' v, Bar p H H' → StrA H' p q (n + 300) → (∀ H2, Bar p H' H2 → MarkV K H2 v) → Q v H'
theorem mark_str {K : PySem.W.Frag} {H : Hp} {z : Str} (h : z.length ≤ 1000) : MarkV K H (.str z) := ⟨fun _ _ => .inl ⟨z, rfl, h⟩, fun y e => by cases e; exact h⟩
theorem mark_non {K : PySem.W.Frag} {H : Hp} : MarkV K H .non := ⟨fun _ _ => .inr ⟨"NoneType", .base .non, by decide +kernel⟩, fun _ e => by cases e⟩
theorem mark_int {K : PySem.W.Frag} {H : Hp} {i : Int} : MarkV K H (.int i) := ⟨fun _ _ => .inr ⟨"int", .base (.int i), by decide +kernel⟩, fun _ e => by cases e⟩
theorem mark_bl {K : PySem.W.Frag} {H : Hp} {b : Bool} : MarkV K H (.bl b) := ⟨fun _ _ => .inr ⟨"bool", .base (.bl b), by decide +kernel⟩, fun _ e => by cases e⟩
theorem mark_lst {K : PySem.W.Frag} {H : Hp} {a : Addr} {xs : List V} (h : H a = some (.lst xs)) : MarkV K H (.ref a) := ⟨fun _ s => .inr ⟨"list", .base (.lst (s _ _ h)), by decide +kernel⟩, fun _ e => by cases e⟩
theorem mark_tup {K : PySem.W.Frag} {H : Hp} {a : Addr} {xs : List V} (h : H a = some (.tup xs)) : MarkV K H (.ref a) := ⟨fun _ s => .inr ⟨"tuple", .base (.tup (s _ _ h)), by decide +kernel⟩, fun _ e => by cases e⟩
end WB
namespace WB
open PySem L2
theorem mulok_of {z : Str} {n : Nat} (hz : z.length ≤ 10) (hn : n ≤ 40) : PySem.MulOk z (n : Int) := by
  refine ⟨?_, fun h1 _ => ?_, fun _ _ => ?_⟩
  · rw [Bool.or_eq_false_iff, decide_eq_false_iff_not, decide_eq_false_iff_not]
    omega
  · intro h
    have h0 : 0 < (n : Int) := by omega
    have h2 : (10 : Int) * n ≤ 2 ^ 63 - 1 := by omega
    have h3 : (10 : Int) ≤ (2 ^ 63 - 1) / n := (Int.le_ediv_iff_mul_le h0).mpr h2
    omega
  · show decide (z.length * (n : Int).toNat > sizeLine) = false
    refine decide_eq_false ?_
    have h4 : (n : Int).toNat = n := Int.toNat_natCast n
    rw [h4]
    have h5 : z.length * n ≤ 10 * 40 := Nat.mul_le_mul hz hn
    have h6 : 400 ≤ sizeLine := by decide
    omega
theorem mul_len {z : Str} {n : Nat} (hz : z.length ≤ 10) (hn : n = 2) : (Txt.mul z (n : Int)).length ≤ 1000 := by
  subst hn
  unfold Txt.mul
  split
  · exact Nat.zero_le _
  · split
    · omega
    · show ((List.replicate 2 z.cps).foldl (· ++ ·) #[]).size ≤ 1000
      show ((#[] ++ z.cps) ++ z.cps).size ≤ 1000
      rw [Array.size_append, Array.size_append]
      have : z.cps.size ≤ 10 := hz
      have h0 : (#[] : Array Nat).size = 0 := rfl
      omega
end WB

set_option Elab.async false
set_option linter.all false
set_option maxRecDepth 100000
set_option maxHeartbeats 4000000
namespace WB
open PySem L2
def spMarksW : Sp := fun vs H Q _ => ∃ (p q : Addr) (n : Nat), vs = [.ref p, .int 0, .int 3] ∧ StrA H p q n ∧ n < 2 ^ 58 ∧ ∀ H' z, Bar p H H' → StrA H' p q (n + 110) → WordV z → marksB (.str z) = true → Q (.str z) H'
end WB

set_option Elab.async false
set_option linter.all false
set_option maxRecDepth 100000
set_option maxHeartbeats 4000000
namespace WB
open PySem L2
def spPlains5 (K : PySem.W.Frag) : Sp := fun vs H Q _ => ∃ (p q l1 l2 : Addr) (ks fs : List Str) (m : Str) (n : Nat), vs = [.ref p, .ref l1, .ref l2, .int 5, .str m] ∧ StrA H p q n ∧ n < 2 ^ 50 ∧ l1 ≠ p ∧ l2 ≠ p ∧ H l1 = some (.lst (ks.map V.str)) ∧ H l2 = some (.lst (fs.map V.str)) ∧
  ks.length ≤ 8 ∧ fs.length ≤ 5 ∧ (∀ z ∈ ks, Sm 8 z) ∧ (∀ z ∈ fs, Sm 8 z) ∧ Sm 3 m ∧ ∀ H' r (rs : List Str), Bar p H H' → StrA H' p q (n + 400) → H r = none → H' r = some (.lst (rs.map V.str)) → rs.length ≤ 5 → (∀ z ∈ rs, Sm 30 z) → Q (.ref r) H'
def spWork15 : Sp := fun vs H Q _ => ∃ (p q l : Addr) (ws : List Str) (m : Str) (n : Nat), vs = [.ref p, .ref l, .str m, .int 15, .int 1] ∧ StrA H p q n ∧ n < 2 ^ 50 ∧ l ≠ p ∧ H l = some (.lst (ws.map V.str)) ∧ 0 < ws.length ∧ ws.length ≤ 20 ∧ (∀ z ∈ ws, Sm 8 z) ∧ Sm 3 m ∧ 1 ≤ m.length ∧
  ∀ H' r (rs : List Str), Bar p H H' → StrA H' p q (n + 2000) → H r = none → H' r = some (.lst (rs.map V.str)) → rs.length ≤ 15 → (∀ z ∈ rs, Sm 30 z) → Q (.ref r) H'
end WB

set_option Elab.async false
set_option linter.all false
set_option maxRecDepth 100000
set_option maxHeartbeats 4000000
namespace WB
open PySem L2
theorem sm_all {k : Nat} {ts : List Str} (h : (ts.all fun z => decide (z.length ≤ k) && z.cps.toList.all (fun c => decide (c < 1000 ∧ c ≠ 10))) = true) : ∀ z ∈ ts, Sm k z := fun z hz => by
  have := List.all_eq_true.mp h z hz
  rw [Bool.and_eq_true] at this
  exact ⟨of_decide_eq_true this.1, fun c hc => of_decide_eq_true (List.all_eq_true.mp this.2 c hc)⟩
theorem min2_int (a b : Int) : nuMin2 (.int a) (.int b) = some (.int (if b < a then b else a)) := by
  show some (if decide (b < a) = true then V.int b else V.int a) = _
  by_cases h : b < a
  · rw [decide_eq_true h, if_pos rfl, if_pos h]
  · rw [decide_eq_false h, if_neg Bool.false_ne_true, if_neg h]
theorem min3_int (a b c : Int) : ∃ z : Int, nuMin3 (.int a) (.int b) (.int c) = some (.int z) ∧ z ≤ a ∧ z ≤ b ∧ z ≤ c ∧ (z = a ∨ z = b ∨ z = c) := by
  unfold nuMin3
  rw [min2_int]
  show ∃ z : Int, nuMin2 (.int (if b < a then b else a)) (.int c) = some (.int z) ∧ _
  rw [min2_int]
  refine ⟨_, rfl, ?_⟩
  repeat' split
  all_goals omega
/-- what _law_drawn_parts gives with the sizes of law k27 -/
def spPartsD : Sp := fun vs H Q _ => ∃ (p q z : Addr) (m : Str) (n : Nat), vs = [.ref p, .str m, .ref z] ∧ StrA H p q n ∧ n < 2 ^ 49 ∧ z ≠ p ∧ H z = some (.tup [.int 3, .int 4, .int 5, .int 15, .int 1, .int 8]) ∧ WordV m ∧
  ∀ H' (t l1 l2 l3 l4 l5 : Addr) (r1 r2 r3 ws os : List Str), Bar p H H' → StrA H' p q (n + 4000) → t ≠ p → l1 ≠ p → l2 ≠ p → l3 ≠ p → l4 ≠ p → l5 ≠ p →
    H' t = some (.tup [.str m, .ref l1, .ref l2, .ref l3, .ref l4, .ref l5]) → H' l1 = some (.lst (r1.map V.str)) → H' l2 = some (.lst (r2.map V.str)) → H' l3 = some (.lst (r3.map V.str)) → H' l4 = some (.lst (ws.map V.str)) → H' l5 = some (.lst (os.map V.str)) →
    r1.length ≤ 15 → r2.length ≤ 15 → r3.length ≤ 15 → (∀ y ∈ r1, Sm 30 y) → (∀ y ∈ r2, Sm 30 y) → (∀ y ∈ r3, Sm 30 y) → ws.length ≤ 3 → os.length ≤ 2 → (∀ y ∈ ws, WordS y) → (∀ y ∈ os, WordS y) → Q (.ref t) H'
/-- a token: short, and no part of it is long -/
def spTok : Sp := fun vs H Q _ => ∃ (p q l : Addr) (ws : List Str) (m o : Str) (n : Nat), vs = [.ref p, .ref l, .str m, .str o] ∧ StrA H p q n ∧ n < 2 ^ 54 ∧ l ≠ p ∧ H l = some (.lst (ws.map V.str)) ∧ 0 < ws.length ∧ ws.length ≤ 20 ∧ (∀ z ∈ ws, Sm 8 z) ∧ WordV m ∧ Sm 8 o ∧
  ∀ H' z, Bar p H H' → StrA H' p q (n + 10) → Sm 9 z → Q (.str z) H'
/-- a row of tokens -/
def spRowT (K : PySem.W.Frag) : Sp := fun vs H Q _ => ∃ (p q l : Addr) (ws : List Str) (m o : Str) (n : Nat), vs = [.ref p, .ref l, .str m, .str o] ∧ StrA H p q n ∧ n < 2 ^ 53 ∧ l ≠ p ∧ H l = some (.lst (ws.map V.str)) ∧ 0 < ws.length ∧ ws.length ≤ 20 ∧ (∀ z ∈ ws, Sm 8 z) ∧ WordV m ∧ Sm 8 o ∧
  ∀ H' z, Bar p H H' → StrA H' p q (n + 200) → z.length < 99 → SmallS z → Q (.str z) H'
end WB

set_option Elab.async false
set_option linter.all false
set_option maxRecDepth 100000
set_option maxHeartbeats 4000000
namespace WB
open PySem L2
/-- how long the texts are, each with one sign more -/
def wt : List Str → Nat
  | [] => 0
  | z :: r => z.length + 1 + wt r
def Ch (z : Str) : Prop := ∀ c ∈ z.cps.toList, c < 1000
theorem wt_app (a b : List Str) : wt (a ++ b) = wt a + wt b := by
  induction a with
  | nil => simp [wt]
  | cons z r ih => show z.length + 1 + wt (r ++ b) = z.length + 1 + wt r + wt b; omega
theorem wt_len : ∀ ts : List Str, ts.length ≤ wt ts
  | [] => Nat.le_refl 0
  | z :: r => by
    have := wt_len r
    show r.length + 1 ≤ z.length + 1 + wt r
    omega
theorem wt_sum : ∀ ts : List Str, (ts.map (·.length)).sum + ts.length * 1 = wt ts
  | [] => rfl
  | z :: r => by
    have := wt_sum r
    show z.length + (r.map (·.length)).sum + (r.length + 1) * 1 = z.length + 1 + wt r
    omega
theorem join_wt : ∀ {ts : List Str}, ts ≠ [] → (Str.join " " ts).length + 1 = wt ts
  | [], h => absurd rfl h
  | [z], _ => rfl
  | z :: y :: r, _ => by
    have := join_wt (ts := y :: r) (by simp)
    show (z ++ " " ++ Str.join " " (y :: r)).length + 1 = z.length + 1 + wt (y :: r)
    rw [Str.length_append, Str.length_append, ← this]
    show z.length + 1 + (Str.join " " (y :: r)).length + 1 = _
    omega
theorem ch_app {a b : Str} (ha : Ch a) (hb : Ch b) : Ch (a ++ b) := fun c hc => by
  have e : (a ++ b).cps.toList = a.cps.toList ++ b.cps.toList := by rw [Str.cps_append, Array.toList_append]
  rw [e] at hc
  exact (List.mem_append.mp hc).elim (ha c) (hb c)
theorem join_ch : ∀ {ts : List Str}, (∀ z ∈ ts, Ch z) → Ch (Str.join " " ts)
  | [], _ => fun c hc => by
    have : c ∈ ([] : List Nat) := hc
    cases this
  | [z], h => h z (List.mem_singleton.mpr rfl)
  | z :: y :: r, h => by
    show Ch (z ++ " " ++ Str.join " " (y :: r))
    refine ch_app (ch_app (h z List.mem_cons_self) (fun c hc => ?_)) (join_ch fun x hx => h x (List.mem_cons_of_mem _ hx))
    have hc : c ∈ [32] := hc
    rw [List.mem_singleton.mp hc]
    decide
theorem wt_parts (z : Str) : wt (parts z) = z.length + 1 := by
  rw [← join_wt (ts := parts z) (fun e => by have := parts_pos z; rw [e] at this; cases this), parts_join]
theorem ch_of {n : Nat} {z : Str} (h : Sm n z) : Ch z := fun c hc => (h.2 c hc).1
theorem wt_cut {ts : List Str} {i : Nat} {y : Str} (h : ts[i]? = some y) : wt (ts.take i) + (y.length + 1) + wt (ts.drop (i + 1)) = wt ts := by
  obtain ⟨hi, rfl⟩ := List.getElem?_eq_some_iff.mp h
  have e : ts.take i ++ (ts[i] :: ts.drop (i + 1)) = ts := by rw [List.getElem_cons_drop, List.take_append_drop]
  have e2 := congrArg wt e
  rw [wt_app] at e2
  have e3 : wt (ts[i] :: ts.drop (i + 1)) = ts[i].length + 1 + wt (ts.drop (i + 1)) := rfl
  omega
theorem wt_le {k : Nat} : ∀ {ts : List Str}, (∀ z ∈ ts, z.length ≤ k) → wt ts ≤ (k + 1) * ts.length
  | [], _ => Nat.zero_le _
  | z :: r, h => by
    have h1 := h z List.mem_cons_self
    have h2 := wt_le (k := k) (ts := r) fun x hx => h x (List.mem_cons_of_mem _ hx)
    show z.length + 1 + wt r ≤ (k + 1) * (r.length + 1)
    rw [Nat.mul_add]
    omega
theorem join_out {ts : List Str} (hne : ts ≠ []) (hw : wt ts ≤ 99) (hc : ∀ z ∈ ts, Ch z) : (Txt.join " " ts).length < 99 ∧ SmallS (Txt.join " " ts) := by
  rw [show Txt.join " " ts = Str.join " " ts from TL.join_eq " " ts]
  have := join_wt hne
  exact ⟨by omega, by omega, join_ch hc⟩
end WB

set_option Elab.async false
set_option linter.all false
set_option maxRecDepth 100000
set_option maxHeartbeats 4000000
namespace WB
open PySem L2
theorem pT_ok {m : Str} {xs ys : List V} {ws os : List Str} {oc : Option (List V)} {r : Prog} (h : pT m xs ys ws os oc = .ok r) : r.xs = xs ∧ r.ys = ys ∧ oc = some r.zs := by
  unfold pT at h
  cases hc : argE "task" 16 oc with
  | error e =>
    rw [hc] at h
    cases h
  | ok zs =>
    rw [hc] at h
    have h : (match taskE (ws ++ [("item" : Str), ("out" : Str)]) m zs with
      | some i => Except.error (Er.bad "task" (i : Nat))
      | none => .ok ⟨m, xs, ys, zs, ws, os⟩) = Except.ok r := h
    split at h
    · cases h
    · cases h
      exact ⟨rfl, rfl, arg_len hc⟩
theorem pC_ok {m : Str} {xs : List V} {ws : List Str} {ob oc : Option (List V)} {r : Prog} (h : pC m xs ws ob oc = .ok r) : r.xs = xs ∧ ob = some r.ys ∧ oc = some r.zs := by
  unfold pC at h
  cases hb : argE "caller" 6 ob with
  | error e =>
    rw [hb] at h
    cases h
  | ok ys =>
    rw [hb] at h
    have h : ((boundE "caller" m ws ys).bind fun w2 => if (decide (2 < (owns ws w2).length) || decide (4 < w2.length)) = true then .error (.many "names") else pT m xs ys ws (owns ws w2) oc) = .ok r := h
    cases h2 : boundE "caller" m ws ys with
    | error e =>
      rw [h2] at h
      cases h
    | ok w2 =>
      rw [h2] at h
      have h : (if (decide (2 < (owns ws w2).length) || decide (4 < w2.length)) = true then .error (.many "names") else pT m xs ys ws (owns ws w2) oc) = Except.ok r := h
      split at h
      · cases h
      · obtain ⟨a, b, c⟩ := pT_ok h
        exact ⟨a, by rw [b]; exact arg_len hb, c⟩
theorem prog_ok {x : V} {oa ob oc : Option (List V)} {r : Prog} (h : progE x oa ob oc = .ok r) : oa = some r.xs ∧ ob = some r.ys ∧ oc = some r.zs := by
  unfold progE at h
  split at h
  · unfold pM at h
    cases ha : argE "module" 6 oa with
    | error e =>
      rw [ha] at h
      cases h
    | ok xs =>
      rw [ha] at h
      have h : ((boundE "module" (txtV x) [] xs).bind fun ws => if 3 < ws.length then .error (.many "globals") else pC (txtV x) xs ws ob oc) = .ok r := h
      cases h2 : boundE "module" (txtV x) [] xs with
      | error e =>
        rw [h2] at h
        cases h
      | ok w2 =>
        rw [h2] at h
        have h : (if 3 < w2.length then .error (.many "globals") else pC (txtV x) xs w2 ob oc) = Except.ok r := h
        split at h
        · cases h
        · obtain ⟨a, b, c⟩ := pC_ok h
          exact ⟨by rw [a]; exact arg_len ha, b, c⟩
  · cases h
def dL (ts : List Str) : PyData := .list (ts.map PyData.str)
theorem shaped_three {a b c : List Str} (ha : ∀ z ∈ a, SmallS z) (hb : ∀ z ∈ b, SmallS z) (hc : ∀ z ∈ c, SmallS z) : SeqAt.shaped (.list [dL a, dL b, dL c]) = true := by
  have sa := shaped_sm ha
  have sb := shaped_sm hb
  have sc := shaped_sm hc
  have l1 := SeqAt.canLay_of_shaped sa
  have l2 := SeqAt.canLay_of_shaped sb
  have l3 := SeqAt.canLay_of_shaped sc
  obtain ⟨_, _, h1, _⟩ := showAll_strs a
  obtain ⟨_, _, h2, _⟩ := showAll_strs b
  obtain ⟨_, _, h3, _⟩ := showAll_strs c
  have e1 : PyData.canLay0 (.list [dL a, dL b, dL c]) = true := by
    show PyData.canLayAll0 [dL a, dL b, dL c] = true
    simp only [PyData.canLayAll0, dL, l1, l2, l3, Bool.and_true, Bool.true_and]
  have e2 : PyData.depth (.list [dL a, dL b, dL c]) ≤ 64 := by
    simp only [PyData.depth, PyData.depthAll, dL, h1, h2, h3]
    decide
  unfold SeqAt.shaped
  rw [e1, decide_eq_true e2]
  rfl
theorem eqv_three {a b c : List Str} (ha : ∀ z ∈ a, SmallS z) (hb : ∀ z ∈ b, SmallS z) (hc : ∀ z ∈ c, SmallS z) : PyData.eqv (.list [dL a, dL b, dL c]) (.list [dL a, dL b, dL c]) = true :=
  SeqAt.eqv_refl _ (SeqAt.canLay_of_shaped (shaped_three ha hb hc))
theorem rowF_99 {K : PySem.W.Frag} {H : Hp} {z : Str} (h : z.length < 99) (s : SmallS z) : RowF K H (.str z) := by
  refine ⟨⟨fun y e => ?_, fun H' _ => .inl ⟨z, rfl, Nat.le_trans s.1 (by decide)⟩⟩, fun y e => ?_⟩
  · cases e
    exact s
  · cases e
    exact h
theorem argF_strs {K : PySem.W.Frag} {H : Hp} {y : Addr} {ts : List Str} (hy : H y = some (.lst (ts.map V.str))) (hl : ts.length ≤ 16) (h : ∀ z ∈ ts, z.length < 99 ∧ SmallS z) : ArgF K H (.ref y) (some (ts.map V.str)) := by
  refine ⟨y, rfl, hy, by rw [List.length_map]; omega, fun x hx => ?_⟩
  obtain ⟨z, hz, rfl⟩ := List.mem_map.mp hx
  exact rowF_99 (h z hz).1 (h z hz).2
theorem map_str_inj {a b : List Str} (h : a.map V.str = b.map V.str) : a = b := List.map_inj_right (fun x y e => by cases e; rfl) |>.mp h
theorem row30 {ts : List Str} (h : ∀ z ∈ ts, Sm 30 z) : ∀ z ∈ ts, z.length < 99 ∧ SmallS z := fun z hz => ⟨Nat.lt_of_le_of_lt (h z hz).1 (by decide), (h z hz).small⟩
theorem ins_all {ts : List Str} {z : Str} {i : Nat} (h : ∀ z ∈ ts, z.length < 99 ∧ SmallS z) (hz : z.length < 99 ∧ SmallS z) : ∀ y ∈ (ts.take i ++ [z]) ++ ts.drop i, y.length < 99 ∧ SmallS y := fun y hy => by
  rcases List.mem_append.mp hy with hy | hy
  · rcases List.mem_append.mp hy with hy | hy
    · exact h y (List.mem_of_mem_take hy)
    · rw [List.mem_singleton.mp hy]
      exact hz
  · exact h y (List.mem_of_mem_drop hy)
theorem ins_len {ts : List Str} {z : Str} {i : Nat} : ((ts.take i ++ [z]) ++ ts.drop i).length = ts.length + 1 := by
  rw [List.length_append, List.length_append, List.length_take, List.length_drop]
  show min i ts.length + 1 + (ts.length - i) = _
  omega
theorem insert_strs {rs : List Str} {z : Str} {i : Nat} : ((rs.map V.str).take i ++ [V.str z] ++ (rs.map V.str).drop i) = ((rs.take i ++ [z]) ++ rs.drop i).map V.str := by
  rw [List.map_append, List.map_append, List.map_take, List.map_drop]
  rfl
end WB

set_option Elab.async false
set_option linter.all false
set_option maxRecDepth 100000
set_option maxHeartbeats 4000000
namespace WB
open PySem L2
/-- what _law_drawn_parts gives with the sizes of laws k25, k30 -/
def spParts6 : Sp := fun vs H Q _ => ∃ (p q z : Addr) (m : Str) (n : Nat), vs = [.ref p, .str m, .ref z] ∧ StrA H p q n ∧ n < 2 ^ 49 ∧ z ≠ p ∧ H z = some (.tup [.int 3, .int 4, .int 6, .int 16, .int 1, .int 8]) ∧ WordV m ∧
  ∀ H' (t l1 l2 l3 l4 l5 : Addr) (r1 r2 r3 ws os : List Str), Bar p H H' → StrA H' p q (n + 4000) → t ≠ p → l1 ≠ p → l2 ≠ p → l3 ≠ p → l4 ≠ p → l5 ≠ p →
    H' t = some (.tup [.str m, .ref l1, .ref l2, .ref l3, .ref l4, .ref l5]) → H' l1 = some (.lst (r1.map V.str)) → H' l2 = some (.lst (r2.map V.str)) → H' l3 = some (.lst (r3.map V.str)) → H' l4 = some (.lst (ws.map V.str)) → H' l5 = some (.lst (os.map V.str)) →
    r1.length ≤ 6 → r2.length ≤ 6 → r3.length ≤ 16 → (∀ y ∈ r1, Sm 30 y) → (∀ y ∈ r2, Sm 30 y) → (∀ y ∈ r3, Sm 30 y) → ws.length ≤ 3 → os.length ≤ 2 → (∀ y ∈ ws, WordS y) → (∀ y ∈ os, WordS y) → Q (.ref t) H'
end WB

set_option Elab.async false
set_option linter.all false
set_option maxRecDepth 100000
set_option maxHeartbeats 4000000
namespace WB
open PySem L2
/-! ### lines of a program's text -/
/-- the first place of a line, from a place on -/
def FirstAt (z : Str) (ls : List Str) (s i : Nat) : Prop := s ≤ i ∧ ls[i]? = some z ∧ ∀ j, s ≤ j → j < i → ls[j]? ≠ some z
def NoneAt (z : Str) (ls : List Str) (s : Nat) : Prop := ∀ j, s ≤ j → ls[j]? ≠ some z
theorem FirstAt.one {z : Str} {ls : List Str} {s i j : Nat} (h : FirstAt z ls s i) (g : FirstAt z ls s j) : i = j := by
  rcases Nat.lt_trichotomy i j with e | e | e
  · exact absurd h.2.1 (g.2.2 i h.1 e)
  · exact e
  · exact absurd g.2.1 (h.2.2 j g.1 e)
theorem first_or (z : Str) (ls : List Str) (s : Nat) : (∃ i, FirstAt z ls s i) ∨ NoneAt z ls s := by
  by_cases h : ∃ i, s ≤ i ∧ ls[i]? = some z
  · left
    obtain ⟨i, hi⟩ := h
    induction i using Nat.strongRecOn with
    | _ i ih =>
      by_cases g : ∃ j, s ≤ j ∧ j < i ∧ ls[j]? = some z
      · obtain ⟨j, a, b, c⟩ := g
        exact ih j b ⟨a, c⟩
      · exact ⟨i, hi.1, hi.2, fun j a b c => g ⟨j, a, b, c⟩⟩
  · exact .inr fun j a b => h ⟨j, a, b⟩
/-- the places of a line, from a place on -/
def hits (z : Str) (ls : List Str) (s n : Nat) : List Nat := (List.range n).filter fun i => decide (s ≤ i) && decide (ls[i]? = some z)
theorem hits_succ {z : Str} {ls : List Str} {s n : Nat} : hits z ls s (n + 1) = hits z ls s n ++ (if (decide (s ≤ n) && decide (ls[n]? = some z)) = true then [n] else []) := by
  unfold hits
  rw [List.range_succ, List.filter_append, List.filter_cons, List.filter_nil]
theorem hits_mem {z : Str} {ls : List Str} {s n i : Nat} : i ∈ hits z ls s n ↔ i < n ∧ s ≤ i ∧ ls[i]? = some z := by
  unfold hits
  rw [List.mem_filter, List.mem_range, Bool.and_eq_true, decide_eq_true_iff, decide_eq_true_iff]
theorem hits_none {z : Str} {ls : List Str} {s : Nat} (h : hits z ls s ls.length = []) : NoneAt z ls s := fun j a b => by
  have : j ∈ hits z ls s ls.length := hits_mem.mpr ⟨(List.getElem?_eq_some_iff.mp b).1, a, b⟩
  rw [h] at this
  cases this
theorem hits_sorted (z : Str) (ls : List Str) (s n : Nat) : (hits z ls s n).Pairwise (· < ·) := List.Pairwise.filter _ List.pairwise_lt_range
theorem hits_first {z : Str} {ls : List Str} {s i : Nat} {r : List Nat} (h : hits z ls s ls.length = i :: r) : FirstAt z ls s i := by
  have hs := hits_sorted z ls s ls.length
  have m : i ∈ hits z ls s ls.length := by rw [h]; exact List.mem_cons_self
  obtain ⟨_, a, b⟩ := hits_mem.mp m
  refine ⟨a, b, fun j c d e => ?_⟩
  have mj : j ∈ hits z ls s ls.length := hits_mem.mpr ⟨(List.getElem?_eq_some_iff.mp e).1, c, e⟩
  rw [h] at mj hs
  rcases List.mem_cons.mp mj with q | q
  · omega
  · have := (List.pairwise_cons.mp hs).1 j q
    omega
def spPlace (K : PySem.W.Frag) (CX : Addr) : Sp := fun vs H Q E => ∃ (z : Str) (l : Addr) (ls : List Str) (s : Nat), vs = [.str z, .ref l, .int (s : Nat)] ∧ SqL K H l (ls.map V.str) ∧ ls.length ≤ 1000 ∧ s ≤ 1000 ∧
  (∀ i, FirstAt z ls s i → Q (.int (i : Nat)) H) ∧ (NoneAt z ls s → ∀ H' d, Same H H' → H d = none → XD H' d [("at", .int (ls.length : Nat))] → E (.ref CX) (some d) H')
end WB

set_option Elab.async false
set_option linter.all false
set_option maxRecDepth 100000
set_option maxHeartbeats 4000000
namespace WB
open PySem L2
/-! ### programs read -/
inductive ET where
  | text (i : Int)
  | er (e : Er)
def kvT : ET → List (Str × V)
  | .text i => [("at", .int i)]
  | .er e => kvE e
def clT (CB CT CX : Addr) : ET → Addr
  | .text _ => CX
  | .er e => clE CB CT e
def hd0 (ls : List Str) : Str := ls.headD ""
def progL (ls : List Str) (c t : Nat) : Except Er Prog := progE (.str (cutS (hd0 ls) (some 6) none)) (some (((ls.take c).drop 2).map V.str)) (some (((ls.take t).drop (c + 1)).map V.str)) (some ((ls.drop (t + 1)).map V.str))
def erT : Except Er Prog → Except ET Prog
  | .ok p => .ok p
  | .error e => .error (.er e)
open Classical in
/-- what a reading of these lines comes to -/
noncomputable def readF (ls : List Str) : Except ET Prog :=
  if Txt.startswith (hd0 ls) "marks " = false then .error (.text 0)
  else if ls[1]? = some ("module" : Str) then
    if h : ∃ c, FirstAt "caller" ls 2 c then
      if g : ∃ t, FirstAt "task" ls (choose h + 1) t then erT (progL ls (choose h) (choose g)) else .error (.text (ls.length : Nat))
    else .error (.text (ls.length : Nat))
  else .error (.text 1)
theorem FirstAt.no {z : Str} {ls : List Str} {s i : Nat} (h : FirstAt z ls s i) (g : NoneAt z ls s) : False := g i h.1 h.2.1
section
variable {ls : List Str}
theorem readF0 (h : Txt.startswith (hd0 ls) "marks " = false) : readF ls = .error (.text 0) := by
  unfold readF
  rw [if_pos h]
theorem readF1 (h : Txt.startswith (hd0 ls) "marks " = true) (g : ls[1]? ≠ some ("module" : Str)) : readF ls = .error (.text 1) := by
  unfold readF
  rw [if_neg (by rw [h]; exact Bool.noConfusion), if_neg g]
theorem readF2 (h : Txt.startswith (hd0 ls) "marks " = true) (g : ls[1]? = some ("module" : Str)) (n : NoneAt "caller" ls 2) : readF ls = .error (.text (ls.length : Nat)) := by
  unfold readF
  rw [if_neg (by rw [h]; exact Bool.noConfusion), if_pos g, dif_neg fun ⟨c, hc⟩ => hc.no n]
theorem readF3 {c : Nat} (h : Txt.startswith (hd0 ls) "marks " = true) (g : ls[1]? = some ("module" : Str)) (a : FirstAt "caller" ls 2 c) (n : NoneAt "task" ls (c + 1)) : readF ls = .error (.text (ls.length : Nat)) := by
  have e : ∃ c, FirstAt "caller" ls 2 c := ⟨c, a⟩
  have q : Classical.choose e = c := (Classical.choose_spec e).one a
  unfold readF
  rw [if_neg (by rw [h]; exact Bool.noConfusion), if_pos g, dif_pos e, dif_neg fun ⟨t, ht⟩ => by
    rw [q] at ht
    exact ht.no n]
theorem readF4 {c t : Nat} (h : Txt.startswith (hd0 ls) "marks " = true) (g : ls[1]? = some ("module" : Str)) (a : FirstAt "caller" ls 2 c) (b : FirstAt "task" ls (c + 1) t) : readF ls = erT (progL ls c t) := by
  have e : ∃ c, FirstAt "caller" ls 2 c := ⟨c, a⟩
  have q : Classical.choose e = c := (Classical.choose_spec e).one a
  have e2 : ∃ t, FirstAt "task" ls (Classical.choose e + 1) t := ⟨t, by rw [q]; exact b⟩
  have q2 : Classical.choose e2 = t := (by
    have := Classical.choose_spec e2
    have b2 : FirstAt "task" ls (Classical.choose e + 1) t := by rw [q]; exact b
    exact this.one b2)
  unfold readF
  rw [if_neg (by rw [h]; exact Bool.noConfusion), if_pos g, dif_pos e, dif_pos e2, q2, q]
end
theorem pre_cut {h : Str} (s : Txt.startswith h "marks " = true) : Txt.removeprefix h "marks " = cutS h (some 6) none := by
  have s2 : (decide (0 + ("marks " : Str).length ≤ h.length) && Builtin.Str.subAt h "marks " 0) = true := s
  rw [Bool.and_eq_true] at s2
  have hl : 6 ≤ h.length := by
    have := of_decide_eq_true s2.1
    have e : ("marks " : Str).length = 6 := rfl
    omega
  have e1 : Txt.removeprefix h "marks " = Builtin.Str.strSub h 6 h.length := by
    unfold Txt.removeprefix
    rw [if_pos s2.2]
    show (if (h.length - 6 == h.length) = true then h else Builtin.Str.strSub h 6 h.length) = _
    rw [if_neg (by rw [beq_iff_eq]; omega)]
  rw [e1]
  have e2 := TL.tl_strSub_end h 6
  have e3 : cutS h (some 6) none = S (h.cps.toList.drop 6) := by
    unfold cutS
    rw [show (6 : Int) = ((6 : Nat) : Int) from rfl, HT.sIx_none, HT.sIx_nat, Nat.min_eq_left hl, List.take_of_length_le]
    rw [List.length_drop]
    show h.cps.size - 6 ≤ h.length - 6
    exact Nat.le_refl _
  rw [e3]
  have e4 : (Builtin.Str.strSub h 6 h.length).cps.toList = h.cps.toList.drop 6 := e2
  show Builtin.Str.strSub h 6 h.length = ⟨(h.cps.toList.drop 6).toArray⟩
  rw [← e4]
theorem cut_mid (xs : List V) {a b : Nat} (hab : a ≤ b) (hb : b ≤ xs.length) : cutV xs (some (a : Int)) (some (b : Int)) = (xs.take b).drop a := by
  unfold cutV
  rw [HT.sIx_nat, HT.sIx_nat, Nat.min_eq_left hb, Nat.min_eq_left (Nat.le_trans hab hb), List.drop_take]
theorem FirstAt.lt {z : Str} {ls : List Str} {s i : Nat} (h : FirstAt z ls s i) : s ≤ i ∧ i < ls.length := ⟨h.1, (List.getElem?_eq_some_iff.mp h.2.1).1⟩
theorem argV_strs {K : PySem.W.Frag} {H : Hp} {y : Addr} {ts : List Str} (hy : H y = some (.lst (ts.map V.str))) (hl : ts.length ≤ 100) (h : ∀ z ∈ ts, z.length ≤ 1000 ∧ SmallS z) : ArgV K H (.ref y) (some (ts.map V.str)) := by
  refine ⟨y, rfl, hy, by rw [List.length_map]; exact hl, fun x hx => ?_⟩
  obtain ⟨z, hz, rfl⟩ := List.mem_map.mp hx
  exact ⟨fun y e => by cases e; exact (h z hz).2, fun H' _ => .inl ⟨z, rfl, (h z hz).1⟩⟩
/-- any value, a text of any length among them -/
def ThingL (K : PySem.W.Frag) (H : Hp) (x : V) : Prop := (∃ z : Str, x = .str z) ∨ NoStr K H x
theorem Thing.long {K : PySem.W.Frag} {H : Hp} {x : V} (h : Thing K H x) : ThingL K H x := h.imp (fun ⟨z, e, _⟩ => ⟨z, e⟩) id
/-- Program.read -/
noncomputable def spPRead (K : PySem.W.Frag) (C CB CT CX : Addr) : Sp := fun vs H Q E => ∃ x : V, vs = [x] ∧ (∀ H', Same H H' → ThingL K H' x) ∧
  ((∀ z, x ≠ .str z) → ∀ H' d, Same H H' → H d = none → XD H' d [("at", .int (-1))] → E (.ref CX) (some d) H') ∧
  (∀ z, x = .str z → z.length ≤ 16000 ∧ (∀ y ∈ Txt.split z "\n", y.length ≤ 1000 ∧ SmallS y) ∧ (Txt.split z "\n").length ≤ 100 ∧
    (∀ e, readF (Txt.split z "\n") = .error e → ∀ H' d, Same H H' → H d = none → XD H' d (kvT e) → E (.ref (clT CB CT CX e)) (some d) H') ∧
    (∀ p, readF (Txt.split z "\n") = .ok p → ∀ H' a, Same H H' → ProgAt C H' a p → Q (.ref a) H'))
end WB

set_option Elab.async false
set_option linter.all false
set_option maxRecDepth 100000
set_option maxHeartbeats 4000000
namespace WB
open PySem L2
/-- the answer of a reading -/
def AnsT (H : Hp) (v : V) : Except ET Prog → Prop
  | .ok _ => v = .non
  | .error (.text i) => ∃ t, v = .ref t ∧ H t = some (.tup [.str "text", .int i])
  | .error (.er e) => AnsE H v (.error e)
theorem AnsT.of {H : Hp} {v : V} {r : Except Er Prog} (h : AnsE H v r) : AnsT H v (erT r) := by
  cases r with
  | ok p => exact h
  | error e => exact h
theorem AnsT.same {H H' : Hp} {v : V} {r : Except ET Prog} (h : AnsT H v r) (s : Same H H') : AnsT H' v r := by
  match r, h with
  | .ok _, h => exact h
  | .error (.text i), ⟨t, e, a⟩ => exact ⟨t, e, s _ _ a⟩
  | .error (.er e), h => exact AnsE.same (r := .error e) h s
def spWanted (K : PySem.W.Frag) : Sp := fun vs H Q _ => ∃ (l : Addr) (ls : List Str), vs = [.ref l] ∧ H l = some (.lst (ls.map V.str)) ∧ ls ≠ [] ∧ ls.length ≤ 40 ∧ (∀ y ∈ ls, y.length < 99 ∧ SmallS y) ∧ ∀ H' v, Same H H' → AnsT H' v (readF ls) → Q v H'
theorem argF_40 {K : PySem.W.Frag} {H : Hp} {y : Addr} {ts : List Str} (hy : H y = some (.lst (ts.map V.str))) (hl : ts.length ≤ 40) (h : ∀ z ∈ ts, z.length < 99 ∧ SmallS z) : ArgF K H (.ref y) (some (ts.map V.str)) := by
  refine ⟨y, rfl, hy, by rw [List.length_map]; exact hl, fun x hx => ?_⟩
  obtain ⟨z, hz, rfl⟩ := List.mem_map.mp hx
  exact rowF_99 (h z hz).1 (h z hz).2
theorem lay_nats : ∀ ns : List Nat, PyData.canLayAll0 (ns.map fun n => PyData.int (n : Nat)) = true
  | [] => rfl
  | n :: r => lay_nats r
theorem dep_nats : ∀ ns : List Nat, PyData.depthAll (ns.map fun n => PyData.int (n : Nat)) = 0
  | [] => rfl
  | n :: r => by
    show max (PyData.depth (.int (n : Nat))) (PyData.depthAll (r.map _)) = 0
    rw [dep_nats r]
    rfl
theorem shaped_nats (ns : List Nat) : SeqAt.shaped (.list (ns.map fun n => PyData.int (n : Nat))) = true := by
  have e1 : PyData.canLay0 (.list (ns.map fun n => PyData.int (n : Nat))) = true := lay_nats ns
  have e2 : PyData.depth (.list (ns.map fun n => PyData.int (n : Nat))) ≤ 64 := by
    show PyData.depthAll _ + 1 ≤ 64
    rw [dep_nats]
    decide
  unfold SeqAt.shaped
  rw [e1, decide_eq_true e2]
  rfl
theorem eqv_nil_nats (ns : List Nat) : PyData.eqv (.list (ns.map fun n => PyData.int (n : Nat))) (.list []) = decide (ns = []) := by
  cases ns with
  | nil => rfl
  | cons n r =>
    rw [decide_eq_false (by simp)]
    rfl
theorem hits_len (z : Str) (ls : List Str) (s n : Nat) : (hits z ls s n).length ≤ n := by
  unfold hits
  exact Nat.le_trans (List.length_filter_le _ _) (by rw [List.length_range]; exact Nat.le_refl _)
end WB

set_option Elab.async false
set_option linter.all false
set_option maxRecDepth 100000
set_option maxHeartbeats 4000000
namespace WB
open PySem L2
/-- two values that are the same data -/
def spSameD (K : PySem.W.Frag) : Sp := fun vs H Q _ => ∃ (x y : V) (d : PyData), vs = [x, y] ∧ Dp K H x d ∧ Dp K H y d ∧ (OkD d ∧ SeqAt.shaped d = true ∧ PyData.eqv d d = true) ∧ Q (.bl true) H
def dT : Except ET Prog → PyData
  | .ok _ => .none
  | .error (.text i) => .tuple [.str "text", .int i]
  | .error (.er e) => dE (.error e)
def TtS (r : Except ET Prog) : Prop := match r with
  | .ok _ => True
  | .error (.text i) => i.natAbs ≤ 1000
  | .error (.er e) => ErS e
theorem data_ansT {K : PySem.W.Frag} {H : Hp} {v : V} {r : Except ET Prog} (h : AnsT H v r) : Dp K H v (dT r) := by
  match r, h with
  | .ok _, h =>
    have h : v = .non := h
    subst h
    exact .non
  | .error (.text i), ⟨t, e, h2⟩ =>
    subst e
    exact .tup (SqT.of h2) (.cons (.str _) (.cons (.int _) .nil))
  | .error (.er e), h => exact data_ans (r := .error e) h
theorem ok_dT {r : Except ET Prog} (h : TtS r) : OkD (dT r) ∧ SeqAt.shaped (dT r) = true ∧ PyData.eqv (dT r) (dT r) = true := by
  match r, h with
  | .ok _, _ => exact ⟨⟨rfl, rfl, Nat.zero_le _, .inr (show (PyData.shown .none).length ≤ sizeLine by decide +kernel)⟩, rfl, rfl⟩
  | .error (.text i), h =>
    have s1 : SmallS "text" := ⟨by decide, by decide⟩
    refine ⟨okd_fitT (fun d hd => ?_) (by show 2 ≤ 8; decide), ?_, ?_⟩
    · simp only [List.mem_cons, List.not_mem_nil, or_false] at hd
      rcases hd with rfl | rfl
      · exact fit_str1 s1
      · exact fit_int1 h
    · show ((PyData.canLay0 (.str "text") && (true && true)) && decide _) = true
      rw [lay_str1 s1]
      rfl
    · show (("text" : Str) == "text" && ((i == i) && true)) = true
      rw [beq_self_eq_true, beq_self_eq_true]
      rfl
  | .error (.er e), h => exact ok_dE (r := .error e) fun e2 q => by cases q; exact h
theorem tts_read {ls : List Str} (hl : ls.length ≤ 40) : TtS (readF ls) := by
  cases sw : Txt.startswith (hd0 ls) "marks " with
  | false => rw [readF0 sw]; show (0 : Int).natAbs ≤ 1000; decide
  | true =>
    by_cases em : ls[1]? = some ("module" : Str)
    · rcases first_or "caller" ls 2 with ⟨c, hc⟩ | n
      · rcases first_or "task" ls (c + 1) with ⟨t, ht⟩ | n
        · rw [readF4 sw em hc ht]
          cases h : progL ls c t with
          | ok p => exact trivial
          | error e =>
            show ErS e
            have L : ∀ {xs : List V}, xs.length ≤ 40 → Len30 (some xs) := fun {xs} h ys e => by cases e; exact h
            refine prog_ers (L ?_) (L ?_) (L ?_) h
            · rw [List.length_map, List.length_drop, List.length_take]; omega
            · rw [List.length_map, List.length_drop, List.length_take]; omega
            · rw [List.length_map, List.length_drop]; omega
        · rw [readF3 sw em hc n]; show ((ls.length : Nat) : Int).natAbs ≤ 1000; omega
      · rw [readF2 sw em n]; show ((ls.length : Nat) : Int).natAbs ≤ 1000; omega
    · rw [readF1 sw em]; show (1 : Int).natAbs ≤ 1000; decide
end WB

set_option Elab.async false
set_option linter.all false
set_option maxRecDepth 100000
set_option maxHeartbeats 4000000
namespace WB
open PySem PySem.Spec L2 PyProof.Rows
/-! ### try with three clauses that name what they catch -/
/-- what three clauses wish of an exception of the body -/
def wThree (K : PySem.W.Frag) (c1 c2 c3 : Value) (i : Nat) (ts1 ts2 ts3 : Addr → Value → Option Addr → TS) (Wout : WX) (D : Ends) : WX := fun cls d σ H => ∃ b, PySem.W.exmOne K cls c1 = some b ∧
  (b = true → ∀ x, H x = none → ts1 x cls d { nx := fun σ' H' => D.nx (σ'.set i none) H', rt := D.rt, bk := fun σ' H' => D.bk (σ'.set i none) H', ct := fun σ' H' => D.ct (σ'.set i none) H' } (σ.set i (some (.ref x))) H) ∧
  (b = false → wTwo K c2 c3 i ts2 ts3 Wout D cls d σ H)
theorem ps_try_as3 {X : Cx} {x1 x2 x3 n : Str} {c1 c2 c3 : Value} {i : Nat} {body su1 su2 su3 : List Stmt} {b1 b2 b3 : Stmt} {np1 np2 np3 pos po1 po2 po3 : Pos} {tb : WX → TS} {ts1 ts2 ts3 : Addr → Value → Option Addr → TS} {Wout : WX}
    (hs : X.stack = X.env :: X.outer) (hf : X.env.frame = some X.env.locals) (hN : X.N.Nodup) (hi : X.N[i]? = some n) (hl : X.env.kindOf n = some .local) (hc1 : Names X x1 c1) (hc2 : Names X x2 c2) (hc3 : Names X x3 c3) (tk : Takes X Wout)
    (hb : ∀ (W : WX) (pn : List (Addr × Obj)) (xe : Value → Shared → Prop), Takes (X.tr pn xe) W → PassesOwn (model X.prog X.w) X.A X.env xe → PSs (X.tr pn xe) body (tb W))
    (hsu1 : ∀ (a : Addr) (oe : Obj) (cls : Value) (d : Option Addr) (pn : List (Addr × Obj)), Zc cls d oe → (∃ vs, oe.data = .fields vs) → PSs (X.suite a ((a, oe) :: pn)) (b1 :: su1) (ts1 a cls d))
    (hsu2 : ∀ (a : Addr) (oe : Obj) (cls : Value) (d : Option Addr) (pn : List (Addr × Obj)), Zc cls d oe → (∃ vs, oe.data = .fields vs) → PSs (X.suite a ((a, oe) :: pn)) (b2 :: su2) (ts2 a cls d))
    (hsu3 : ∀ (a : Addr) (oe : Obj) (cls : Value) (d : Option Addr) (pn : List (Addr × Obj)), Zc cls d oe → (∃ vs, oe.data = .fields vs) → PSs (X.suite a ((a, oe) :: pn)) (b3 :: su3) (ts3 a cls d)) :
    PS X (.Try body [.ExceptHandler (some (.Name x1 np1)) (some n) (b1 :: su1) po1, .ExceptHandler (some (.Name x2 np2)) (some n) (b2 :: su2) po2, .ExceptHandler (some (.Name x3 np3)) (some n) (b3 :: su3) po3] [] [] pos) (fun D σ H => tb (wThree X.K c1 c2 c3 i ts1 ts2 ts3 Wout D) D σ H) := by
  refine ⟨fun pins s σ H D I h => ?_⟩
  have fr : X.A.frames = some (X.env :: X.outer) := by rw [I.ok.frames, hs]
  refine wpAny_Try_except ?_
  have land : Takes (X.tr (X.pn ++ pins) (fun e t1 => wpAny (model X.prog X.w) X.A (noteFrame e X.env) (fun _ t2 => wpAny (model X.prog X.w) X.A (setFlight e none) (fun _ t3 =>
    wpAny (model X.prog X.w) X.A (handleBy e X.env [.ExceptHandler (some (.Name x1 np1)) (some n) (b1 :: su1) po1, .ExceptHandler (some (.Name x2 np2)) (some n) (b2 :: su2) po2, .ExceptHandler (some (.Name x3 np3)) (some n) (b3 :: su3) po3]) (SP X pins D) X.xe t3) X.xe t2) X.xe t1)) (wThree X.K c1 c2 c3 i ts1 ts2 ts3 Wout D) := by
    rintro u t1 ⟨a, B, sI, pins', σ1, H1, cls, d, rfl, J1, low, up, sky, na, os, ag, bb, hb1, y1, o1⟩
    have J : Inv X pins σ1 H1 sI := J1.ofTry I.ok
    have sky2 : Sky B (X.env :: X.outer) a (Zc cls d) X.env.locals t1.heap := hs ▸ sky
    show wpAny (model X.prog X.w) X.A (noteFrame (.ref a) X.env) _ _ _
    refine Sky.land Zc.steady fr hf sky2 fun h3 fl3 up3 => ?_
    have A : Air X pins B a cls d sI σ1 H1 { t1 with heap := h3 } := ⟨J, low, up.trans up3, fl3, na, os, ag⟩
    refine A.clause hf hN hi hl hc1 hsu1 hb1 (fun e => y1 e a na) fun e => ?_
    obtain ⟨b2', hb2, y2, o2⟩ := o1 e
    refine A.clause hf hN hi hl hc2 hsu2 hb2 (fun e => y2 e a na) fun e => ?_
    obtain ⟨b3', hb3, y3, o3⟩ := o2 e
    exact A.clause hf hN hi hl hc3 hsu3 hb3 (fun e => y3 e a na) fun e => A.none hs hf tk (o3 e)
  refine wpAny_mono ((hb _ _ _ land PassesOwn.looking).run [] s σ H D (I.toTry _) h) (fun fl t1 g => ?_) fun e t1 he => he
  match fl, g with
  | .next, ⟨_, _, J, q⟩ => exact wpAny_execs_nil ⟨_, _, J.ofTry I.ok, q⟩
  | .brk, ⟨_, _, J, q⟩ => exact ⟨_, _, J.ofTry I.ok, q⟩
  | .cont, ⟨_, _, J, q⟩ => exact ⟨_, _, J.ofTry I.ok, q⟩
  | .ret u, ⟨_, _, _, J, r, q⟩ => exact ⟨_, _, _, J.ofTry I.ok, r, q⟩
end WB

set_option Elab.async false
set_option linter.all false
set_option maxRecDepth 100000
set_option maxHeartbeats 4000000
namespace WB
open PySem PySem.Spec L2 PyProof.Rows
/-! ### isinstance of a caught error that has its dict, with a tuple of classes -/
def rIsEdT (K : PySem.W.Frag) (D a : Addr) (cls : Value) (d : Option Addr) : List V → Hp → VK → Prop := fun xs H Q => ∃ (tp : Addr) (cs : List V) (us : List Value) (b : Bool) (dd : Addr) (fs : List (Str × V)), xs = [.ref a, .ref tp] ∧ H tp = some (.tup cs) ∧ Paired ClsV cs us ∧
  cls = .ref D ∧ d = some dd ∧ H dd = some (.xd fs) ∧ PySem.W.kitAny K (.ref D) us = some b ∧ Q (.bl b) H
theorem call_isEdT {X : Cx} {a D : Addr} {oe : Obj} {cls : Value} {d : Option Addr} {pn : List (Addr × Obj)} (T : ExcC X.K D) (hcl : (PySem.W.clsIn X.K D).isSome = true) (hz : Zc cls d oe) (hf : ∃ vs, oe.data = .fields vs) : CallR (X.suite a ((a, oe) :: pn)) (.builtin "isinstance") (rIsEdT X.K D a cls d) := by
  intro pins s σ H xs us Q I r h
  obtain ⟨tp, cs, ws, b, dd, fs, rfl, hT, k, rfl, rfl, ed, e, q⟩ := h
  obtain ⟨u1, u2, rfl, r1, r2⟩ := vals2 r
  cases (show u2 = Value.ref tp from r2)
  cases (show u1 = Value.ref a from r1)
  obtain ⟨hget, _⟩ := I.pin (a, oe) (List.mem_append_left _ List.mem_cons_self)
  obtain ⟨vs, hv⟩ := hf
  obtain ⟨mA, hns, _⟩ := (show ObjOk X.prog X.w H s.heap dd (.xd fs) from I.hok dd _ ed)
  obtain ⟨od, ho, _⟩ := lookIn_ns hns
  have J : PySem.W.InstAt s.heap a oe D (some od) := ⟨hget, hz.1, by unfold PySem.W.notCls; rw [hv] <;> rfl, by rw [hz.2]; exact ho⟩
  obtain ⟨_, its, rv, o, h1, h2, n, h3⟩ := (show ObjOk X.prog X.w H s.heap tp (.tup cs) from I.hok tp _ hT)
  have e3 := ClsV.all k rv
  subst e3
  obtain ⟨oc, odd, dt, sl⟩ := o
  simp only at h2 h3
  subst h2 h3
  exact PySem.W.kia_tup (PySem.W.kitx_exc hcl T.hg T.hk T.hs T.ha T.hn T.ht T.hm) I.kIn J h1 e (fun z => nomatch z) fun tk => ⟨.bl b, H, I.kept (t' := tk) fun _ _ z => z, rfl, q⟩
end WB

set_option Elab.async false
set_option linter.all false
set_option maxRecDepth 100000
set_option maxHeartbeats 4000000
namespace WB
open PySem L2
/-! ### a static method, called by its class's name, that may raise -/
structure StaX (P : Program) (w : World) (K : PySem.W.Frag) (mg : Str → Option Value) (base : Heap) (k : Nat) (Cn : Str) (C : Addr) (m : Str) (sp : Sp) : Prop where
  ex : ∃ (g : Addr) (fd : FuncData) (ps : List Str), StatC K mg Cn C m g ∧ FnOk P w K mg base (L2.CX P w) k g fd ps sp ∧ Binds K fd ps []
theorem pe_statX {X : Cx} {k j : Nat} {C : Addr} {sp : Sp} {Cn m : Str} {e : Expr} {es : List Expr} {t : TA} {p1 apos pos : Pos} {W : WX} {pl : Sem Bool} (c : StaX X.prog X.w X.K X.mg X.base k Cn C m sp) (tk : Takes X W) (hr : Room j X.A) (hk : k ≤ j) (hg : Gl X Cn) (ha : PA X (e :: es) t) (hdb : (Cn == ("__debug__" : Str)) = false := by decide)
    (hst : starEach (e :: es) X.env = (false, eval e X.env) :: starEach es X.env := by rfl) (hpl : (backTo pos (starEach es X.env)).any (·.1) = false := by rfl)
    (ht : eval (.Call (.Attribute (.Name Cn p1) m apos) (e :: es) [] pos) X.env = (do
      let ov ← eval (.Name Cn p1) X.env
      standAt apos.atName
      let (f, first) ← holding [ov] (getMethod ov m pl)
      callWith pos f first (backTo pos (starEach (e :: es) X.env)) (backToKw pos (keywordEach [] X.env))) := by rfl) :
    PE X (.Call (.Attribute (.Name Cn p1) m apos) (e :: es) [] pos) (fun σ H Q => t σ H fun vs H1 => sp vs H1 Q (WE W σ)) := by
  obtain ⟨g, fd, ps, sc, F, hb⟩ := c.ex
  refine ⟨fun pins s σ H Q I h => ?_⟩
  refine PySem.W.methodCall_KW (pl := pl) (ld_glob I hg sc.gC ?_ hdb) ht
  refine static_meth sc I fun s1 I1 => ?_
  refine PySem.W.callWith_K (first := []) (h₀ := X.base) I1.ok.mod.kin sc.kp (thn (ha.run pos pins s1 σ H _ I1 h) fun us s2 ⟨vs, H1, I2, r, q⟩ => ⟨I2.kIn, ?_⟩) hst hpl
  exact run_fnSD (E := WE W) F (hr.mono hk) hb .nil (passAt tk σ) I2 r (by rw [List.append_nil]; exact q)
end WB

set_option Elab.async false
set_option linter.all false
set_option maxRecDepth 100000
set_option maxHeartbeats 4000000
namespace WB
open PySem L2
/-! ### what reading a text raises, told by the law -/
structure TextIs (K : PySem.W.Frag) (mg : Str → Option Value) (CX CB CT CW : Addr) : Prop where
  ex : ExcC K CX
  cl : (PySem.W.clsIn K CX).isSome = true
  gB : ∃ u, mg "BadProgram" = some u ∧ RelV (.ref CB) u
  gT : ∃ u, mg "TooMany" = some u ∧ RelV (.ref CT) u
  gW : ∃ u, mg "WorkerworldsError" = some u ∧ RelV (.ref CW) u
  kA : PySem.W.kitAny K (.ref CX) [.ref CB, .ref CT] = some false
  kW : PySem.W.kitOne K (.ref CX) (.ref CW) = some true
  kV : PySem.W.kitOne K (.ref CX) (.type "ValueError") = some true
theorem kit_other {K : PySem.W.Frag} {C D : Addr} (h2 : PySem.W.isClsIn K D = true) (h3 : PySem.W.typeIn K (.ref D) = some (.type "type")) (h4 : PySem.W.subIn K (.ref C) (.ref D) = some false) (h5 : PySem.W.subIn K (.ref D) (.ref D) = some true) : PySem.W.kitOne K (.ref C) (.ref D) = some false := by
  unfold PySem.W.kitOne
  rw [if_neg (by
    intro z
    have e := beq_iff_eq.mp z
    rw [e, h5] at h4
    cases h4)]
  have h2' : (PySem.W.clsIn K D).isSome = true := h2
  unfold PySem.W.kitCls
  dsimp only
  rw [h2', h3]
  exact h4
theorem kit_any2 {K : PySem.W.Frag} {t c d : Value} (h1 : PySem.W.kitOne K t c = some false) (h2 : PySem.W.kitOne K t d = some false) : PySem.W.kitAny K t [c, d] = some false := by
  unfold PySem.W.kitAny
  rw [h1]
  unfold PySem.W.kitAny
  rw [h2]
  rfl
theorem atI_lastS {ts : List Str} (h : ts ≠ []) : ∃ y, y ∈ ts ∧ atI (ts.map V.str) (-1) = some (V.str y) := by
  have e := (List.dropLast_concat_getLast h)
  refine ⟨ts.getLast h, List.getLast_mem h, ?_⟩
  have e2 : ts.map V.str = ts.dropLast.map V.str ++ [V.str (ts.getLast h)] := by
    conv => lhs; rw [← e]
    rw [List.map_append]
    rfl
  rw [e2]
  exact atI_last _ _
def spRead (K : PySem.W.Frag) : Sp := fun vs H Q _ => ∃ x : V, vs = [x] ∧ (∀ H', Same H H' → ThingL K H' x) ∧
  ((∀ z, x ≠ .str z) → ∀ H' v, Same H H' → AnsT H' v (.error (.text (-1))) → Q v H') ∧
  (∀ z, x = .str z → z.length ≤ 16000 ∧ (∀ y ∈ Txt.split z "\n", y.length ≤ 1000 ∧ SmallS y) ∧ (Txt.split z "\n").length ≤ 100 ∧
    ∀ H' v, Same H H' → AnsT H' v (readF (Txt.split z "\n")) → Q v H')
def spBent : Sp := fun vs H Q _ => ∃ (p q l lw : Addr) (ls ws : List Str) (m : Str) (n : Nat), vs = [.ref p, .ref l, .ref lw, .str m] ∧ StrA H p q n ∧ n < 2 ^ 50 ∧ l ≠ p ∧ H l = some (.lst (ls.map V.str)) ∧ ls ≠ [] ∧ ls.length ≤ 35 ∧ (∀ z ∈ ls, Sm 30 z) ∧
  lw ≠ p ∧ H lw = some (.lst (ws.map V.str)) ∧ 0 < ws.length ∧ ws.length ≤ 20 ∧ (∀ z ∈ ws, Sm 8 z) ∧ Sm 3 m ∧
  ∀ H' r (rs : List Str), Bar p H H' → StrA H' p q (n + 200) → r ≠ p → H' r = some (.lst (rs.map V.str)) → rs ≠ [] → rs.length ≤ 38 → (∀ z ∈ rs, Sm 30 z) → Q (.ref r) H'
end WB

set_option Elab.async false
set_option linter.all false
set_option maxRecDepth 100000
set_option maxHeartbeats 4000000
namespace WB
open PySem L2
theorem join_wtN : ∀ {ts : List Str}, ts ≠ [] → (Str.join "\n" ts).length + 1 = wt ts
  | [], h => absurd rfl h
  | [z], _ => rfl
  | z :: y :: r, _ => by
    have := join_wtN (ts := y :: r) (by simp)
    show (z ++ "\n" ++ Str.join "\n" (y :: r)).length + 1 = z.length + 1 + wt (y :: r)
    rw [Str.length_append, Str.length_append, ← this]
    show z.length + 1 + (Str.join "\n" (y :: r)).length + 1 = _
    omega
theorem join_len {k : Nat} {ts : List Str} (hne : ts ≠ []) (h : ∀ z ∈ ts, Sm k z) : (Txt.join "\n" ts).length + 1 ≤ (k + 1) * ts.length := by
  rw [TL.join_eq, join_wtN hne]
  exact wt_le fun z hz => (h z hz).1
theorem lines_back {ls : List Str} {k : Nat} (hne : ls ≠ []) (h : ∀ z ∈ ls, Sm k z) : Txt.split (Txt.join "\n" ls) "\n" = ls :=
  TL.split_join (s := 10) (S := []) (by decide +kernel) (by decide +kernel) hne fun p hp hc => ((h p hp).2 10 hc).2 rfl
section
variable {K : PySem.W.Frag} {H : Hp}
theorem thing_non : Thing K H .non := .inr ⟨"NoneType", .base .non, by decide +kernel⟩
theorem thing_int {i : Int} : Thing K H (.int i) := .inr ⟨"int", .base (.int i), by decide +kernel⟩
theorem thing_bl {b : Bool} : Thing K H (.bl b) := .inr ⟨"bool", .base (.bl b), by decide +kernel⟩
theorem thing_lst {a : Addr} {xs : List V} (h : H a = some (.lst xs)) : Thing K H (.ref a) := .inr ⟨"list", .base (.lst h), by decide +kernel⟩
theorem thing_tup {a : Addr} {xs : List V} (h : H a = some (.tup xs)) : Thing K H (.ref a) := .inr ⟨"tuple", .base (.tup h), by decide +kernel⟩
end
def Due (z : Str) (d : Int) : Prop := readF (Txt.split z "\n") = .error (.text d) ∧ (z.length ≤ 100 ∧ (∀ y ∈ Txt.split z "\n", y.length ≤ 1000 ∧ SmallS y) ∧ (Txt.split z "\n").length ≤ 100) ∧ d.natAbs ≤ 1000
theorem due_of {z : Str} {ls : List Str} {d : Int} (e : Txt.split z "\n" = ls) (r : readF ls = .error (.text d)) (h1 : z.length ≤ 100) (h2 : (ls.all fun y => decide (y.length ≤ 300) && y.cps.toList.all fun c => decide (c < 1000)) = true) (h3 : ls.length ≤ 100) (h4 : d.natAbs ≤ 1000) : Due z d := by
  unfold Due
  rw [e]
  refine ⟨r, ⟨h1, fun y hy => ?_, h3⟩, h4⟩
  have := List.all_eq_true.mp h2 y hy
  rw [Bool.and_eq_true] at this
  have a := of_decide_eq_true this.1
  exact ⟨Nat.le_trans a (by decide), a, fun c hc => of_decide_eq_true (List.all_eq_true.mp this.2 c hc)⟩
theorem due0 : Due "" 0 := due_of (ls := [""]) (by decide +kernel) (readF0 (by decide +kernel)) (by decide) (by decide +kernel) (by decide) (by decide)
theorem due1 : Due "marks a" 1 := due_of (ls := ["marks a"]) (by decide +kernel) (readF1 (by decide +kernel) (by decide +kernel)) (by decide) (by decide +kernel) (by decide) (by decide)
theorem due2 : Due "marks a\n" 1 := due_of (ls := ["marks a", ""]) (by decide +kernel) (readF1 (by decide +kernel) (by decide +kernel)) (by decide) (by decide +kernel) (by decide) (by decide)
theorem due3 : Due "marks a\nmodule" 2 := due_of (ls := ["marks a", "module"]) (by decide +kernel) (readF2 (by decide +kernel) (by decide +kernel) fun j a b => by
    have := (List.getElem?_eq_some_iff.mp b).1
    have e : ([("marks a" : Str), "module"] : List Str).length = 2 := rfl
    omega) (by decide) (by decide +kernel) (by decide) (by decide)
theorem due4 : Due "\nmarks a" 0 := due_of (ls := ["", "marks a"]) (by decide +kernel) (readF0 (by decide +kernel)) (by decide) (by decide +kernel) (by decide) (by decide)
theorem str_ext {a b : Str} (h : a.cps.toList = b.cps.toList) : a = b := by
  rw [← SX.S_tl a, ← SX.S_tl b]
  exact congrArg S h
theorem last_text {m : Str} : ((("marks " : Str) ++ m) ++ ("\nmodule\ncaller\ntask" : Str)) = Txt.join "\n" [(("marks " : Str) ++ m), "module", "caller", "task"] := by
  refine str_ext ?_
  rw [TL.join_eq]
  have e := TL.tl_join "\n" [(("marks " : Str) ++ m), "module", "caller", "task"]
  refine Eq.trans ?_ e.symm
  show ((("marks " : Str) ++ m) ++ ("\nmodule\ncaller\ntask" : Str)).cps.toList = (("marks " : Str) ++ m).cps.toList ++ _
  rw [Str.cps_append, Array.toList_append]
  refine congrArg _ ?_
  decide +kernel
theorem starts_app {a b : Str} : Txt.startswith (a ++ b) a = true := by
  show (decide (0 + a.length ≤ (a ++ b).length) && Builtin.Str.subAt (a ++ b) a 0) = true
  rw [PySem.StrLaws.subAt_eq, decide_eq_true (by rw [Str.length_append]; omega)]
  rw [Str.cps_append, Array.toList_append, List.drop_zero]
  have e : a.length = a.cps.toList.length := Array.length_toList.symm
  rw [e, List.take_left]
  exact beq_self_eq_true _
theorem cut_app {m : Str} : cutS (("marks " : Str) ++ m) (some 6) none = m := by
  refine str_ext ?_
  unfold cutS
  have hl : 6 ≤ (("marks " : Str) ++ m).length := by rw [Str.length_append]; exact Nat.le_add_right 6 _
  rw [show (6 : Int) = ((6 : Nat) : Int) from rfl, HT.sIx_none, HT.sIx_nat, Nat.min_eq_left hl, List.take_of_length_le (by
    rw [List.length_drop]
    exact Nat.le_refl _)]
  rw [S_list, Str.cps_append, Array.toList_append]
  exact List.drop_left (l₁ := ("marks " : Str).cps.toList)
theorem last_read {m : Str} (hm : marksB (.str m) = true) : ∃ p, readF [(("marks " : Str) ++ m), "module", "caller", "task"] = .ok p := by
  have f1 : FirstAt "caller" [(("marks " : Str) ++ m), "module", "caller", "task"] 2 2 := ⟨Nat.le_refl _, rfl, fun j a b => by omega⟩
  have f2 : FirstAt "task" [(("marks " : Str) ++ m), "module", "caller", "task"] (2 + 1) 3 := ⟨Nat.le_refl _, rfl, fun j a b => by omega⟩
  rw [readF4 (ls := [(("marks " : Str) ++ m), "module", "caller", "task"]) (c := 2) (t := 3) starts_app rfl f1 f2]
  unfold progL
  show ∃ p, erT (progE (.str (cutS (("marks " : Str) ++ m) (some 6) none)) (some []) (some []) (some [])) = .ok p
  rw [cut_app]
  unfold progE
  rw [if_pos hm]
  exact ⟨_, rfl⟩
end WB

set_option Elab.async false
set_option linter.all false
set_option maxRecDepth 100000
set_option maxHeartbeats 4000000
namespace WB
open PySem L2
/-! ### drawn programs that are right -/
theorem tl_app (a b : Str) : (a ++ b).cps.toList = a.cps.toList ++ b.cps.toList := by rw [Str.cps_append, Array.toList_append]
/-- a text without blanks and line breaks -/
def Tok (k : Nat) (z : Str) : Prop := Sm k z ∧ 32 ∉ z.cps.toList
def MarkG (m : Str) : Prop := WordV m ∧ marksB (.str m) = true
def TermG (ws : List Str) (m z : Str) : Prop := Tok 8 z ∧ termB ws m z = true
theorem WordS.tok {z : Str} (h : WordS z) : Tok 8 z := ⟨h.sm, fun c => by
  have := lets_of (h.2.2 32 c)
  obtain ⟨k, _, e⟩ := this
  omega⟩
theorem parts_eq {z : Str} {ts : List Str} (hne : ts ≠ []) (hb : ∀ t ∈ ts, 32 ∉ t.cps.toList) (e : z.cps.toList = TL.joinL [32] (ts.map TL.tl)) : parts z = ts := by
  have e1 : z = Txt.join " " ts := str_ext (e.trans ((congrArg (fun s : Str => s.cps.toList) (TL.join_eq " " ts)).trans (TL.tl_join " " ts)).symm)
  rw [e1]
  exact TL.split_join (s := 32) (S := []) (by decide +kernel) (by decide +kernel) hne hb
theorem parts_3 {a b c z : Str} (ha : 32 ∉ a.cps.toList) (hb : 32 ∉ b.cps.toList) (hc : 32 ∉ c.cps.toList) (e : z.cps.toList = a.cps.toList ++ (32 :: (b.cps.toList ++ (32 :: c.cps.toList)))) : parts z = [a, b, c] :=
  parts_eq (by simp) (fun t ht => by
    simp only [List.mem_cons, List.not_mem_nil, or_false] at ht
    rcases ht with rfl | rfl | rfl <;> assumption) e
theorem parts_5 {a b c d f z : Str} (ha : 32 ∉ a.cps.toList) (hb : 32 ∉ b.cps.toList) (hc : 32 ∉ c.cps.toList) (hd : 32 ∉ d.cps.toList) (hf : 32 ∉ f.cps.toList) (e : z.cps.toList = a.cps.toList ++ (32 :: (b.cps.toList ++ (32 :: (c.cps.toList ++ (32 :: (d.cps.toList ++ (32 :: f.cps.toList)))))))) : parts z = [a, b, c, d, f] :=
  parts_eq (by simp) (fun t ht => by
    simp only [List.mem_cons, List.not_mem_nil, or_false] at ht
    rcases ht with rfl | rfl | rfl | rfl | rfl <;> assumption) e
theorem parts_2 {a b z : Str} (ha : 32 ∉ a.cps.toList) (hb : 32 ∉ b.cps.toList) (e : z.cps.toList = a.cps.toList ++ (32 :: b.cps.toList)) : parts z = [a, b] :=
  parts_eq (by simp) (fun t ht => by
    simp only [List.mem_cons, List.not_mem_nil, or_false] at ht
    rcases ht with rfl | rfl <;> assumption) e
theorem parts_4 {a b c d z : Str} (ha : 32 ∉ a.cps.toList) (hb : 32 ∉ b.cps.toList) (hc : 32 ∉ c.cps.toList) (hd : 32 ∉ d.cps.toList) (e : z.cps.toList = a.cps.toList ++ (32 :: (b.cps.toList ++ (32 :: (c.cps.toList ++ (32 :: d.cps.toList)))))) : parts z = [a, b, c, d] :=
  parts_eq (by simp) (fun t ht => by
    simp only [List.mem_cons, List.not_mem_nil, or_false] at ht
    rcases ht with rfl | rfl | rfl | rfl <;> assumption) e
theorem fst_of {z a : Str} {r : List Str} (h : parts z = a :: r) : fst z = a := by
  unfold fst
  rw [h]
  rfl
theorem rowB_3 {ws : List Str} {m z l s t : Str} {fr : Bool} (hp : parts z = [l, s, t]) (hs : s = "=" ∨ s ∈ CHG) (hl : l ∈ ws ∨ (fr = true ∧ s = "=" ∧ wordB l = true)) (ht : termB ws m t = true) : rowB ws m fr z = true := by
  unfold rowB
  rw [hp, form3]
  have e1 : (s == "=" || hasS CHG s) = true := by
    rcases hs with h | h
    · rw [h]; decide +kernel
    · rw [hasS_mem.mpr h, Bool.or_true]
  rw [if_pos e1]
  show ((hasS ws l || (fr && (!hasS CHG s && wordB l))) && [t].all (termB ws m)) = true
  have e2 : [t].all (termB ws m) = true := by simp [ht]
  rw [e2, Bool.and_true]
  rcases hl with h | ⟨h1, h2, h3⟩
  · rw [hasS_mem.mpr h, Bool.true_or]
  · have e4 : hasS CHG s = false := by rw [h2]; decide +kernel
    rw [h1, h3, e4]
    exact Bool.or_true _
theorem rowB_5 {ws : List Str} {m z l s t u : Str} {fr : Bool} (hp : parts z = [l, "=", t, s, u]) (hs : s ∈ SGN) (hl : l ∈ ws ∨ (fr = true ∧ wordB l = true)) (ht : termB ws m t = true) (hu : termB ws m u = true) : rowB ws m fr z = true := by
  unfold rowB
  rw [hp, form5]
  have e1 : (("=" : Str) == "=" && hasS SGN s) = true := by rw [hasS_mem.mpr hs, beq_self_eq_true]; rfl
  rw [if_pos e1]
  show ((hasS ws l || (fr && (!hasS CHG s && wordB l))) && [t, u].all (termB ws m)) = true
  have e2 : [t, u].all (termB ws m) = true := by simp [ht, hu]
  rw [e2, Bool.and_true]
  rcases hl with h | ⟨h1, h3⟩
  · rw [hasS_mem.mpr h, Bool.true_or]
  · have e4 : hasS CHG s = false := by
      have : ∀ s ∈ SGN, hasS CHG s = false := by decide +kernel
      exact this s hs
    rw [h1, h3, e4]
    exact Bool.or_true _
/-- a row whose left word is l -/
def RowP (ws : List Str) (m l z : Str) : Prop := Sm 30 z ∧ ((∃ s t, parts z = [l, s, t] ∧ (s = "=" ∨ s ∈ CHG) ∧ termB ws m t = true) ∨ (∃ s t u, parts z = [l, "=", t, s, u] ∧ s ∈ SGN ∧ termB ws m t = true ∧ termB ws m u = true))
/-- a row that binds the word l -/
def BindP (ws : List Str) (m l z : Str) : Prop := Sm 30 z ∧ ((∃ t, parts z = [l, "=", t] ∧ termB ws m t = true) ∨ (∃ s t u, parts z = [l, "=", t, s, u] ∧ s ∈ SGN ∧ termB ws m t = true ∧ termB ws m u = true))
theorem BindP.row {ws : List Str} {m l z : Str} (h : BindP ws m l z) : RowP ws m l z := ⟨h.1, h.2.imp (fun ⟨t, a, b⟩ => ⟨"=", t, a, .inl rfl, b⟩) id⟩
theorem RowP.fst {ws : List Str} {m l z : Str} (h : RowP ws m l z) : fst z = l := by
  rcases h.2 with ⟨s, t, a, _⟩ | ⟨s, t, u, a, _⟩
  · exact fst_of a
  · exact fst_of a
theorem RowP.ok {ws : List Str} {m l z : Str} {fr : Bool} (h : RowP ws m l z) (hl : l ∈ ws) : rowB ws m fr z = true := by
  rcases h.2 with ⟨s, t, a, b, c⟩ | ⟨s, t, u, a, b, c, d⟩
  · exact rowB_3 a b (.inl hl) c
  · exact rowB_5 a b (.inl hl) c d
theorem BindP.ok {ws : List Str} {m l z : Str} (h : BindP ws m l z) (hl : l ∈ ws ∨ wordB l = true) : rowB ws m true z = true := by
  rcases h.2 with ⟨t, a, c⟩ | ⟨s, t, u, a, b, c, d⟩
  · exact rowB_3 a (.inl rfl) (hl.imp id fun x => ⟨rfl, rfl, x⟩) c
  · exact rowB_5 a b (hl.imp id fun x => ⟨rfl, x⟩) c d
/-! #### sets -/
theorem marks_sorted {m : Str} (h : marksB (.str m) = true) : m.cps.toList.Pairwise (· < ·) ∧ ∀ c ∈ m.cps.toList, c ∈ mk := by
  have h : ((conS m && (decide (1 ≤ m.length) && decide (m.length ≤ 3))) && decide ((plains m).length ≤ 2)) = true := h
  rw [Bool.and_eq_true, Bool.and_eq_true] at h
  have e : m = sb (mem m) := of_decide_eq_true h.1.1
  have e2 : m.cps.toList = mk.filter (mem m) := by
    conv => lhs; rw [e]
    exact S_list _
  rw [e2]
  exact ⟨mk_sorted.filter _, fun c hc => (List.mem_filter.mp hc).1⟩
theorem inner_of {c : Str} : inner (("{" ++ c) ++ "}") = c := by
  refine str_ext ?_
  unfold inner cutS
  have hl : (((("{" : Str) ++ c) ++ "}") : Str).length = c.length + 2 := by
    rw [Str.length_append, Str.length_append]
    show 1 + c.length + 1 = _
    omega
  have e1 : HT.sIx (((("{" : Str) ++ c) ++ "}") : Str).length 0 (some 1) = 1 := by
    rw [show (1 : Int) = ((1 : Nat) : Int) from rfl, HT.sIx_nat, hl]
    omega
  have e2 : HT.sIx (((("{" : Str) ++ c) ++ "}") : Str).length (((("{" : Str) ++ c) ++ "}") : Str).length (some (-1)) = c.length + 1 := by
    rw [hl]
    show (if (-1 : Int) < 0 then ((-1 : Int) + ((c.length + 2 : Nat) : Int)).toNat else min (-1 : Int).toNat (c.length + 2)) = _
    rw [if_pos (by decide)]
    omega
  rw [e1, e2, S_list, tl_app, tl_app]
  have e3 : ("{" : Str).cps.toList = [123] := by decide +kernel
  rw [e3]
  show (((123 :: c.cps.toList) ++ ("}" : Str).cps.toList).drop 1).take (c.length + 1 - 1) = _
  have e4 : c.length + 1 - 1 = c.cps.toList.length := by rw [Array.length_toList]; rfl
  rw [e4]
  show (c.cps.toList ++ ("}" : Str).cps.toList).take c.cps.toList.length = _
  exact List.take_left
theorem setB_of {m c : Str} (hm : marksB (.str m) = true) (hs : c.cps.toList.Sublist m.cps.toList) : setB m (("{" ++ c) ++ "}") = true := by
  obtain ⟨ms, mm⟩ := marks_sorted hm
  have cs : c.cps.toList.Pairwise (· < ·) := ms.sublist hs
  have cm : ∀ x ∈ c.cps.toList, x ∈ mk := fun x hx => mm x (hs.subset hx)
  unfold setB
  rw [inner_of]
  have e1 : Txt.startswith (("{" ++ c) ++ "}") "{" = true := by
    have e : (("{" ++ c) ++ "}" : Str) = "{" ++ (c ++ "}") := str_ext (by rw [tl_app, tl_app, tl_app, tl_app, List.append_assoc])
    rw [e]
    exact starts_app
  have e2 : Txt.endswith (("{" ++ c) ++ "}") "}" = true := by
    have hl : (((("{" : Str) ++ c) ++ "}") : Str).length = c.length + 2 := by
      rw [Str.length_append, Str.length_append]
      show 1 + c.length + 1 = _
      omega
    show (decide (0 + ("}" : Str).length ≤ (((("{" : Str) ++ c) ++ "}") : Str).length) && Builtin.Str.subAt (("{" ++ c) ++ "}") "}" ((((("{" : Str) ++ c) ++ "}") : Str).length - ("}" : Str).length)) = true
    rw [PySem.StrLaws.subAt_eq, decide_eq_true (by rw [hl]; show 0 + 1 ≤ _; omega), tl_app]
    have e5 : ((((("{" : Str) ++ c) ++ "}") : Str).length - ("}" : Str).length) = (("{" : Str) ++ c).cps.toList.length := by
      rw [Array.length_toList, hl]
      show c.length + 2 - 1 = (("{" : Str) ++ c).length
      rw [Str.length_append]
      show _ = 1 + c.length
      omega
    rw [e5, List.drop_left]
    decide +kernel
  have e3 : conS c = true := conS_of cs cm
  have e4 : (c.cps.toList.all fun x => mem m x) = true := List.all_eq_true.mpr fun x hx => decide_eq_true (hs.subset hx)
  have e3' : decide (c = sb (mem c)) = true := e3
  rw [e1, e2, e3', e4]
  rfl
/-! #### rows, one behind another -/
theorem bound_snoc {m z : Str} : ∀ {xs : List V} {i : Nat} {ws w : List Str}, bound m xs i ws = .inr w → rowB w m true z = true → bound m (xs ++ [.str z]) i ws = .inr (if hasS w (fst z) = true then w else w ++ [fst z])
  | [], i, ws, w, h, hr => by
    cases h
    show (if rowB ws m true z = true then _ else _) = _
    rw [if_pos hr]
    rfl
  | .str y :: r, i, ws, w, h, hr => by
    have e : ∀ t, bound m (.str y :: t) i ws = if rowB ws m true y = true then bound m t (i + 1) (if hasS ws (fst y) = true then ws else ws ++ [fst y]) else .inl i := fun _ => rfl
    rw [e] at h
    show bound m (.str y :: (r ++ [.str z])) i ws = _
    rw [e]
    split at h
    · rename_i g
      rw [if_pos g]
      exact bound_snoc h hr
    · cases h
  | .int _ :: _, _, _, _, h, _ => by cases h
  | .bl _ :: _, _, _, _, h, _ => by cases h
  | .non :: _, _, _, _, h, _ => by cases h
  | .ref _ :: _, _, _, _, h, _ => by cases h
  | .ty _ :: _, _, _, _, h, _ => by cases h
theorem taskF_snoc {ws : List Str} {m z : Str} {b' : List Str} : ∀ {xs : List V} {i : Nat} {bs b : List Str}, taskF ws m xs i bs = .inr b → taskB ws m z = true → blocks z b = some b' → taskF ws m (xs ++ [.str z]) i bs = .inr b'
  | [], i, bs, b, h, hr, hb => by
    cases h
    show (if taskB ws m z = true then (match blocks z bs with | some bs' => taskF ws m [] (i + 1) bs' | none => .inl i) else .inl i) = _
    rw [if_pos hr, hb]
    rfl
  | .str y :: r, i, bs, b, h, hr, hb => by
    have e : ∀ t, taskF ws m (.str y :: t) i bs = if taskB ws m y = true then (match blocks y bs with | some bs' => taskF ws m t (i + 1) bs' | none => .inl i) else .inl i := fun _ => rfl
    rw [e] at h
    show taskF ws m (.str y :: (r ++ [.str z])) i bs = _
    rw [e]
    split at h
    · rename_i g
      rw [if_pos g]
      cases e2 : blocks y bs with
      | none =>
        rw [e2] at h
        cases h
      | some bs' =>
        rw [e2] at h
        exact taskF_snoc h hr hb
    · cases h
  | .int _ :: _, _, _, _, h, _, _ => by cases h
  | .bl _ :: _, _, _, _, h, _, _ => by cases h
  | .non :: _, _, _, _, h, _, _ => by cases h
  | .ref _ :: _, _, _, _, h, _, _ => by cases h
  | .ty _ :: _, _, _, _, h, _, _ => by cases h
end WB

set_option Elab.async false
set_option linter.all false
set_option maxRecDepth 100000
set_option maxHeartbeats 4000000
namespace WB
open PySem L2
/-! ### what the drawing functions give, told by the grammar -/
def TSK : List Str := ["if", "else", "end", "fail", "stop", "not"]
def SumP (ws : List Str) (m z : Str) : Prop := Sm 19 z ∧ ∃ t s u, s ∈ SGN ∧ TermG ws m t ∧ TermG ws m u ∧ z.cps.toList = t.cps.toList ++ (32 :: (s.cps.toList ++ (32 :: u.cps.toList)))
def TestP (ws : List Str) (m z : Str) : Prop := Sm 30 z ∧ taskB ws m z = true ∧ fst z = "if"
def LastP (ws : List Str) (m z : Str) : Prop := Sm 30 z ∧ taskB ws m z = true ∧ (fst z = "stop" ∨ fst z = "fail")
def spDCG : Sp := fun vs H Q _ => ∃ (p q : Addr) (m : Str) (n : Nat), vs = [.ref p, .str m] ∧ StrA H p q n ∧ n < 2 ^ 58 ∧ Sm 3 m ∧ m.length ≤ 3 ∧ ∀ H' z, Bar p H H' → StrA H' p q (n + 3) → Sm 3 z → z.cps.toList.Sublist m.cps.toList → Q (.str z) H'
def spTermG : Sp := fun vs H Q _ => ∃ (p q l : Addr) (ws : List Str) (m : Str) (n : Nat), vs = [.ref p, .ref l, .str m] ∧ StrA H p q n ∧ n < 2 ^ 57 ∧ l ≠ p ∧ H l = some (.lst (ws.map V.str)) ∧ ws.length ≤ 20 ∧ (∀ z ∈ ws, WordS z) ∧ MarkG m ∧
  ∀ H' z, Bar p H H' → StrA H' p q (n + 5) → TermG ws m z → Q (.str z) H'
def spSumG : Sp := fun vs H Q _ => ∃ (p q l : Addr) (ws : List Str) (m : Str) (n : Nat), vs = [.ref p, .ref l, .str m] ∧ StrA H p q n ∧ n < 2 ^ 56 ∧ l ≠ p ∧ H l = some (.lst (ws.map V.str)) ∧ ws.length ≤ 20 ∧ (∀ z ∈ ws, WordS z) ∧ MarkG m ∧
  ∀ H' z, Bar p H H' → StrA H' p q (n + 11) → SumP ws m z → Q (.str z) H'
def spBindG : Sp := fun vs H Q _ => ∃ (p q l : Addr) (z0 : Str) (ws : List Str) (m : Str) (n : Nat), vs = [.ref p, .str z0, .ref l, .str m] ∧ StrA H p q n ∧ n < 2 ^ 55 ∧ l ≠ p ∧ H l = some (.lst (ws.map V.str)) ∧ ws.length ≤ 20 ∧ (∀ z ∈ ws, WordS z) ∧ WordS z0 ∧ MarkG m ∧
  ∀ H' z, Bar p H H' → StrA H' p q (n + 20) → BindP ws m z0 z → Q (.str z) H'
def spRowG : Sp := fun vs H Q _ => ∃ (p q l : Addr) (ws : List Str) (m : Str) (n : Nat), vs = [.ref p, .ref l, .str m] ∧ StrA H p q n ∧ n < 2 ^ 54 ∧ l ≠ p ∧ H l = some (.lst (ws.map V.str)) ∧ 0 < ws.length ∧ ws.length ≤ 20 ∧ (∀ z ∈ ws, WordS z) ∧ MarkG m ∧
  ∀ H' z y, Bar p H H' → StrA H' p q (n + 30) → y ∈ ws → RowP ws m y z → Q (.str z) H'
def spTestG : Sp := fun vs H Q _ => ∃ (p q l : Addr) (ws : List Str) (m : Str) (n : Nat), vs = [.ref p, .ref l, .str m] ∧ StrA H p q n ∧ n < 2 ^ 54 ∧ l ≠ p ∧ H l = some (.lst (ws.map V.str)) ∧ 0 < ws.length ∧ ws.length ≤ 20 ∧ (∀ z ∈ ws, WordS z ∧ z ∉ TSK) ∧ MarkG m ∧
  ∀ H' z, Bar p H H' → StrA H' p q (n + 30) → TestP ws m z → Q (.str z) H'
def spLastG : Sp := fun vs H Q _ => ∃ (p q l : Addr) (ws : List Str) (m : Str) (n : Nat), vs = [.ref p, .ref l, .str m] ∧ StrA H p q n ∧ n < 2 ^ 54 ∧ l ≠ p ∧ H l = some (.lst (ws.map V.str)) ∧ ws.length ≤ 20 ∧ (∀ z ∈ ws, WordS z) ∧ MarkG m ∧
  ∀ H' z, Bar p H H' → StrA H' p q (n + 30) → LastP ws m z → Q (.str z) H'
def spPlainsG (K : PySem.W.Frag) : Sp := fun vs H Q _ => ∃ (p q l1 l2 : Addr) (ks fs : List Str) (m : Str) (mo n : Nat), vs = [.ref p, .ref l1, .ref l2, .int (mo : Nat), .str m] ∧ StrA H p q n ∧ n < 2 ^ 50 ∧ l1 ≠ p ∧ l2 ≠ p ∧ H l1 = some (.lst (ks.map V.str)) ∧ H l2 = some (.lst (fs.map V.str)) ∧
  ks.length ≤ 8 ∧ fs.length ≤ mo ∧ mo ≤ 6 ∧ (∀ z ∈ ks, WordS z) ∧ (∀ z ∈ fs, wordB z = true) ∧ (ks ++ fs).Nodup ∧ MarkG m ∧
  ∀ H' r (rs : List Str), Bar p H H' → StrA H' p q (n + 400) → H r = none → H' r = some (.lst (rs.map V.str)) → rs.length ≤ 6 → (∀ z ∈ rs, Sm 30 z) → bound m (rs.map V.str) 0 ks = .inr (ks ++ fs) → Q (.ref r) H'
def spWorkG : Sp := fun vs H Q _ => ∃ (p q l : Addr) (ws : List Str) (m : Str) (mo n : Nat), vs = [.ref p, .ref l, .str m, .int (mo : Nat), .int 1] ∧ StrA H p q n ∧ n < 2 ^ 50 ∧ l ≠ p ∧ H l = some (.lst (ws.map V.str)) ∧ 0 < ws.length ∧ ws.length ≤ 20 ∧ mo ≤ 16 ∧ (∀ z ∈ ws, WordS z ∧ z ∉ TSK) ∧ MarkG m ∧
  ∀ H' r (rs : List Str), Bar p H H' → StrA H' p q (n + 2000) → H r = none → H' r = some (.lst (rs.map V.str)) → rs.length ≤ 16 → (∀ z ∈ rs, Sm 30 z) → taskF ws m (rs.map V.str) 0 [] = .inr [] → Q (.ref r) H'
def spWordG : Sp := fun vs H Q _ => ∃ (p q l : Addr) (ws : List Str) (m : Str) (mx n : Nat), vs = [.ref p, .ref l, .str m, .int (mx : Nat)] ∧ StrA H p q n ∧ n < 2 ^ 58 ∧ l ≠ p ∧ H l = some (.lst (ws.map V.str)) ∧ ws.length ≤ 8 ∧ 1 ≤ mx ∧ mx ≤ 8 ∧ (∀ z ∈ ws, WordS z) ∧ WordV m ∧
  ∀ H' z, Bar p H H' → StrA H' p q (n + 20) → wordB z = true → z ∉ ws → Q (.str z) H'
def spWordsG : Sp := fun vs H Q _ => ∃ (p q l : Addr) (ws : List Str) (m : Str) (k mx n : Nat), vs = [.ref p, .ref l, .str m, .int (k : Nat), .int (mx : Nat)] ∧ StrA H p q n ∧ n < 2 ^ 57 ∧ l ≠ p ∧ H l = some (.lst (ws.map V.str)) ∧ ws.length + k ≤ 8 ∧ 1 ≤ mx ∧ mx ≤ 8 ∧ (∀ z ∈ ws, WordS z) ∧ ws.Nodup ∧ WordV m ∧
  ∀ H' r (vs : List Str), Bar p H H' → StrA H' p q (n + 20 * k) → H r = none → H' r = some (.lst (vs.map V.str)) → vs.length = k → (∀ z ∈ vs, wordB z = true) → (ws ++ vs).Nodup → Q (.ref r) H'
def spPartsG : Sp := fun vs H Q _ => ∃ (p q z : Addr) (m : Str) (a b c d mx n : Nat), vs = [.ref p, .str m, .ref z] ∧ StrA H p q n ∧ n < 2 ^ 49 ∧ z ≠ p ∧ H z = some (.tup [.int (a : Nat), .int (b : Nat), .int (c : Nat), .int (d : Nat), .int 1, .int (mx : Nat)]) ∧ a ≤ 3 ∧ b ≤ 4 ∧ c ≤ 6 ∧ d ≤ 16 ∧ 1 ≤ mx ∧ mx ≤ 8 ∧ MarkG m ∧
  ∀ H' (t l1 l2 l3 l4 l5 : Addr) (r1 r2 r3 gs os ws ns : List Str), Bar p H H' → StrA H' p q (n + 4000) → t ≠ p → l1 ≠ p → l2 ≠ p → l3 ≠ p → l4 ≠ p → l5 ≠ p → (H l1 = none ∧ H l2 = none ∧ H l3 = none ∧ H l4 = none ∧ H l5 = none) →
    H' t = some (.tup [.str m, .ref l1, .ref l2, .ref l3, .ref l4, .ref l5]) → H' l1 = some (.lst (r1.map V.str)) → H' l2 = some (.lst (r2.map V.str)) → H' l3 = some (.lst (r3.map V.str)) → H' l4 = some (.lst (gs.map V.str)) → H' l5 = some (.lst (os.map V.str)) →
    r1.length ≤ 6 → r2.length ≤ 6 → r3.length ≤ 16 → (∀ y ∈ r1, Sm 30 y) → (∀ y ∈ r2, Sm 30 y) → (∀ y ∈ r3, Sm 30 y) → gs.Perm ws → os.Perm ns → PyProof.Rows.sortedS gs = true → PyProof.Rows.sortedS os = true → ws.length ≤ 3 → ns.length ≤ 2 → (∀ y ∈ ws ++ ns, wordB y = true) → (ws ++ ns).Nodup →
    progE (.str m) (some (r1.map V.str)) (some (r2.map V.str)) (some (r3.map V.str)) = .ok ⟨m, r1.map V.str, r2.map V.str, r3.map V.str, ws, ns⟩ → Q (.ref t) H'
/-! #### lemmas -/
theorem wordB_S {z : Str} (h : wordB z = true) : WordS z := by
  unfold wordB at h
  rw [Bool.and_eq_true, Bool.and_eq_true, Bool.and_eq_true] at h
  exact ⟨of_decide_eq_true h.1.1.1, of_decide_eq_true h.1.1.2, fun c hc => of_decide_eq_true (List.all_eq_true.mp h.2 c hc)⟩
theorem wordB_R {z : Str} (h : wordB z = true) : z ∉ RESV := by
  unfold wordB at h
  rw [Bool.and_eq_true, Bool.and_eq_true] at h
  intro hm
  rw [hasS_mem.mpr hm] at h
  cases h.1.2
theorem wordB_of {z : Str} (h : WordS z) (n : hasS RESV z = false) : wordB z = true := by
  unfold wordB
  rw [decide_eq_true h.1, decide_eq_true h.2.1, n, List.all_eq_true.mpr fun c hc => decide_eq_true (h.2.2 c hc)]
  rfl
theorem wordB_T {z : Str} (h : wordB z = true) : z ∉ TSK := fun hm => wordB_R h (by
  have : ∀ y ∈ TSK, y ∈ RESV := by decide +kernel
  exact this z hm)
theorem mk_32 : ∀ c ∈ mk, c ≠ 32 := by decide +kernel
theorem MarkG.sm {m : Str} (h : MarkG m) : Sm 3 m := ⟨h.1.2.1, fun c hc => mk_sm c (h.1.2.2 c hc)⟩
theorem term_word {ws : List Str} {m z : Str} (h : z ∈ ws) (w : WordS z) : TermG ws m z := ⟨w.tok, by
  unfold termB
  rw [hasS_mem.mpr h]
  rfl⟩
theorem term_set {ws : List Str} {m c : Str} (hm : MarkG m) (hs : c.cps.toList.Sublist m.cps.toList) (sc : Sm 3 c) : TermG ws m (("{" ++ c) ++ "}") := by
  have m1 : Sm 1 ("{" : Str) := sm_lit
  have m2 : Sm 1 ("}" : Str) := sm_lit
  refine ⟨⟨((m1.cat sc).cat m2).mono (by decide), fun h => ?_⟩, by unfold termB; rw [setB_of hm.2 hs, Bool.or_true]⟩
  rw [tl_app, tl_app] at h
  rcases List.mem_append.mp h with h | h
  · rcases List.mem_append.mp h with h | h
    · exact absurd h (by decide +kernel)
    · exact mk_32 _ (hm.1.2.2 _ (hs.subset h)) rfl
  · exact absurd h (by decide +kernel)
theorem sum_of {ws : List Str} {m t u s3 : Str} (h3 : s3 ∈ ([" | ", " & ", " - ", " ^ "] : List Str)) (ht : TermG ws m t) (hu : TermG ws m u) : SumP ws m ((t ++ s3) ++ u) := by
  have h : ∃ s ∈ SGN, s3.cps.toList = 32 :: (s.cps.toList ++ [32]) := by
    simp only [List.mem_cons, List.not_mem_nil, or_false] at h3
    rcases h3 with rfl | rfl | rfl | rfl
    · exact ⟨"|", by decide +kernel, by decide +kernel⟩
    · exact ⟨"&", by decide +kernel, by decide +kernel⟩
    · exact ⟨"-", by decide +kernel, by decide +kernel⟩
    · exact ⟨"^", by decide +kernel, by decide +kernel⟩
  obtain ⟨s, hs, e⟩ := h
  have s3s : Sm 3 s3 := by
    simp only [List.mem_cons, List.not_mem_nil, or_false] at h3
    rcases h3 with rfl | rfl | rfl | rfl <;> exact sm_lit
  refine ⟨(ht.1.1.cat s3s).cat hu.1.1, t, s, u, hs, ht, hu, ?_⟩
  rw [tl_app, tl_app, e]
  simp only [List.append_assoc, List.cons_append, List.nil_append]
theorem sgn_32 : ∀ s ∈ SGN, 32 ∉ s.cps.toList := by decide +kernel
theorem eq_32 : (32 : Nat) ∉ ("=" : Str).cps.toList := by decide +kernel
theorem eq_lit : (" = " : Str).cps.toList = [32, 61, 32] := by decide +kernel
theorem eq_one : ("=" : Str).cps.toList = [61] := by decide +kernel
theorem bind_term {ws : List Str} {m w t : Str} (hw : WordS w) (ht : TermG ws m t) : BindP ws m w ((w ++ " = ") ++ t) := by
  have m3 : Sm 3 (" = " : Str) := sm_lit
  refine ⟨((hw.sm.cat m3).cat ht.1.1).mono (by decide), .inl ⟨t, parts_3 hw.tok.2 eq_32 ht.1.2 ?_, ht.2⟩⟩
  rw [tl_app, tl_app, eq_lit, eq_one]
  simp only [List.append_assoc, List.cons_append, List.nil_append]
theorem bind_sum {ws : List Str} {m w z : Str} (hw : WordS w) (hz : SumP ws m z) : BindP ws m w ((w ++ " = ") ++ z) := by
  have m3 : Sm 3 (" = " : Str) := sm_lit
  obtain ⟨sz, t, s, u, hs, ht, hu, e⟩ := hz
  refine ⟨(hw.sm.cat m3).cat sz, .inr ⟨s, t, u, parts_5 hw.tok.2 eq_32 ht.1.2 (sgn_32 s hs) hu.1.2 ?_, hs, ht.2, hu.2⟩⟩
  rw [tl_app, tl_app, eq_lit, eq_one, e]
  simp only [List.append_assoc, List.cons_append, List.nil_append]
theorem row_chg {ws : List Str} {m w t s4 : Str} (h4 : s4 ∈ ([" |= ", " |= ", " &= ", " -= ", " ^= "] : List Str)) (hw : WordS w) (ht : TermG ws m t) : RowP ws m w ((w ++ s4) ++ t) := by
  have h : ∃ s ∈ CHG, s4.cps.toList = 32 :: (s.cps.toList ++ [32]) ∧ 32 ∉ s.cps.toList := by
    simp only [List.mem_cons, List.not_mem_nil, or_false] at h4
    rcases h4 with rfl | rfl | rfl | rfl | rfl
    · exact ⟨"|=", by decide +kernel, by decide +kernel, by decide +kernel⟩
    · exact ⟨"|=", by decide +kernel, by decide +kernel, by decide +kernel⟩
    · exact ⟨"&=", by decide +kernel, by decide +kernel, by decide +kernel⟩
    · exact ⟨"-=", by decide +kernel, by decide +kernel, by decide +kernel⟩
    · exact ⟨"^=", by decide +kernel, by decide +kernel, by decide +kernel⟩
  obtain ⟨s, hs, e, hb⟩ := h
  have s4s : Sm 4 s4 := by
    simp only [List.mem_cons, List.not_mem_nil, or_false] at h4
    rcases h4 with rfl | rfl | rfl | rfl | rfl <;> exact sm_lit
  refine ⟨((hw.sm.cat s4s).cat ht.1.1).mono (by decide), .inl ⟨s, t, parts_3 hw.tok.2 hb ht.1.2 ?_, .inr hs, ht.2⟩⟩
  rw [tl_app, tl_app, e]
  simp only [List.append_assoc, List.cons_append, List.nil_append]
/-! #### tests and ends -/
theorem taskB_if {ws : List Str} {m z : Str} (h : fst z = "if") (c : condB ws m (if ((parts z)[1]? == some ("not" : Str)) = true then (parts z).drop 2 else (parts z).drop 1) = true) : taskB ws m z = true := by
  unfold taskB
  split
  · rfl
  · rw [if_pos (by rw [h]; exact beq_self_eq_true _)]
    exact c
theorem test_no {ws : List Str} {m z a s b : Str} (hz : Sm 30 z) (hp : parts z = [("if" : Str), a, s, b]) (ha : a ≠ "not") (c : condB ws m [a, s, b] = true) : TestP ws m z := by
  refine ⟨hz, taskB_if (fst_of hp) ?_, fst_of hp⟩
  rw [hp, if_neg]
  · exact c
  · show ¬ (some a == some ("not" : Str)) = true
    intro h
    exact ha (Option.some.inj (beq_iff_eq.mp h))
theorem test_not {ws : List Str} {m z a s b : Str} (hz : Sm 30 z) (hp : parts z = [("if" : Str), "not", a, s, b]) (c : condB ws m [a, s, b] = true) : TestP ws m z := by
  refine ⟨hz, taskB_if (fst_of hp) ?_, fst_of hp⟩
  rw [hp, if_pos]
  · exact c
  · show (some ("not" : Str) == some ("not" : Str)) = true
    exact beq_self_eq_true _
theorem test_of {ws : List Str} {m tx a s3 b s : Str} (htx : tx ∈ (["if ", "if ", "if not "] : List Str)) (e3 : s3.cps.toList = 32 :: (s.cps.toList ++ [32])) (hs : 32 ∉ s.cps.toList) (s3s : Sm 4 s3) (ha : Tok 8 a) (hb : Tok 8 b) (na : a ≠ "not") (c : condB ws m [a, s, b] = true) : TestP ws m (((tx ++ a) ++ s3) ++ b) := by
  have h1 : (32 : Nat) ∉ ("if" : Str).cps.toList := by decide +kernel
  have h2 : (32 : Nat) ∉ ("not" : Str).cps.toList := by decide +kernel
  have txs : Sm 7 tx := by
    simp only [List.mem_cons, List.not_mem_nil, or_false] at htx
    rcases htx with rfl | rfl | rfl <;> exact sm_lit
  have sz : Sm 30 (((tx ++ a) ++ s3) ++ b) := (((txs.cat ha.1).cat s3s).cat hb.1).mono (by decide)
  have hh : tx = "if " ∨ tx = "if not " := by
    simp only [List.mem_cons, List.not_mem_nil, or_false] at htx
    rcases htx with h | h | h
    · exact .inl h
    · exact .inl h
    · exact .inr h
  rcases hh with rfl | rfl
  · refine test_no sz (parts_4 h1 ha.2 hs hb.2 ?_) na c
    have e1 : ("if " : Str).cps.toList = ("if" : Str).cps.toList ++ [32] := by decide +kernel
    rw [tl_app, tl_app, tl_app, e1, e3]
    simp only [List.append_assoc, List.cons_append, List.nil_append]
  · refine test_not sz (parts_5 h1 h2 ha.2 hs hb.2 ?_) c
    have e1 : ("if not " : Str).cps.toList = ("if" : Str).cps.toList ++ (32 :: (("not" : Str).cps.toList ++ [32])) := by decide +kernel
    rw [tl_app, tl_app, tl_app, e1, e3]
    simp only [List.append_assoc, List.cons_append, List.nil_append]
theorem cond3 (ws : List Str) (m a s b : Str) : condB ws m [a, s, b] = if (s == "in") = true then (decide (a.length = 1) && a.cps.toList.all (mem m)) && termB ws m b else if (s == "is") = true then hasS ws a && hasS ws b else hasS ["==", "<="] s && (termB ws m a && termB ws m b) := rfl
theorem cond_is {ws : List Str} {m a b : Str} (ha : a ∈ ws) (hb : b ∈ ws) : condB ws m [a, "is", b] = true := by
  rw [cond3, if_neg (by decide +kernel), if_pos (by decide +kernel), hasS_mem.mpr ha, hasS_mem.mpr hb]
  rfl
theorem cond_cmp {ws : List Str} {m a b s : Str} (hs : s = "==" ∨ s = "<=") (ha : termB ws m a = true) (hb : termB ws m b = true) : condB ws m [a, s, b] = true := by
  rw [cond3]
  rcases hs with rfl | rfl
  · rw [if_neg (by decide +kernel), if_neg (by decide +kernel), ha, hb]
    decide +kernel
  · rw [if_neg (by decide +kernel), if_neg (by decide +kernel), ha, hb]
    decide +kernel
theorem cond_in {ws : List Str} {m b : Str} {c : Nat} (hc : c ∈ m.cps.toList) (hb : termB ws m b = true) : condB ws m [⟨#[c]⟩, "in", b] = true := by
  rw [cond3, if_pos (by decide +kernel), hb]
  have e : ((⟨#[c]⟩ : Str).cps.toList.all (mem m)) = true := by
    show ([c].all (mem m)) = true
    simp only [List.all_cons, List.all_nil, Bool.and_true]
    exact decide_eq_true hc
  rw [e]
  rfl
theorem term_not {ws : List Str} {m z : Str} (h : TermG ws m z) (hw : ∀ y ∈ ws, y ∉ TSK) : z ≠ "not" := fun e => by
  have h2 := h.2
  unfold termB at h2
  rw [Bool.or_eq_true] at h2
  rcases h2 with h2 | h2
  · exact hw _ (hasS_mem.mp h2) (by rw [e]; decide +kernel)
  · unfold setB at h2
    rw [e, Bool.and_eq_true, Bool.and_eq_true, Bool.and_eq_true] at h2
    exact absurd h2.1.1.1 (by decide +kernel)
theorem last_stop {ws : List Str} {m : Str} : LastP ws m "stop" := ⟨sm_lit, by
  unfold taskB
  rw [if_pos (by decide +kernel)], .inl (by decide +kernel)⟩
theorem taskB_fail {ws : List Str} {m z : Str} (h : fst z = "fail") (c : failB ws m ((parts z).drop 1) = true) : taskB ws m z = true := by
  unfold taskB
  split
  · rfl
  · rw [if_neg (by rw [h]; decide +kernel), if_pos (by rw [h]; exact beq_self_eq_true _)]
    exact c
theorem fail_32 : (32 : Nat) ∉ ("fail" : Str).cps.toList := by decide +kernel
theorem last_fail {ws : List Str} {m t : Str} (ht : TermG ws m t) : LastP ws m ("fail " ++ t) := by
  have m5 : Sm 5 ("fail " : Str) := sm_lit
  have e1 : ("fail " : Str).cps.toList = ("fail" : Str).cps.toList ++ [32] := by decide +kernel
  have hp : parts ("fail " ++ t) = [("fail" : Str), t] := parts_2 fail_32 ht.1.2 (by
    rw [tl_app, e1]
    simp only [List.append_assoc, List.cons_append, List.nil_append])
  refine ⟨(m5.cat ht.1.1).mono (by decide), taskB_fail (fst_of hp) ?_, .inr (fst_of hp)⟩
  rw [hp]
  exact ht.2
theorem last_from {ws : List Str} {m t u : Str} (ht : TermG ws m t) (hu : TermG ws m u) : LastP ws m ((("fail " ++ t) ++ " from ") ++ u) := by
  have m5 : Sm 5 ("fail " : Str) := sm_lit
  have m6 : Sm 6 (" from " : Str) := sm_lit
  have e1 : ("fail " : Str).cps.toList = ("fail" : Str).cps.toList ++ [32] := by decide +kernel
  have e2 : (" from " : Str).cps.toList = 32 :: (("from" : Str).cps.toList ++ [32]) := by decide +kernel
  have hp : parts ((("fail " ++ t) ++ " from ") ++ u) = [("fail" : Str), t, "from", u] := parts_4 fail_32 ht.1.2 (by decide +kernel) hu.1.2 (by
    rw [tl_app, tl_app, tl_app, e1, e2]
    simp only [List.append_assoc, List.cons_append, List.nil_append])
  refine ⟨(((m5.cat ht.1.1).cat m6).cat hu.1.1).mono (by decide), taskB_fail (fst_of hp) ?_, .inr (fst_of hp)⟩
  rw [hp]
  show ((("from" : Str) == "from") && (termB ws m t && termB ws m u)) = true
  rw [ht.2, hu.2]
  decide +kernel
theorem row_task {ws : List Str} {m y z : Str} (h : RowP ws m y z) (hy : y ∈ ws) (hn : y ∉ TSK) : taskB ws m z = true ∧ ∀ bs, blocks z bs = some bs := by
  have ne : ∀ {w : Str}, w ∈ TSK → (fst z == w) = false := fun {w} hw => by
    rw [h.fst]
    refine beq_eq_false_iff_ne.mpr fun e => hn ?_
    rw [e]
    exact hw
  have i1 := ne (w := "if") (by decide +kernel)
  have i2 := ne (w := "fail") (by decide +kernel)
  have i3 := ne (w := "else") (by decide +kernel)
  have i4 := ne (w := "end") (by decide +kernel)
  refine ⟨?_, fun bs => ?_⟩
  · unfold taskB
    split
    · rfl
    · rw [i1, i2, if_neg Bool.noConfusion, if_neg Bool.noConfusion]
      exact h.ok hy
  · unfold blocks
    rw [i1, i3, i4, if_neg Bool.noConfusion, if_neg Bool.noConfusion, if_neg Bool.noConfusion]
theorem test_blocks {ws : List Str} {m z : Str} (h : TestP ws m z) (bs : List Str) : blocks z bs = some (bs ++ [("if" : Str)]) := by
  unfold blocks
  rw [h.2.2, if_pos (beq_self_eq_true _)]
theorem last_blocks {ws : List Str} {m z : Str} (h : LastP ws m z) (bs : List Str) : blocks z bs = some bs := by
  unfold blocks
  rcases h.2.2 with e | e
  · rw [e, if_neg (by decide +kernel), if_neg (by decide +kernel), if_neg (by decide +kernel)]
  · rw [e, if_neg (by decide +kernel), if_neg (by decide +kernel), if_neg (by decide +kernel)]
end WB

set_option Elab.async false
set_option linter.all false
set_option maxRecDepth 100000
set_option maxHeartbeats 4000000
namespace WB
open PySem L2
def blk (b : Bool) : Str := if b = true then "else" else "if"
theorem taskB_end {ws : List Str} {m : Str} : taskB ws m "end" = true := by
  unfold taskB
  rw [if_pos (by decide +kernel)]
theorem taskB_else {ws : List Str} {m : Str} : taskB ws m "else" = true := by
  unfold taskB
  rw [if_pos (by decide +kernel)]
theorem blocks_end {bs : List Bool} (h : 0 < bs.length) : blocks "end" (bs.map blk) = some (bs.dropLast.map blk) := by
  have e : fst "end" = "end" := by decide +kernel
  unfold blocks
  rw [e, if_neg (by decide +kernel), if_neg (by decide +kernel), if_pos (by decide +kernel), if_neg, List.map_dropLast]
  intro hn
  have := congrArg List.length hn
  rw [List.length_map] at this
  have e2 : ([] : List Str).length = 0 := rfl
  omega
theorem last_split {bs : List Bool} {b : Bool} (h : (bs.map V.bl)[(bs.map V.bl).length - 1]? = some (V.bl b)) (h0 : 0 < bs.length) : ∃ d, bs = d ++ [b] := by
  have hne : bs ≠ [] := List.length_pos_iff.mp h0
  refine ⟨bs.dropLast, ?_⟩
  have e := List.dropLast_concat_getLast hne
  have g : bs.getLast hne = b := by
    rw [List.length_map, List.getElem?_map] at h
    obtain ⟨y, hy, e2⟩ := Option.map_eq_some_iff.mp h
    cases e2
    have h1 : bs.length - 1 < bs.length := by omega
    have e3 : bs[bs.length - 1] = b := by
      have := (List.getElem?_eq_some_iff.mp hy).2
      exact this
    rw [List.getLast_eq_getElem]
    exact e3
  rw [g] at e
  exact e.symm
theorem blocks_else {bs : List Bool} (h : (bs.map V.bl)[(bs.map V.bl).length - 1]? = some (V.bl false)) (h0 : 0 < bs.length) : blocks "else" (bs.map blk) = some ((bs.set (bs.length - 1) true).map blk) := by
  obtain ⟨d, rfl⟩ := last_split h h0
  have e : fst "else" = "else" := by decide +kernel
  have l1 : (d ++ [false]).length - 1 = d.length := by rw [List.length_append]; exact Nat.add_sub_cancel _ _
  have s1 : (d ++ [false]).set d.length true = d ++ [true] := by
    rw [List.set_append_right _ _ (Nat.le_refl _), Nat.sub_self]
    rfl
  have m1 : (d ++ [false]).map blk = d.map blk ++ [("if" : Str)] := by rw [List.map_append]; rfl
  have m2 : (d ++ [true]).map blk = d.map blk ++ [("else" : Str)] := by rw [List.map_append]; rfl
  rw [l1, s1, m1, m2]
  unfold blocks
  have l2 : (d.map blk ++ [("if" : Str)]).length - 1 = (d.map blk).length := by rw [List.length_append]; exact Nat.add_sub_cancel _ _
  rw [e, if_neg (by decide +kernel), if_pos (by decide +kernel), l2, List.drop_left, if_pos rfl, List.dropLast_concat]
theorem nodup_mid {ks fs a b : List Str} {f : Str} (h : (ks ++ fs).Nodup) (e : a ++ f :: b = ks ++ fs) : f ∉ a := by
  rw [← e] at h
  have := (List.nodup_append.mp h).2.2
  intro hf
  exact this f hf f List.mem_cons_self rfl
theorem bound_new {m z f : Str} {xs : List V} {ws w : List Str} (h : bound m xs 0 ws = .inr w) (hb : BindP w m f z) (hf : wordB f = true) (hn : f ∉ w) : bound m (xs ++ [.str z]) 0 ws = .inr (w ++ [f]) := by
  rw [bound_snoc h (hb.ok (.inr hf)), hb.row.fst, if_neg (fun q => hn (hasS_mem.mp q))]
theorem bound_old {m z y : Str} {xs : List V} {ws w : List Str} (h : bound m xs 0 ws = .inr w) (hb : RowP w m y z) (hy : y ∈ w) : bound m (xs ++ [.str z]) 0 ws = .inr w := by
  rw [bound_snoc h (hb.ok hy), hb.fst, if_pos (hasS_mem.mpr hy)]
end WB
namespace WB
open PySem L2
theorem owns_app {ws os : List Str} (h : (ws ++ os).Nodup) : owns ws (ws ++ os) = os := by
  unfold owns
  rw [List.filter_append]
  have e1 : ws.filter (fun z => !hasS ws z) = [] := by
    rw [List.filter_eq_nil_iff]
    intro z hz
    rw [hasS_mem.mpr hz]
    exact Bool.noConfusion
  have e2 : os.filter (fun z => !hasS ws z) = os := by
    rw [List.filter_eq_self]
    intro z hz
    cases e : hasS ws z with
    | false => rfl
    | true => exact absurd rfl ((List.nodup_append.mp h).2.2 z (hasS_mem.mp e) z hz)
  rw [e1, e2]
  rfl
theorem parts_ok {m : Str} {r1 r2 r3 : List V} {ws os : List Str} (hm : MarkG m) (l1 : r1.length ≤ 6) (l2 : r2.length ≤ 6) (l3 : r3.length ≤ 16) (w3 : ws.length ≤ 3) (o2 : os.length ≤ 2) (w4 : ws.length + os.length ≤ 4)
    (h1 : bound m r1 0 [] = .inr ws) (h2 : bound m r2 0 ws = .inr (ws ++ os)) (h3 : taskF (ws ++ [("item" : Str), ("out" : Str)]) m r3 0 [] = .inr []) (nd : (ws ++ os).Nodup) :
    progE (.str m) (some r1) (some r2) (some r3) = .ok ⟨m, r1, r2, r3, ws, os⟩ := by
  unfold progE
  rw [if_pos hm.2]
  show pM m (some r1) (some r2) (some r3) = _
  unfold pM
  have a1 : argE "module" 6 (some r1) = .ok r1 := if_neg (by omega)
  rw [a1]
  show (boundE "module" m [] r1).bind _ = _
  have b1 : boundE "module" m [] r1 = .ok ws := by
    unfold boundE
    rw [h1]
  rw [b1]
  show (if 3 < ws.length then _ else pC m r1 ws (some r2) (some r3)) = _
  rw [if_neg (by omega)]
  unfold pC
  have a2 : argE "caller" 6 (some r2) = .ok r2 := if_neg (by omega)
  rw [a2]
  show (boundE "caller" m ws r2).bind _ = _
  have b2 : boundE "caller" m ws r2 = .ok (ws ++ os) := by
    unfold boundE
    rw [h2]
  rw [b2]
  show (if (decide (2 < (owns ws (ws ++ os)).length) || decide (4 < (ws ++ os).length)) = true then _ else pT m r1 r2 ws (owns ws (ws ++ os)) (some r3)) = _
  rw [owns_app nd, List.length_append, decide_eq_false (by omega), decide_eq_false (by omega), if_neg (by decide)]
  unfold pT
  have a3 : argE "task" 16 (some r3) = .ok r3 := if_neg (by omega)
  rw [a3]
  show (match taskE (ws ++ [("item" : Str), ("out" : Str)]) m r3 with | some i => _ | none => _) = _
  have t3 : taskE (ws ++ [("item" : Str), ("out" : Str)]) m r3 = none := by
    unfold taskE
    rw [h3]
    rfl
  rw [t3]
theorem max_nat (c k : Nat) : ∃ mo : Nat, (if ((k : Nat) : Int) > ((c : Nat) : Int) then ((k : Nat) : Int) else ((c : Nat) : Int)) = ((mo : Nat) : Int) ∧ k ≤ mo ∧ (mo ≤ c ∨ mo ≤ k) := by
  split
  · exact ⟨k, rfl, Nat.le_refl _, .inr (Nat.le_refl _)⟩
  · exact ⟨c, rfl, by omega, .inl (Nat.le_refl _)⟩
end WB

set_option Elab.async false
set_option linter.all false
set_option maxRecDepth 100000
set_option maxHeartbeats 4000000
namespace WB
open PySem PySem.Spec PyProof.Rows L2
section
variable {P : Program} {w : World} {A : Around} {E : Value → Shared → Prop} {s : Shared}
/-- the items of a tuple, gathered into a new list -/
theorem gather_tp {t : Addr} {us : List Value} {Q : List Value → Shared → Prop} (ht : IsTup s.heap t us.toArray) (hz : us.length ≤ sizeLine)
    (hQ : ∀ h', (∀ b u, s.heap.get? b = some u → h'.get? b = some u) → s.heap.objs.size ≤ h'.objs.size → Q us { s with heap := h' }) : wpAny (model P w) A (collect (.ref t)) Q E s := by
  obtain ⟨ob, h1, h2, c, h3⟩ := ht
  have g1 : (s.heap.push (seqObj "list" #[] 0)).get? t = some ob := Heap.get?_push_of_some _ h1
  have g2 : (s.heap.push (seqObj "list" #[] 0)).get? s.heap.objs.size = some (seqObj "list" #[] 0) := Heap.get?_push_size _ rfl
  have g3 := get?_update_seq g2 (fun x => x ++ us.toArray)
  unfold collect
  refine wpAny_bind (wpAny_runValue (codeAny_builtin entry_proto_collect' ?_))
  show wpAny (model P w) A.in1 (do again (.builtin "list.__iadd__" ⟨[← newList [], .ref t], []⟩)) _ _ s
  refine wpAny_bind (wpAny_newList ?_)
  refine wpAny_pure ⟨Code.quiet_builtin _ (by decide +kernel), ?_⟩
  refine codeAny_builtin entry_list_iadd' ?_
  show wpAny (model P w) _ (Builtin.List.listExtendWith (.ref s.heap.objs.size) (.ref t) (.ref s.heap.objs.size)) _ _ _
  unfold Builtin.List.listExtendWith
  refine wpAny_bind (wpAny_typeOf (T := "tuple") ⟨ob, g1, h2⟩ ?_)
  have cond : ((Value.type "tuple" == Value.type "tuple")) = true := by decide +kernel
  rw [if_pos (by rw [cond, Bool.or_true])]
  refine wpAny_bind (listItems_at g1 h3 ?_)
  refine wpAny_bind (listItems_at g2 rfl ?_)
  rw [if_neg (by simp)]
  refine wpAny_bind (listUpdate_at g2 rfl ?_ (Nat.zero_le _) (by show (#[] ++ us.toArray).size ≤ sizeLine + 1; simp only [Array.size_append, List.size_toArray, List.length_nil]; omega))
  refine wpAny_pure ?_
  dsimp only
  refine wpAny_bind (wpAny_load g3 ?_)
  have el : ((#[] : Array Value) ++ us.toArray).toList = us := by simp
  show wpAny (model P w) A (pure ((#[] : Array Value) ++ us.toArray).toList) Q E _
  rw [el]
  refine wpAny_pure (hQ _ (fun b u e => ?_) ?_)
  · exact (Heap.get?_update_other _ _ (Nat.ne_of_gt (Heap.lt_size e))).trans (Heap.get?_push_of_some _ e)
  · rw [Heap.size_update, size_push']
    exact Nat.le_succ _
/-- sorted(t), t a tuple of texts -/
theorem sorted_tp {t : Addr} {us : List Value} {L : List Str} {Q : Value → Shared → Prop} (ht : IsTup s.heap t us.toArray) (hs : StrsAre us L) (h64 : us.length < 64)
    (hQ : ∀ s' p (out : Array Value) (c : Nat) (ys : List Str), (∀ b o, s.heap.get? b = some o → s'.heap.get? b = some o) → s'.gens = s.gens → s'.os = s.os → s.heap.objs.size ≤ p →
      s'.heap.get? p = some (seqObj "list" out c) → StrsAre out.toList ys → sortedS ys = true → ys.Perm L → Q (.ref p) s') :
    wpAny (model P w) A (call (.builtin "sorted") [.ref t]) Q E s := by
  refine Calls.call_function_entry kind_sorted plain_sorted entry_sorted (args_sorted1 _) ?_
  unfold Builtin.«sorted»
  refine wpAny_bind (m := checkCount "sorted" 1 1 _) (wpAny_pure ?_)
  refine wpAny_bind (gather_tp (A := A.in1) ht (by rw [sizeLine_eq]; omega) fun h' kp up => ?_)
  refine wpAny_bind (wpAny_newList ?_ (by show us.length ≤ _; rw [sizeLine_eq]; omega))
  have hoL : (h'.push (seqObj "list" us.toArray 0)).get? h'.objs.size = some (seqObj "list" us.toArray 0) := Heap.get?_push_size _ rfl
  refine wpAny_bind (wpAny_holding (wpAny_call_entry slot_list_sort ⟨_, hoL, rfl⟩ entry_list_sort
    (list_sort_treeK strKind_oneLt hoL hs.keysOf (fun v₁ v₂ rest e => keyKind_strs (ss := L) (by rw [← e]; exact hs)) h64 fun st' hp hs2 => ⟨_, rfl, ?_⟩) (args_list_sort _)))
  obtain ⟨ys, a1, a2, a3⟩ := sorted_out_str hs hp hs2
  obtain ⟨c, hc⟩ := sortedHeap_at (vs := us) (out := (arrOf st').map (·.2)) hoL
  refine wpAny_pure ⟨_, rfl, hQ _ h'.objs.size _ c ys (fun b u e => ?_) rfl rfl up hc a1 a3 a2⟩
  have q := kp b u e
  have hlt := Heap.lt_size q
  show (sortedHeap (h'.push (seqObj "list" us.toArray 0)) h'.objs.size us _).get? b = some u
  rw [sortedHeap_old (Nat.ne_of_lt hlt) (by rw [size_push']; exact Nat.lt_succ_of_lt hlt)]
  exact Heap.get?_push_of_some _ q
end
def rSortedT (K : PySem.W.Frag) : List V → Hp → VK → Prop := fun vs H Q => ∃ (a : Addr) (xs : List Str), vs = [V.ref a] ∧ SqT K H a (xs.map V.str) ∧ xs.length < 64 ∧
  ∀ (ys : List Str) (p : Addr), ys.Perm xs → sortedS ys = true → H p = none → Q (.ref p) (upd H p (.lst (ys.map V.str)))
theorem cr_sortedT {X : Cx} : CallR X (.builtin "sorted") (rSortedT X.K) := by
  intro pins s σ H vs us Q I r h
  obtain ⟨a, xs, rfl, hs, h64, q⟩ := h
  obtain ⟨its, rv, ht, _⟩ := I.tuple hs
  rw [Vals.ref1 r]
  have hl0 := rv.length
  rw [List.length_map] at hl0
  refine sorted_tp ht rv.strs (by omega) fun s' p out c ys k g o hp hg hi hs2 pm => ?_
  have hlen : (ys.map V.str).length ≤ sizeLine := by rw [List.length_map, pm.length_eq, sizeLine_eq]; omega
  have hn : H p = none := I.hok.fresh hp
  have J : Inv X pins σ (upd H p (.lst (ys.map V.str))) { s with heap := s'.heap, gens := s'.gens, drawn := s'.drawn, toks := s'.toks } :=
    I.call (ch := []) (Un.laid k hp hn) (I.hok.laid k hp ⟨hlen, out.toList, c, vals_of_strs hi, hg⟩) (by rw [g]; exact I.bare) (fun _ z => nomatch z)
  have e : s' = { s with heap := s'.heap, gens := s'.gens, drawn := s'.drawn, toks := s'.toks } := by
    cases s'
    cases s
    cases o
    rfl
  rw [e]
  exact ⟨.ref p, _, J, rfl, q ys p pm hs2 hn⟩
end WB

set_option Elab.async false
set_option linter.all false
set_option maxRecDepth 100000
set_option maxHeartbeats 4000000
namespace WB
open PySem L2
open PyProof.Rows (sortedS)
/-! ### data that is shown and compared -/
structure Gd (k N : Nat) (d : PyData) : Prop where
  sh : d.showable = true
  nd : d.hasDict = false
  dp : d.depth ≤ k
  ln : d.shown.length ≤ N
  ly : PyData.canLay0 d = true
  eq : PyData.eqv d d = true
theorem gd_str {z : Str} (h : SmallS z) : Gd 0 3002 (.str z) := ⟨rfl, rfl, Nat.le_refl _, repr_len h, lay_str1 h, beq_self_eq_true z⟩
theorem Gd.mono {k N k' N' : Nat} {d : PyData} (h : Gd k N d) (a : k ≤ k') (b : N ≤ N') : Gd k' N' d := ⟨h.sh, h.nd, Nat.le_trans h.dp a, Nat.le_trans h.ln b, h.ly, h.eq⟩
theorem gd_all {k N : Nat} : ∀ {ds : List PyData}, (∀ d ∈ ds, Gd k N d) → PyData.showableAll ds = true ∧ PyData.hasDictAll ds = false ∧ PyData.depthAll ds ≤ k ∧ (∀ t ∈ PyData.shownAll ds, t.length ≤ N) ∧ PyData.canLayAll0 ds = true ∧ PyData.eqvAll ds ds = true
  | [], _ => ⟨rfl, rfl, Nat.zero_le _, fun t ht => absurd ht List.not_mem_nil, rfl, rfl⟩
  | d :: r, h => by
    have g := h d List.mem_cons_self
    obtain ⟨h1, h2, h3, h4, h5, h6⟩ := gd_all (ds := r) fun x hx => h x (List.mem_cons_of_mem _ hx)
    refine ⟨?_, ?_, ?_, fun t ht => ?_, ?_, ?_⟩
    · show (d.showable && PyData.showableAll r) = true
      rw [g.sh, h1]; rfl
    · show (d.hasDict || PyData.hasDictAll r) = false
      rw [g.nd, h2]; rfl
    · show max d.depth (PyData.depthAll r) ≤ k
      have := g.dp
      omega
    · rcases List.mem_cons.mp ht with e | ht
      · rw [e]; exact g.ln
      · exact h4 t ht
    · show (PyData.canLay0 d && PyData.canLayAll0 r) = true
      rw [g.ly, h5]; rfl
    · show (PyData.eqv d d && PyData.eqvAll r r) = true
      rw [g.eq, h6]; rfl
theorem gd_list {k N n : Nat} {ds : List PyData} (h : ∀ d ∈ ds, Gd k N d) (hl : ds.length ≤ n) : Gd (k + 1) (n * (N + 2) + 2) (.list ds) := by
  obtain ⟨h1, h2, h3, h4, h5, h6⟩ := gd_all h
  exact ⟨h1, h2, Nat.succ_le_succ h3, list_lenN h4 (by rw [shownAll_len]; exact hl), h5, h6⟩
theorem gd_tup {k N n : Nat} {ds : List PyData} (h : ∀ d ∈ ds, Gd k N d) (hl : ds.length ≤ n) : Gd (k + 1) (2 * (n * (N + 2)) + 10) (.tuple ds) := by
  obtain ⟨h1, h2, h3, h4, h5, h6⟩ := gd_all h
  exact ⟨h1, h2, Nat.succ_le_succ h3, tuple_lenN h4 (by rw [shownAll_len]; exact hl), h5, h6⟩
theorem Gd.ok {k N : Nat} {d : PyData} (h : Gd k N d) (hk : k ≤ 60) (hN : N ≤ 16000000) : OkD d ∧ SeqAt.shaped d = true ∧ PyData.eqv d d = true := by
  refine ⟨⟨h.sh, h.nd, Nat.le_trans h.dp (by omega), .inr (Nat.le_trans h.ln (Nat.le_trans hN (by decide)))⟩, ?_, h.eq⟩
  unfold SeqAt.shaped
  rw [h.ly, decide_eq_true (Nat.le_trans h.dp (by omega))]
  rfl
theorem gd_strs {zs : List Str} {n : Nat} (h : ∀ z ∈ zs, SmallS z) (hl : zs.length ≤ n) : Gd 1 (n * 3004 + 2) (.list (zs.map PyData.str)) := gd_list (N := 3002) (fun d hd => by
  obtain ⟨z, hz, rfl⟩ := List.mem_map.mp hd
  exact gd_str (h z hz)) (by rw [List.length_map]; exact hl)
theorem gd_tups {zs : List Str} {n : Nat} (h : ∀ z ∈ zs, SmallS z) (hl : zs.length ≤ n) : Gd 1 (2 * (n * 3004) + 10) (.tuple (zs.map PyData.str)) := gd_tup (N := 3002) (fun d hd => by
  obtain ⟨z, hz, rfl⟩ := List.mem_map.mp hd
  exact gd_str (h z hz)) (by rw [List.length_map]; exact hl)
/-! ### data under a heap that grows -/
theorem same_T {K : PySem.W.Frag} {H H' : Hp} {a : Addr} {xs : List V} (e : Same H H') (h : SqT K H a xs) : SqT K H' a xs := by
  rcases h with (h | ⟨o, h⟩) | h
  · exact .inl (.inl (e _ _ h))
  · exact .inl (.inr ⟨o, e _ _ h⟩)
  · exact .inr h
mutual
theorem dp_grow {K : PySem.W.Frag} {H H' : Hp} (s : Same H H') : ∀ (d : PyData) (v : V), Dp K H v d → Dp K H' v d
  | .none, _, h => by cases h; exact .non
  | .bool b, _, h => by cases h; exact .bl b
  | .int i, _, h => by cases h; exact .int i
  | .str x, _, h => by cases h; exact .str x
  | .list ds, _, h => by
    cases h with
    | lst q a => exact .lst (s.seq q) (dpall_grow s ds _ a)
  | .tuple ds, _, h => by
    cases h with
    | tup q a => exact .tup (same_T s q) (dpall_grow s ds _ a)
  | .dict _, _, h => by cases h
theorem dpall_grow {K : PySem.W.Frag} {H H' : Hp} (s : Same H H') : ∀ (ds : List PyData) (vs : List V), DpAll K H vs ds → DpAll K H' vs ds
  | [], _, h => by cases h; exact .nil
  | d :: r, _, h => by
    cases h with
    | cons a b => exact .cons (dp_grow s d _ a) (dpall_grow s r _ b)
end
theorem dpall_app {K : PySem.W.Frag} {H : Hp} : ∀ {xs ys : List V} {ds es : List PyData}, DpAll K H xs ds → DpAll K H ys es → DpAll K H (xs ++ ys) (ds ++ es)
  | _, _, _, _, .nil, h => h
  | _, _, _, _, .cons a b, h => .cons a (dpall_app b h)
end WB

set_option Elab.async false
set_option linter.all false
set_option maxRecDepth 100000
set_option maxHeartbeats 4000000
namespace WB
open PySem L2
open PyProof.Rows (sortedS)
/-! ### what programs show -/
def fnd (cs : List Nat) : List Str := cs.foldl (fun f c => f ++ f.map fun z => z ++ (⟨#[c]⟩ : Str)) [""]
theorem fnd_snoc (cs : List Nat) (c : Nat) : fnd (cs ++ [c]) = fnd cs ++ (fnd cs).map fun z => z ++ (⟨#[c]⟩ : Str) := by
  unfold fnd
  rw [List.foldl_append]
  rfl
theorem fnd_len : ∀ (n : Nat) (cs : List Nat), cs.length = n → (fnd cs).length = 2 ^ n ∧ ∀ z ∈ fnd cs, z.length ≤ n ∧ ∀ c ∈ z.cps.toList, c ∈ cs
  | 0, cs, h => by
    rw [List.length_eq_zero_iff.mp h]
    exact ⟨rfl, fun z hz => by
      rw [List.mem_singleton.mp hz]
      exact ⟨Nat.le_refl _, fun c hc => absurd hc List.not_mem_nil⟩⟩
  | n + 1, cs, h => by
    have hne : cs ≠ [] := fun e => by rw [e] at h; cases h
    have e := List.dropLast_concat_getLast hne
    have hl : cs.dropLast.length = n := by rw [List.length_dropLast]; omega
    obtain ⟨h1, h2⟩ := fnd_len n cs.dropLast hl
    have sub : ∀ c ∈ cs.dropLast, c ∈ cs := fun c hc => List.dropLast_subset _ hc
    rw [← e, fnd_snoc]
    rw [e]
    refine ⟨?_, fun z hz => ?_⟩
    · rw [List.length_append, List.length_map, h1, Nat.pow_succ]
      omega
    · rcases List.mem_append.mp hz with hz | hz
      · obtain ⟨a, b⟩ := h2 z hz
        exact ⟨by omega, fun c hc => sub c (b c hc)⟩
      · obtain ⟨y, hy, rfl⟩ := List.mem_map.mp hz
        obtain ⟨a, b⟩ := h2 y hy
        refine ⟨?_, fun c hc => ?_⟩
        · rw [Str.length_append]
          exact Nat.add_le_add a (Nat.le_refl 1)
        · rw [tl_app] at hc
          rcases List.mem_append.mp hc with hc | hc
          · exact sub c (b c hc)
          · have : c = cs.getLast hne := by simpa using hc
            rw [this]
            exact List.getLast_mem hne
def dPr (k z : Str) : PyData := .tuple [.str k, .str z]
def dLet (ys ns : List Str) : List PyData := ys.map (dPr "box") ++ ns.map (dPr "name")
def wantedD (m : Str) (r1 r2 r3 gs os nm ys : List Str) : List PyData := [.str m, .tuple (r1.map .str), .tuple (r2.map .str), .tuple (r3.map .str), .list (gs.map .str), .list (os.map .str), .list (nm.map .str), .list (dLet ys os)]
def PartsAt (H : Hp) (t : Addr) (m : Str) (r1 r2 r3 gs os : List Str) : Prop := ∃ l1 l2 l3 l4 l5 : Addr, H t = some (.tup [.str m, .ref l1, .ref l2, .ref l3, .ref l4, .ref l5]) ∧ H l1 = some (.lst (r1.map V.str)) ∧ H l2 = some (.lst (r2.map V.str)) ∧ H l3 = some (.lst (r3.map V.str)) ∧ H l4 = some (.lst (gs.map V.str)) ∧ H l5 = some (.lst (os.map V.str))
theorem PartsAt.same {H H' : Hp} {t : Addr} {m : Str} {r1 r2 r3 gs os : List Str} (h : PartsAt H t m r1 r2 r3 gs os) (s : Same H H') : PartsAt H' t m r1 r2 r3 gs os := by
  obtain ⟨l1, l2, l3, l4, l5, h0, h1, h2, h3, h4, h5⟩ := h
  exact ⟨l1, l2, l3, l4, l5, s _ _ h0, s _ _ h1, s _ _ h2, s _ _ h3, s _ _ h4, s _ _ h5⟩
theorem ProgAt.same {C : Addr} {H H' : Hp} {a : Addr} {p : Prog} (h : ProgAt C H a p) (s : Same H H') : ProgAt C H' a p := by
  obtain ⟨dx, t1, t2, t3, t4, t5, h0, h1, h2, h3, h4, h5⟩ := h
  exact ⟨dx, t1, t2, t3, t4, t5, s _ _ h0, s _ _ h1, s _ _ h2, s _ _ h3, s _ _ h4, s _ _ h5⟩
/-- a list that changes leaves a program as it is -/
theorem ProgAt.put {C : Addr} {H : Hp} {a l : Addr} {p : Prog} {xs : List V} {o : HO} (h : ProgAt C H a p) (hl : H l = some (.lst xs)) : ProgAt C (upd H l o) a p := by
  obtain ⟨dx, t1, t2, t3, t4, t5, h0, h1, h2, h3, h4, h5⟩ := h
  have ne : ∀ {b : Addr} {u : HO}, H b = some u → (∀ ys, u ≠ .lst ys) → b ≠ l := fun hb hu e => by
    rw [e, hl] at hb
    exact hu _ (Option.some.inj hb).symm
  exact ⟨dx, t1, t2, t3, t4, t5, (upd_ne (ne h0 (by intro ys e; cases e))).trans h0, (upd_ne (ne h1 (by intro ys e; cases e))).trans h1, (upd_ne (ne h2 (by intro ys e; cases e))).trans h2, (upd_ne (ne h3 (by intro ys e; cases e))).trans h3, (upd_ne (ne h4 (by intro ys e; cases e))).trans h4, (upd_ne (ne h5 (by intro ys e; cases e))).trans h5⟩
def spNs (C : Addr) (f : Prog → List Str) : Sp := fun vs H Q _ => ∃ (a : Addr) (p : Prog), vs = [.ref a] ∧ ProgAt C H a p ∧ p.ws.length ≤ 20 ∧ p.os.length ≤ 20 ∧
  ∀ H' l ys, Same H H' → H l = none → H' l = some (.lst (ys.map V.str)) → ys.Perm (f p) → sortedS ys = true → Q (.ref l) H'
def spLtrs (K : PySem.W.Frag) (C : Addr) : Sp := fun vs H Q _ => ∃ (a : Addr) (p : Prog), vs = [.ref a] ∧ ProgAt C H a p ∧ p.ws.length ≤ 20 ∧ p.os.length ≤ 2 ∧ marksB (.str p.m) = true ∧
  ∀ H' l xs ys ns, Same H H' → H l = none → H' l = some (.lst xs) → DpAll K H' xs (dLet ys ns) → xs.length ≤ 6 → ys.Perm (fnd (plains p.m)) → sortedS ys = true → ns.Perm p.os → sortedS ns = true → Q (.ref l) H'
def spLL (K : PySem.W.Frag) : Sp := fun vs H Q _ => ∃ (t : Addr) (m : Str) (r1 r2 r3 gs os : List Str), vs = [.ref t] ∧ PartsAt H t m r1 r2 r3 gs os ∧ marksB (.str m) = true ∧ os.length ≤ 2 ∧
  ∀ H' l xs ys, Same H H' → H l = none → H' l = some (.lst xs) → DpAll K H' xs (dLet ys os) → xs.length ≤ 6 → ys.Perm (fnd (plains m)) → sortedS ys = true → Q (.ref l) H'
def spWantd (K : PySem.W.Frag) : Sp := fun vs H Q _ => ∃ (t : Addr) (m : Str) (r1 r2 r3 gs os : List Str), vs = [.ref t] ∧ PartsAt H t m r1 r2 r3 gs os ∧ marksB (.str m) = true ∧ gs.length ≤ 3 ∧ os.length ≤ 2 ∧
  ∀ H' l xs nm ys, Same H H' → H' l = some (.lst xs) → DpAll K H' xs (wantedD m r1 r2 r3 gs os nm ys) → nm.Perm (gs ++ os) → sortedS nm = true → ys.Perm (fnd (plains m)) → sortedS ys = true → Q (.ref l) H'
def spShownP (K : PySem.W.Frag) (C : Addr) : Sp := fun vs H Q _ => ∃ (a : Addr) (m : Str) (r1 r2 r3 ws ns : List Str), vs = [.ref a] ∧ ProgAt C H a ⟨m, r1.map V.str, r2.map V.str, r3.map V.str, ws, ns⟩ ∧ marksB (.str m) = true ∧ ws.length ≤ 3 ∧ ns.length ≤ 2 ∧
  ∀ H' l xs gs os nm ys, Same H H' → H' l = some (.lst xs) → DpAll K H' xs (wantedD m r1 r2 r3 gs os nm ys) → gs.Perm ws → sortedS gs = true → os.Perm ns → sortedS os = true → nm.Perm (ws ++ ns) → sortedS nm = true → ys.Perm (fnd (plains m)) → sortedS ys = true → Q (.ref l) H'
def spSpoil (C : Addr) : Sp := fun vs H Q _ => ∃ (a : Addr) (p : Prog), vs = [.ref a] ∧ ProgAt C H a p ∧ p.ws.length ≤ 20 ∧ p.os.length ≤ 2 ∧ marksB (.str p.m) = true ∧ ∀ H', Same H H' → Q .non H'
theorem plains_two {m : Str} (h : marksB (.str m) = true) : (plains m).length ≤ 2 := by
  have h : ((conS m && (decide (1 ≤ m.length) && decide (m.length ≤ 3))) && decide ((plains m).length ≤ 2)) = true := h
  rw [Bool.and_eq_true] at h
  exact of_decide_eq_true h.2
theorem marks_three {m : Str} (h : marksB (.str m) = true) : m.length ≤ 3 := by
  have h : ((conS m && (decide (1 ≤ m.length) && decide (m.length ≤ 3))) && decide ((plains m).length ≤ 2)) = true := h
  rw [Bool.and_eq_true, Bool.and_eq_true, Bool.and_eq_true] at h
  exact of_decide_eq_true h.1.2.2
end WB
namespace WB
open PySem L2
/-- tuples of a kind and a text -/
def Prs (H : Hp) (k : Str) : List Addr → List Str → Prop
  | [], [] => True
  | t :: ts, z :: zs => H t = some (.tup [.str k, .str z]) ∧ Prs H k ts zs
  | _, _ => False
theorem prs_same {H H' : Hp} {k : Str} (s : Same H H') : ∀ {ts : List Addr} {zs : List Str}, Prs H k ts zs → Prs H' k ts zs
  | [], [], _ => trivial
  | _ :: _, _ :: _, ⟨a, b⟩ => ⟨s _ _ a, prs_same s b⟩
  | [], _ :: _, h => h.elim
  | _ :: _, [], h => h.elim
theorem prs_put {H : Hp} {k : Str} {D : Addr} {xs : List V} {o : HO} (hD : H D = some (.lst xs)) : ∀ {ts : List Addr} {zs : List Str}, Prs H k ts zs → Prs (upd H D o) k ts zs
  | [], [], _ => trivial
  | t :: _, _ :: _, ⟨a, b⟩ => ⟨(upd_ne (fun e => by rw [e, hD] at a; cases a)).trans a, prs_put hD b⟩
  | [], _ :: _, h => h.elim
  | _ :: _, [], h => h.elim
theorem prs_snoc {H : Hp} {k : Str} {t : Addr} {z : Str} (h : H t = some (.tup [.str k, .str z])) : ∀ {ts : List Addr} {zs : List Str}, Prs H k ts zs → Prs H k (ts ++ [t]) (zs ++ [z])
  | [], [], _ => ⟨h, trivial⟩
  | _ :: _, _ :: _, ⟨a, b⟩ => ⟨a, prs_snoc h b⟩
  | [], _ :: _, h => h.elim
  | _ :: _, [], h => h.elim
theorem prs_dp {K : PySem.W.Frag} {H : Hp} {k : Str} : ∀ {ts : List Addr} {zs : List Str}, Prs H k ts zs → DpAll K H (ts.map V.ref) (zs.map (dPr k))
  | [], [], _ => .nil
  | _ :: _, _ :: _, ⟨a, b⟩ => .cons (.tup (SqT.of a) (.cons (.str _) (.cons (.str _) .nil))) (prs_dp b)
  | [], _ :: _, h => h.elim
  | _ :: _, [], h => h.elim
theorem prs_len {H : Hp} {k : Str} : ∀ {ts : List Addr} {zs : List Str}, Prs H k ts zs → ts.length = zs.length
  | [], [], _ => rfl
  | _ :: _, _ :: _, ⟨_, b⟩ => congrArg (· + 1) (prs_len b)
  | [], _ :: _, h => h.elim
  | _ :: _, [], h => h.elim
theorem take_get {α : Type} {l : List α} {i : Nat} {x : α} (h : l[i]? = some x) : l.take (i + 1) = l.take i ++ [x] := by rw [List.take_succ, h]; rfl
end WB

set_option Elab.async false
set_option linter.all false
set_option maxRecDepth 100000
set_option maxHeartbeats 4000000
namespace WB
open PySem L2
open PyProof.Rows (sortedS)
/-! ### programs and the parts that they were made of -/
structure PartsF (m : Str) (r1 r2 r3 gs os ws ns : List Str) : Prop where
  pg : gs.Perm ws
  po : os.Perm ns
  sg : sortedS gs = true
  so : sortedS os = true
  lw : ws.length ≤ 3
  ln : ns.length ≤ 2
  mm : marksB (.str m) = true
  w1 : ∀ y ∈ r1, SmallS y
  w2 : ∀ y ∈ r2, SmallS y
  w3 : ∀ y ∈ r3, SmallS y
  l1 : r1.length ≤ 16
  l2 : r2.length ≤ 16
  l3 : r3.length ≤ 16
  wo : ∀ y ∈ ws ++ ns, SmallS y
def EntAt (C p D : Addr) (H : Hp) (e : Addr) : Prop := ∃ (a t : Addr) (m : Str) (r1 r2 r3 gs os ws ns : List Str) (l1 l2 l3 l4 l5 : Addr), H e = some (.tup [.ref a, .ref t]) ∧ ProgAt C H a ⟨m, r1.map V.str, r2.map V.str, r3.map V.str, ws, ns⟩ ∧
  (H t = some (.tup [.str m, .ref l1, .ref l2, .ref l3, .ref l4, .ref l5]) ∧ H l1 = some (.lst (r1.map V.str)) ∧ H l2 = some (.lst (r2.map V.str)) ∧ H l3 = some (.lst (r3.map V.str)) ∧ H l4 = some (.lst (gs.map V.str)) ∧ H l5 = some (.lst (os.map V.str))) ∧
  (∀ l ∈ [l1, l2, l3, l4, l5], l ≠ p ∧ l ≠ D) ∧ PartsF m r1 r2 r3 gs os ws ns
theorem ent_bar2 {C p D e : Addr} {H H' : Hp} {xs ys : List V} (hp : H p = some (.lst xs)) (hD : H D = some (.lst ys)) (b : ∀ x u, x ≠ p → x ≠ D → H x = some u → H' x = some u) (h : EntAt C p D H e) : EntAt C p D H' e := by
  obtain ⟨a, t, m, r1, r2, r3, gs, os, ws, ns, l1, l2, l3, l4, l5, he, hP, ⟨h0, h1, h2, h3, h4, h5⟩, hl, hF⟩ := h
  obtain ⟨dx, t1, t2, t3, t4, t5, i0, i1, i2, i3, i4, i5⟩ := hP
  have nl : ∀ {x : Addr} {u : HO}, H x = some u → (∀ zs, u ≠ .lst zs) → H' x = some u := fun {x u} hx hu => b x u (fun e => by
    rw [e, hp] at hx
    exact hu _ (Option.some.inj hx).symm) (fun e => by
    rw [e, hD] at hx
    exact hu _ (Option.some.inj hx).symm) hx
  have li : ∀ {l : Addr} {u : HO}, l ∈ [l1, l2, l3, l4, l5] → H l = some u → H' l = some u := fun {l u} hm hx => b l u (hl l hm).1 (hl l hm).2 hx
  exact ⟨a, t, m, r1, r2, r3, gs, os, ws, ns, l1, l2, l3, l4, l5, nl he (by intro z e; cases e), ⟨dx, t1, t2, t3, t4, t5, nl i0 (by intro z e; cases e), nl i1 (by intro z e; cases e), nl i2 (by intro z e; cases e), nl i3 (by intro z e; cases e), nl i4 (by intro z e; cases e), nl i5 (by intro z e; cases e)⟩,
    ⟨nl h0 (by intro z e; cases e), li (by simp) h1, li (by simp) h2, li (by simp) h3, li (by simp) h4, li (by simp) h5⟩, hl, hF⟩
theorem marks_small {m : Str} (h : marksB (.str m) = true) : SmallS m := ⟨Nat.le_trans (marks_three h) (by decide), fun c hc => (mk_sm c ((marks_sorted h).2 c hc)).1⟩
theorem plains_sub {m : Str} : ∀ c ∈ plains m, c ∈ m.cps.toList := fun c hc => (List.mem_filter.mp hc).1
theorem wanted_ok {m : Str} {r1 r2 r3 gs os ws ns nm ys : List Str} (F : PartsF m r1 r2 r3 gs os ws ns) (pn : nm.Perm (gs ++ os)) (py : ys.Perm (fnd (plains m))) :
    OkD (.list (wantedD m r1 r2 r3 gs os nm ys)) ∧ SeqAt.shaped (.list (wantedD m r1 r2 r3 gs os nm ys)) = true ∧ PyData.eqv (.list (wantedD m r1 r2 r3 gs os nm ys)) (.list (wantedD m r1 r2 r3 gs os nm ys)) = true := by
  have gsS : ∀ y ∈ gs, SmallS y := fun y hy => F.wo y (List.mem_append_left _ (F.pg.mem_iff.mp hy))
  have osS : ∀ y ∈ os, SmallS y := fun y hy => F.wo y (List.mem_append_right _ (F.po.mem_iff.mp hy))
  have lg : gs.length ≤ 3 := by rw [F.pg.length_eq]; exact F.lw
  have lo : os.length ≤ 2 := by rw [F.po.length_eq]; exact F.ln
  have nmS : ∀ y ∈ nm, SmallS y := fun y hy => (List.mem_append.mp (pn.mem_iff.mp hy)).elim (gsS y) (osS y)
  have lnm : nm.length ≤ 20 := by rw [pn.length_eq, List.length_append]; omega
  obtain ⟨fl, fz⟩ := fnd_len _ (plains m) rfl
  have p2 := plains_two F.mm
  have f4 : (fnd (plains m)).length ≤ 4 := by
    rw [fl]
    calc 2 ^ (plains m).length ≤ 2 ^ 2 := Nat.pow_le_pow_right (by decide) p2
      _ ≤ 4 := by decide
  have ysS : ∀ y ∈ ys, SmallS y := fun y hy => by
    obtain ⟨a, b⟩ := fz y (py.mem_iff.mp hy)
    exact ⟨by omega, fun c hc => (mk_sm c ((marks_sorted F.mm).2 c (plains_sub c (b c hc)))).1⟩
  have ly : ys.length ≤ 4 := by rw [py.length_eq]; exact f4
  have pr : ∀ {k z : Str}, SmallS k → SmallS z → Gd 1 12026 (dPr k z) := fun hk hz => (gd_tup (k := 0) (N := 3002) (n := 2) (fun d hd => by
    simp only [List.mem_cons, List.not_mem_nil, or_false] at hd
    rcases hd with rfl | rfl
    · exact gd_str hk
    · exact gd_str hz) (by show 2 ≤ 2; decide)).mono (Nat.le_refl _) (by decide)
  have sb : SmallS "box" := ⟨by decide, by decide⟩
  have sn : SmallS "name" := ⟨by decide, by decide⟩
  refine Gd.ok (k := 3) (N := 8 * (100000 + 2) + 2) (gd_list (k := 2) (N := 100000) (n := 8) (fun d hd => ?_) (by show 8 ≤ 8; decide)) (by decide) (by decide)
  unfold wantedD at hd
  simp only [List.mem_cons, List.not_mem_nil, or_false] at hd
  rcases hd with rfl | rfl | rfl | rfl | rfl | rfl | rfl | rfl
  · exact (gd_str (marks_small F.mm)).mono (by decide) (by decide)
  · exact (gd_tups (n := 16) F.w1 F.l1).mono (by decide) (by decide)
  · exact (gd_tups (n := 16) F.w2 F.l2).mono (by decide) (by decide)
  · exact (gd_tups (n := 16) F.w3 F.l3).mono (by decide) (by decide)
  · exact (gd_strs (n := 20) gsS (by omega)).mono (by decide) (by decide)
  · exact (gd_strs (n := 20) osS (by omega)).mono (by decide) (by decide)
  · exact (gd_strs (n := 20) nmS lnm).mono (by decide) (by decide)
  · refine (gd_list (k := 1) (N := 12026) (n := 6) (fun d hd => ?_) ?_).mono (by decide) (by decide)
    · rcases List.mem_append.mp hd with hd | hd
      · obtain ⟨z, hz, rfl⟩ := List.mem_map.mp hd
        exact pr sb (ysS z hz)
      · obtain ⟨z, hz, rfl⟩ := List.mem_map.mp hd
        exact pr sn (osS z hz)
    · unfold dLet
      rw [List.length_append, List.length_map, List.length_map]
      omega
end WB
namespace WB
open PySem L2
theorem prog_but {C a : Addr} {H H' : Hp} {pr : Prog} {Y : List Addr} (hy : ∀ y ∈ Y, ∃ xs, H y = some (.lst xs)) (b : ∀ x u, x ∉ Y → H x = some u → H' x = some u) (h : ProgAt C H a pr) : ProgAt C H' a pr := by
  obtain ⟨dx, t1, t2, t3, t4, t5, i0, i1, i2, i3, i4, i5⟩ := h
  have nl : ∀ {x : Addr} {u : HO}, H x = some u → (∀ zs, u ≠ .lst zs) → H' x = some u := fun {x u} hx hu => b x u (fun e => by
    obtain ⟨xs, h2⟩ := hy x e
    rw [h2] at hx
    exact hu _ (Option.some.inj hx).symm) hx
  exact ⟨dx, t1, t2, t3, t4, t5, nl i0 (by intro z e; cases e), nl i1 (by intro z e; cases e), nl i2 (by intro z e; cases e), nl i3 (by intro z e; cases e), nl i4 (by intro z e; cases e), nl i5 (by intro z e; cases e)⟩
theorem stra_but {H H' : Hp} {p q : Addr} {n : Nat} (h : StrA H p q n) (hp : ∀ u, H p = some u → H' p = some u) (hq : ∀ u, H q = some u → H' q = some u) : StrA H' p q n := by
  obtain ⟨c, s, i, ns, h1, h2, r⟩ := h
  exact ⟨c, s, i, ns, hp _ h1, hq _ h2, r⟩
end WB

set_option Elab.async false
set_option linter.all false
set_option maxRecDepth 100000
set_option maxHeartbeats 4000000
namespace WB
open PySem L2
open PyProof.Rows (sortedS)
/-! ### programs written and read -/
def linesP (m : Str) (r1 r2 r3 : List Str) : List Str := (("marks " : Str) ++ m) :: ("module" : Str) :: (r1 ++ (("caller" : Str) :: (r2 ++ (("task" : Str) :: r3))))
def textOf (m : Str) (r1 r2 r3 : List Str) : Str := Txt.join "\n" (linesP m r1 r2 r3)
theorem lines_len (m : Str) (r1 r2 r3 : List Str) : (linesP m r1 r2 r3).length = r1.length + r2.length + r3.length + 4 := by
  unfold linesP
  rw [List.length_cons, List.length_cons, List.length_append, List.length_cons, List.length_append, List.length_cons]
  omega
theorem lines_sm {m : Str} {r1 r2 r3 : List Str} (hm : Sm 3 m) (w1 : ∀ y ∈ r1, Sm 30 y) (w2 : ∀ y ∈ r2, Sm 30 y) (w3 : ∀ y ∈ r3, Sm 30 y) : ∀ z ∈ linesP m r1 r2 r3, Sm 30 z := fun z hz => by
  have m6 : Sm 6 ("marks " : Str) := sm_lit
  unfold linesP at hz
  rcases List.mem_cons.mp hz with rfl | hz
  · exact (m6.cat hm).mono (by decide)
  rcases List.mem_cons.mp hz with rfl | hz
  · exact sm_lit
  rcases List.mem_append.mp hz with hz | hz
  · exact w1 z hz
  rcases List.mem_cons.mp hz with rfl | hz
  · exact sm_lit
  rcases List.mem_append.mp hz with hz | hz
  · exact w2 z hz
  rcases List.mem_cons.mp hz with rfl | hz
  · exact sm_lit
  · exact w3 z hz
theorem bound_parts {m : Str} : ∀ {xs : List V} {i : Nat} {ws w : List Str}, bound m xs i ws = .inr w → ∀ z, V.str z ∈ xs → 3 ≤ (parts z).length
  | [], _, _, _, _, z, hz => absurd hz List.not_mem_nil
  | .str y :: r, i, ws, w, h, z, hz => by
    have e : bound m (.str y :: r) i ws = if rowB ws m true y = true then bound m r (i + 1) (if hasS ws (fst y) = true then ws else ws ++ [fst y]) else .inl i := rfl
    rw [e] at h
    split at h
    · rename_i g
      rcases List.mem_cons.mp hz with q | q
      · have q := V.str.inj q
        subst q
        unfold rowB at g
        cases hf : form (parts z) with
        | none =>
          rw [hf] at g
          cases g
        | some t =>
          refine Nat.le_of_not_lt fun hl => ?_
          rw [form_none (by omega) (by omega)] at hf
          cases hf
      · exact bound_parts h z q
    · cases h
  | .int _ :: _, _, _, _, h, _, _ => by cases h
  | .bl _ :: _, _, _, _, h, _, _ => by cases h
  | .non :: _, _, _, _, h, _, _ => by cases h
  | .ref _ :: _, _, _, _, h, _, _ => by cases h
  | .ty _ :: _, _, _, _, h, _, _ => by cases h
  | .byt _ :: _, _, _, _, h, _, _ => by cases h
  | .flt _ :: _, _, _, _, h, _, _ => by cases h
theorem arg_inv {p : Str} {n : Nat} {xs as : List V} (h : argE p n (some xs) = .ok as) : as = xs := by
  have h : (if n < xs.length then Except.error (Er.many "rows") else Except.ok xs) = Except.ok as := h
  split at h
  · cases h
  · cases h; rfl
theorem bound_inv {p m : Str} {ws w : List Str} {xs : List V} (h : boundE p m ws xs = .ok w) : bound m xs 0 ws = .inr w := by
  unfold boundE at h
  split at h
  · cases h
  · rename_i w2 e
    cases h
    exact e
theorem bind_inv {α β ε : Type} {x : Except ε α} {f : α → Except ε β} {b : β} (h : x.bind f = .ok b) : ∃ a, x = .ok a ∧ f a = .ok b := by
  cases x with
  | error e => cases h
  | ok a => exact ⟨a, rfl, h⟩
theorem prog_rows {m : Str} {xs ys zs : List V} {p : Prog} (h : progE (.str m) (some xs) (some ys) (some zs) = .ok p) : (∃ w, bound m xs 0 [] = .inr w) ∧ ∃ ws w, bound m ys 0 ws = .inr w := by
  have h1 : pM m (some xs) (some ys) (some zs) = .ok p := by
    unfold progE at h
    split at h
    · exact h
    · cases h
  unfold pM at h1
  obtain ⟨as, ha, h2⟩ := bind_inv h1
  have ea := arg_inv ha
  rw [ea] at h2
  obtain ⟨ws, hb, h3⟩ := bind_inv h2
  refine ⟨⟨ws, bound_inv hb⟩, ?_⟩
  split at h3
  · cases h3
  unfold pC at h3
  obtain ⟨cs, hc, h4⟩ := bind_inv h3
  have ec := arg_inv hc
  rw [ec] at h4
  obtain ⟨w2, hd, _⟩ := bind_inv h4
  exact ⟨ws, w2, bound_inv hd⟩
theorem no_line {y : Str} (h : 3 ≤ (parts y).length) : y ≠ "caller" ∧ y ≠ "task" := by
  have e1 : (parts "caller").length = 1 := by decide +kernel
  have e2 : (parts "task").length = 1 := by decide +kernel
  refine ⟨fun e => ?_, fun e => ?_⟩
  · rw [e, e1] at h; omega
  · rw [e, e2] at h; omega
theorem read_ok {m : Str} {r1 r2 r3 : List Str} {p : Prog} (h : progE (.str m) (some (r1.map V.str)) (some (r2.map V.str)) (some (r3.map V.str)) = .ok p) : readF (linesP m r1 r2 r3) = .ok p := by
  obtain ⟨⟨w, b1⟩, ⟨ws, w2, b2⟩⟩ := prog_rows h
  have n1 : ∀ y ∈ r1, y ≠ "caller" := fun y hy => (no_line (bound_parts b1 y (List.mem_map.mpr ⟨y, hy, rfl⟩))).1
  have n2 : ∀ y ∈ r2, y ≠ "task" := fun y hy => (no_line (bound_parts b2 y (List.mem_map.mpr ⟨y, hy, rfl⟩))).2
  have g0 : ∀ j, (linesP m r1 r2 r3)[j + 2]? = (r1 ++ (("caller" : Str) :: (r2 ++ (("task" : Str) :: r3))))[j]? := fun j => rfl
  have f1 : FirstAt "caller" (linesP m r1 r2 r3) 2 (r1.length + 2) := by
    refine ⟨by omega, ?_, fun j a b c => ?_⟩
    · rw [g0, List.getElem?_append_right (Nat.le_refl _), Nat.sub_self]
      rfl
    · obtain ⟨k, rfl⟩ : ∃ k, j = k + 2 := ⟨j - 2, by omega⟩
      rw [g0, List.getElem?_append_left (by omega)] at c
      exact n1 _ (List.mem_of_getElem? c) rfl
  have g1 : ∀ j, (linesP m r1 r2 r3)[j + (r1.length + 2 + 1)]? = (r2 ++ (("task" : Str) :: r3))[j]? := fun j => by
    rw [show j + (r1.length + 2 + 1) = (j + 1 + r1.length) + 2 by omega, g0, List.getElem?_append_right (by omega), show j + 1 + r1.length - r1.length = j + 1 by omega]
    rfl
  have f2 : FirstAt "task" (linesP m r1 r2 r3) (r1.length + 2 + 1) (r2.length + (r1.length + 2 + 1)) := by
    refine ⟨by omega, ?_, fun j a b c => ?_⟩
    · rw [g1, List.getElem?_append_right (Nat.le_refl _), Nat.sub_self]
      rfl
    · obtain ⟨k, rfl⟩ : ∃ k, j = k + (r1.length + 2 + 1) := ⟨j - (r1.length + 2 + 1), by omega⟩
      rw [g1, List.getElem?_append_left (by omega)] at c
      exact n2 _ (List.mem_of_getElem? c) rfl
  rw [readF4 (ls := linesP m r1 r2 r3) starts_app rfl f1 f2]
  unfold progL
  have e0 : cutS (hd0 (linesP m r1 r2 r3)) (some 6) none = m := cut_app
  have d2 : (linesP m r1 r2 r3).drop 2 = r1 ++ (("caller" : Str) :: (r2 ++ (("task" : Str) :: r3))) := rfl
  have e1 : ((linesP m r1 r2 r3).take (r1.length + 2)).drop 2 = r1 := by
    rw [List.drop_take, d2, Nat.add_sub_cancel, List.take_left]
  have d3 : (linesP m r1 r2 r3).drop (r1.length + 2 + 1) = r2 ++ (("task" : Str) :: r3) := by
    rw [show r1.length + 2 + 1 = 2 + (r1.length + 1) by omega, ← List.drop_drop, d2, List.drop_append, show r1.length + 1 - r1.length = 1 by omega, List.drop_of_length_le (by omega)]
    rfl
  have e2 : ((linesP m r1 r2 r3).take (r2.length + (r1.length + 2 + 1))).drop (r1.length + 2 + 1) = r2 := by
    rw [List.drop_take, d3, Nat.add_sub_cancel, List.take_left]
  have e3 : (linesP m r1 r2 r3).drop (r2.length + (r1.length + 2 + 1) + 1) = r3 := by
    rw [show r2.length + (r1.length + 2 + 1) + 1 = (r1.length + 2 + 1) + (r2.length + 1) by omega, ← List.drop_drop, d3, List.drop_append, show r2.length + 1 - r2.length = 1 by omega, List.drop_of_length_le (by omega)]
    rfl
  rw [e0, e1, e2, e3, h]
  rfl
end WB

set_option Elab.async false
set_option linter.all false
set_option maxRecDepth 100000
set_option maxHeartbeats 4000000
namespace WB
open PySem L2
open PyProof.Rows (sortedS)
structure RowsS (m : Str) (r1 r2 r3 : List Str) : Prop where
  m3 : Sm 3 m
  w1 : ∀ y ∈ r1, Sm 30 y
  w2 : ∀ y ∈ r2, Sm 30 y
  w3 : ∀ y ∈ r3, Sm 30 y
  l1 : r1.length ≤ 6
  l2 : r2.length ≤ 6
  l3 : r3.length ≤ 16
def spStrP (C : Addr) : Sp := fun vs H Q _ => ∃ (a : Addr) (m : Str) (r1 r2 r3 ws ns : List Str), vs = [.ref a] ∧ ProgAt C H a ⟨m, r1.map V.str, r2.map V.str, r3.map V.str, ws, ns⟩ ∧ RowsS m r1 r2 r3 ∧ ∀ H', Same H H' → Q (.str (textOf m r1 r2 r3)) H'
def spMakeG (C : Addr) : Sp := fun vs H Q _ => ∃ (t : Addr) (m : Str) (r1 r2 r3 gs os ws ns : List Str), vs = [.ref t] ∧ PartsAt H t m r1 r2 r3 gs os ∧ RowsS m r1 r2 r3 ∧ progE (.str m) (some (r1.map V.str)) (some (r2.map V.str)) (some (r3.map V.str)) = .ok ⟨m, r1.map V.str, r2.map V.str, r3.map V.str, ws, ns⟩ ∧
  ∀ H' a, Same H H' → ProgAt C H' a ⟨m, r1.map V.str, r2.map V.str, r3.map V.str, ws, ns⟩ → Q (.ref a) H'
def spTextL : Sp := fun vs H Q _ => ∃ (t : Addr) (m : Str) (r1 r2 r3 gs os : List Str), vs = [.ref t] ∧ PartsAt H t m r1 r2 r3 gs os ∧ RowsS m r1 r2 r3 ∧ ∀ H', Same H H' → Q (.str (textOf m r1 r2 r3)) H'
def spRightQ (C : Addr) : Sp := fun vs H Q _ => ∃ (a t : Addr) (m : Str) (r1 r2 r3 gs os ws ns : List Str), vs = [.ref a, .ref t, .str (textOf m r1 r2 r3)] ∧ ProgAt C H a ⟨m, r1.map V.str, r2.map V.str, r3.map V.str, ws, ns⟩ ∧ PartsAt H t m r1 r2 r3 gs os ∧ RowsS m r1 r2 r3 ∧ PartsF m r1 r2 r3 gs os ws ns ∧ ∀ H', Same H H' → Q (.bl true) H'
def rightD (m : Str) (r1 r2 r3 gs os nm ys : List Str) : List PyData := [.str (textOf m r1 r2 r3), .str m, .tuple (r1.map .str), .tuple (r2.map .str), .tuple (r3.map .str), .list (gs.map .str), .list (os.map .str), .list (nm.map .str), .list (dLet ys os)]
theorem join_chN : ∀ {ts : List Str}, (∀ z ∈ ts, Ch z) → Ch (Str.join "\n" ts)
  | [], _ => fun c hc => by
    have : c ∈ ([] : List Nat) := hc
    cases this
  | [z], h => h z (List.mem_singleton.mpr rfl)
  | z :: y :: r, h => by
    show Ch (z ++ "\n" ++ Str.join "\n" (y :: r))
    refine ch_app (ch_app (h z List.mem_cons_self) (fun c hc => ?_)) (join_chN fun x hx => h x (List.mem_cons_of_mem _ hx))
    have hc : c ∈ [10] := hc
    rw [List.mem_singleton.mp hc]
    decide
theorem RowsS.lines {m : Str} {r1 r2 r3 : List Str} (h : RowsS m r1 r2 r3) : ∀ z ∈ linesP m r1 r2 r3, Sm 30 z := lines_sm h.m3 h.w1 h.w2 h.w3
theorem RowsS.len {m : Str} {r1 r2 r3 : List Str} (h : RowsS m r1 r2 r3) : (linesP m r1 r2 r3).length ≤ 32 := by
  rw [lines_len]
  have := h.l1
  have := h.l2
  have := h.l3
  omega
theorem lines_ne (m : Str) (r1 r2 r3 : List Str) : linesP m r1 r2 r3 ≠ [] := by unfold linesP; simp
theorem RowsS.text {m : Str} {r1 r2 r3 : List Str} (h : RowsS m r1 r2 r3) : (textOf m r1 r2 r3).length ≤ 1000 ∧ Ch (textOf m r1 r2 r3) := by
  refine ⟨?_, ?_⟩
  · have := join_len (lines_ne m r1 r2 r3) h.lines
    have := h.len
    unfold textOf
    omega
  · unfold textOf
    rw [TL.join_eq]
    exact join_chN fun z hz c hc => (((h.lines z hz).2) c hc).1
theorem RowsS.back {m : Str} {r1 r2 r3 : List Str} (h : RowsS m r1 r2 r3) : Txt.split (textOf m r1 r2 r3) "\n" = linesP m r1 r2 r3 := lines_back (lines_ne m r1 r2 r3) h.lines
theorem gd_text {z : Str} (hl : z.length ≤ 1000) (hc : Ch z) : Gd 0 20000 (.str z) := by
  refine ⟨rfl, rfl, Nat.le_refl _, ?_, ?_, beq_self_eq_true z⟩
  · show (reprText z).length ≤ _
    have := StrLaws.reprText_len z fun c h => Nat.lt_trans (hc c h) (by decide)
    omega
  · have := lay_texts [z] fun y hy => by rw [List.mem_singleton.mp hy]; exact hc
    have e : PyData.canLayAll0 ([z].map PyData.str) = (PyData.canLay0 (.str z) && true) := rfl
    rw [e, Bool.and_true] at this
    exact this
theorem right_ok {m : Str} {r1 r2 r3 gs os ws ns nm ys : List Str} (R : RowsS m r1 r2 r3) (F : PartsF m r1 r2 r3 gs os ws ns) (pn : nm.Perm (gs ++ os)) (py : ys.Perm (fnd (plains m))) :
    OkD (.list (rightD m r1 r2 r3 gs os nm ys)) ∧ SeqAt.shaped (.list (rightD m r1 r2 r3 gs os nm ys)) = true ∧ PyData.eqv (.list (rightD m r1 r2 r3 gs os nm ys)) (.list (rightD m r1 r2 r3 gs os nm ys)) = true := by
  have gsS : ∀ y ∈ gs, SmallS y := fun y hy => F.wo y (List.mem_append_left _ (F.pg.mem_iff.mp hy))
  have osS : ∀ y ∈ os, SmallS y := fun y hy => F.wo y (List.mem_append_right _ (F.po.mem_iff.mp hy))
  have lg : gs.length ≤ 3 := by rw [F.pg.length_eq]; exact F.lw
  have lo : os.length ≤ 2 := by rw [F.po.length_eq]; exact F.ln
  have nmS : ∀ y ∈ nm, SmallS y := fun y hy => (List.mem_append.mp (pn.mem_iff.mp hy)).elim (gsS y) (osS y)
  have lnm : nm.length ≤ 20 := by rw [pn.length_eq, List.length_append]; omega
  obtain ⟨fl, fz⟩ := fnd_len _ (plains m) rfl
  have p2 := plains_two F.mm
  have f4 : (fnd (plains m)).length ≤ 4 := by
    rw [fl]
    calc 2 ^ (plains m).length ≤ 2 ^ 2 := Nat.pow_le_pow_right (by decide) p2
      _ ≤ 4 := by decide
  have ysS : ∀ y ∈ ys, SmallS y := fun y hy => by
    obtain ⟨a, b⟩ := fz y (py.mem_iff.mp hy)
    exact ⟨by omega, fun c hc => (mk_sm c ((marks_sorted F.mm).2 c (plains_sub c (b c hc)))).1⟩
  have ly : ys.length ≤ 4 := by rw [py.length_eq]; exact f4
  have pr : ∀ {k z : Str}, SmallS k → SmallS z → Gd 1 12026 (dPr k z) := fun hk hz => (gd_tup (k := 0) (N := 3002) (n := 2) (fun d hd => by
    simp only [List.mem_cons, List.not_mem_nil, or_false] at hd
    rcases hd with rfl | rfl
    · exact gd_str hk
    · exact gd_str hz) (by show 2 ≤ 2; decide)).mono (Nat.le_refl _) (by decide)
  have sb : SmallS "box" := ⟨by decide, by decide⟩
  have sn : SmallS "name" := ⟨by decide, by decide⟩
  refine Gd.ok (k := 3) (N := 9 * (100000 + 2) + 2) (gd_list (k := 2) (N := 100000) (n := 9) (fun d hd => ?_) (by show 9 ≤ 9; decide)) (by decide) (by decide)
  unfold rightD at hd
  simp only [List.mem_cons, List.not_mem_nil, or_false] at hd
  rcases hd with rfl | rfl | rfl | rfl | rfl | rfl | rfl | rfl | rfl
  · exact (gd_text R.text.1 R.text.2).mono (by decide) (by decide)
  · exact (gd_str (marks_small F.mm)).mono (by decide) (by decide)
  · exact (gd_tups (n := 16) F.w1 F.l1).mono (by decide) (by decide)
  · exact (gd_tups (n := 16) F.w2 F.l2).mono (by decide) (by decide)
  · exact (gd_tups (n := 16) F.w3 F.l3).mono (by decide) (by decide)
  · exact (gd_strs (n := 20) gsS (by omega)).mono (by decide) (by decide)
  · exact (gd_strs (n := 20) osS (by omega)).mono (by decide) (by decide)
  · exact (gd_strs (n := 20) nmS lnm).mono (by decide) (by decide)
  · refine (gd_list (k := 1) (N := 12026) (n := 6) (fun d hd => ?_) ?_).mono (by decide) (by decide)
    · rcases List.mem_append.mp hd with hd | hd
      · obtain ⟨z, hz, rfl⟩ := List.mem_map.mp hd
        exact pr sb (ysS z hz)
      · obtain ⟨z, hz, rfl⟩ := List.mem_map.mp hd
        exact pr sn (osS z hz)
    · unfold dLet
      rw [List.length_append, List.length_map, List.length_map]
      omega
theorem lines_split (m : Str) (r1 r2 r3 : List Str) : (((([(("marks " : Str) ++ m), "module"] ++ r1) ++ [("caller" : Str)]) ++ r2) ++ [("task" : Str)]) ++ r3 = linesP m r1 r2 r3 := by
  unfold linesP
  simp only [List.append_assoc, List.cons_append, List.nil_append]
end WB
namespace WB
open PySem L2
def EntR (C p D : Addr) (H : Hp) (e : Addr) : Prop := ∃ (a t : Addr) (m : Str) (r1 r2 r3 gs os ws ns : List Str) (l1 l2 l3 l4 l5 : Addr), H e = some (.tup [.ref a, .ref t, .str (textOf m r1 r2 r3)]) ∧ ProgAt C H a ⟨m, r1.map V.str, r2.map V.str, r3.map V.str, ws, ns⟩ ∧
  (H t = some (.tup [.str m, .ref l1, .ref l2, .ref l3, .ref l4, .ref l5]) ∧ H l1 = some (.lst (r1.map V.str)) ∧ H l2 = some (.lst (r2.map V.str)) ∧ H l3 = some (.lst (r3.map V.str)) ∧ H l4 = some (.lst (gs.map V.str)) ∧ H l5 = some (.lst (os.map V.str))) ∧
  (∀ l ∈ [l1, l2, l3, l4, l5], l ≠ p ∧ l ≠ D) ∧ PartsF m r1 r2 r3 gs os ws ns ∧ RowsS m r1 r2 r3 ∧ progE (.str m) (some (r1.map V.str)) (some (r2.map V.str)) (some (r3.map V.str)) = .ok ⟨m, r1.map V.str, r2.map V.str, r3.map V.str, ws, ns⟩
theorem entr_bar2 {C p D e : Addr} {H H' : Hp} {xs ys : List V} (hp : H p = some (.lst xs)) (hD : H D = some (.lst ys)) (b : ∀ x u, x ≠ p → x ≠ D → H x = some u → H' x = some u) (h : EntR C p D H e) : EntR C p D H' e := by
  obtain ⟨a, t, m, r1, r2, r3, gs, os, ws, ns, l1, l2, l3, l4, l5, he, hP, ⟨h0, h1, h2, h3, h4, h5⟩, hl, hF, hR, hpe⟩ := h
  obtain ⟨dx, t1, t2, t3, t4, t5, i0, i1, i2, i3, i4, i5⟩ := hP
  have nl : ∀ {x : Addr} {u : HO}, H x = some u → (∀ zs, u ≠ .lst zs) → H' x = some u := fun {x u} hx hu => b x u (fun e => by
    rw [e, hp] at hx
    exact hu _ (Option.some.inj hx).symm) (fun e => by
    rw [e, hD] at hx
    exact hu _ (Option.some.inj hx).symm) hx
  have li : ∀ {l : Addr} {u : HO}, l ∈ [l1, l2, l3, l4, l5] → H l = some u → H' l = some u := fun {l u} hm hx => b l u (hl l hm).1 (hl l hm).2 hx
  exact ⟨a, t, m, r1, r2, r3, gs, os, ws, ns, l1, l2, l3, l4, l5, nl he (by intro z e; cases e), ⟨dx, t1, t2, t3, t4, t5, nl i0 (by intro z e; cases e), nl i1 (by intro z e; cases e), nl i2 (by intro z e; cases e), nl i3 (by intro z e; cases e), nl i4 (by intro z e; cases e), nl i5 (by intro z e; cases e)⟩,
    ⟨nl h0 (by intro z e; cases e), li (by simp) h1, li (by simp) h2, li (by simp) h3, li (by simp) h4, li (by simp) h5⟩, hl, hF, hR, hpe⟩
theorem RowsS.read {m : Str} {r1 r2 r3 : List Str} (h : RowsS m r1 r2 r3) : ∀ y ∈ Txt.split (textOf m r1 r2 r3) "\n", y.length ≤ 1000 ∧ SmallS y := fun y hy => by
  rw [h.back] at hy
  have := row30 h.lines y hy
  exact ⟨by omega, this.2⟩
end WB

set_option Elab.async false
set_option linter.all false
set_option maxRecDepth 100000
set_option maxHeartbeats 4000000
namespace W29
open PySem L2 WB
open C8 (pe_c pe_mk pe_mt pe_mt0 Cal Mak Met)
def top (i : Nat) : Stmt := PySem.Challenge.pw_workerworlds_k29_programs_written_and_re.main.body.getD i (.Pass ⟨0, 0, 0, 0⟩)
abbrev s_either : Stmt := top 8
abbrev n_either : List Str := ["one", "other", "mark"]
theorem sc_either : FnScope n_either ["one", "other"] (defScope s_either) := ⟨rfl, rfl, rfl, by decide +kernel, rfl, by decide +kernel, by decide +kernel⟩
abbrev s_are_contents : Stmt := top 9
abbrev n_are_contents : List Str := ["thing"]
theorem sc_are_contents : FnScope n_are_contents ["thing"] (defScope s_are_contents) := ⟨rfl, rfl, rfl, by decide +kernel, rfl, by decide +kernel, by decide +kernel⟩
abbrev s_is_word : Stmt := top 16
abbrev n_is_word : List Str := ["part", "letter"]
theorem sc_is_word : FnScope n_is_word ["part"] (defScope s_is_word) := ⟨rfl, rfl, rfl, by decide +kernel, rfl, by decide +kernel, by decide +kernel⟩
abbrev s_is_mark : Stmt := top 17
abbrev n_is_mark : List Str := ["part", "marks"]
theorem sc_is_mark : FnScope n_is_mark ["part", "marks"] (defScope s_is_mark) := ⟨rfl, rfl, rfl, by decide +kernel, rfl, by decide +kernel, by decide +kernel⟩
abbrev s_is_set : Stmt := top 18
abbrev n_is_set : List Str := ["part", "marks", "mark"]
theorem sc_is_set : FnScope n_is_set ["part", "marks"] (defScope s_is_set) := ⟨rfl, rfl, rfl, by decide +kernel, rfl, by decide +kernel, by decide +kernel⟩
abbrev s_inside : Stmt := top 19
abbrev n_inside : List Str := ["part"]
theorem sc_inside : FnScope n_inside ["part"] (defScope s_inside) := ⟨rfl, rfl, rfl, by decide +kernel, rfl, by decide +kernel, by decide +kernel⟩
abbrev s_are_terms : Stmt := top 20
abbrev n_are_terms : List Str := ["parts", "words", "marks", "part"]
theorem sc_are_terms : FnScope n_are_terms ["parts", "words", "marks"] (defScope s_are_terms) := ⟨rfl, rfl, rfl, by decide +kernel, rfl, by decide +kernel, by decide +kernel⟩
abbrev s_first_part : Stmt := top 21
abbrev n_first_part : List Str := ["row"]
theorem sc_first_part : FnScope n_first_part ["row"] (defScope s_first_part) := ⟨rfl, rfl, rfl, by decide +kernel, rfl, by decide +kernel, by decide +kernel⟩
abbrev s_plain_form : Stmt := top 22
abbrev n_plain_form : List Str := ["row", "parts"]
theorem sc_plain_form : FnScope n_plain_form ["row"] (defScope s_plain_form) := ⟨rfl, rfl, rfl, by decide +kernel, rfl, by decide +kernel, by decide +kernel⟩
abbrev s_is_plain : Stmt := top 23
abbrev n_is_plain : List Str := ["row", "words", "marks", "fresh", "form", "left", "sign", "terms", "may_bind"]
theorem sc_is_plain : FnScope n_is_plain ["row", "words", "marks", "fresh"] (defScope s_is_plain) := ⟨rfl, rfl, rfl, by decide +kernel, rfl, by decide +kernel, by decide +kernel⟩
abbrev s_is_condition : Stmt := top 24
abbrev n_is_condition : List Str := ["parts", "words", "marks", "one", "sign", "other"]
theorem sc_is_condition : FnScope n_is_condition ["parts", "words", "marks"] (defScope s_is_condition) := ⟨rfl, rfl, rfl, by decide +kernel, rfl, by decide +kernel, by decide +kernel⟩
abbrev s_is_failing : Stmt := top 25
abbrev n_is_failing : List Str := ["parts", "words", "marks"]
theorem sc_is_failing : FnScope n_is_failing ["parts", "words", "marks"] (defScope s_is_failing) := ⟨rfl, rfl, rfl, by decide +kernel, rfl, by decide +kernel, by decide +kernel⟩
abbrev s_is_task_row : Stmt := top 26
abbrev n_is_task_row : List Str := ["row", "words", "marks", "parts"]
theorem sc_is_task_row : FnScope n_is_task_row ["row", "words", "marks"] (defScope s_is_task_row) := ⟨rfl, rfl, rfl, by decide +kernel, rfl, by decide +kernel, by decide +kernel⟩
abbrev s_plain_marks : Stmt := top 35
abbrev n_plain_marks : List Str := ["marks", "mark"]
theorem sc_plain_marks : FnScope n_plain_marks ["marks"] (defScope s_plain_marks) := ⟨rfl, rfl, rfl, by decide +kernel, rfl, by decide +kernel, by decide +kernel⟩
abbrev s_check_marks : Stmt := top 36
abbrev n_check_marks : List Str := ["marks"]
theorem sc_check_marks : FnScope n_check_marks ["marks"] (defScope s_check_marks) := ⟨rfl, rfl, rfl, by decide +kernel, rfl, by decide +kernel, by decide +kernel⟩
abbrev s_check_rows : Stmt := top 37
abbrev n_check_rows : List Str := ["part", "rows", "most"]
theorem sc_check_rows : FnScope n_check_rows ["part", "rows", "most"] (defScope s_check_rows) := ⟨rfl, rfl, rfl, by decide +kernel, rfl, by decide +kernel, by decide +kernel⟩
abbrev s_bound_behind : Stmt := top 38
abbrev n_bound_behind : List Str := ["part", "rows", "words", "marks", "bound", "at", "row", "left"]
theorem sc_bound_behind : FnScope n_bound_behind ["part", "rows", "words", "marks"] (defScope s_bound_behind) := ⟨rfl, rfl, rfl, by decide +kernel, rfl, by decide +kernel, by decide +kernel⟩
abbrev s_blocks_behind : Stmt := top 39
abbrev n_blocks_behind : List Str := ["row", "blocks", "form"]
theorem sc_blocks_behind : FnScope n_blocks_behind ["row", "blocks"] (defScope s_blocks_behind) := ⟨rfl, rfl, rfl, by decide +kernel, rfl, by decide +kernel, by decide +kernel⟩
abbrev s_check_task : Stmt := top 40
abbrev n_check_task : List Str := ["rows", "words", "marks", "blocks", "at", "row"]
theorem sc_check_task : FnScope n_check_task ["rows", "words", "marks"] (defScope s_check_task) := ⟨rfl, rfl, rfl, by decide +kernel, rfl, by decide +kernel, by decide +kernel⟩
abbrev s_place_of : Stmt := top 41
abbrev n_place_of : List Str := ["line", "lines", "start", "at"]
theorem sc_place_of : FnScope n_place_of ["line", "lines", "start"] (defScope s_place_of) := ⟨rfl, rfl, rfl, by decide +kernel, rfl, by decide +kernel, by decide +kernel⟩
abbrev s_BadProgram__init : Stmt := inClass (top 3) 0
abbrev n_BadProgram__init : List Str := ["self", "part", "at"]
theorem sc_BadProgram__init : FnScope n_BadProgram__init ["self", "part", "at"] (defScope s_BadProgram__init) := ⟨rfl, rfl, rfl, by decide +kernel, rfl, by decide +kernel, by decide +kernel⟩
abbrev s_TooMany__init : Stmt := inClass (top 5) 0
abbrev n_TooMany__init : List Str := ["self", "what"]
theorem sc_TooMany__init : FnScope n_TooMany__init ["self", "what"] (defScope s_TooMany__init) := ⟨rfl, rfl, rfl, by decide +kernel, rfl, by decide +kernel, by decide +kernel⟩
abbrev s_BadText__init : Stmt := inClass (top 4) 0
abbrev n_BadText__init : List Str := ["self", "at"]
theorem sc_BadText__init : FnScope n_BadText__init ["self", "at"] (defScope s_BadText__init) := ⟨rfl, rfl, rfl, by decide +kernel, rfl, by decide +kernel, by decide +kernel⟩
abbrev s_Program__init : Stmt := inClass (top 42) 0
abbrev n_Program__init : List Str := ["self", "marks", "module", "caller", "task", "shared", "bound", "own", "name"]
theorem sc_Program__init : FnScope n_Program__init ["self", "marks", "module", "caller", "task"] (defScope s_Program__init) := ⟨rfl, rfl, rfl, by decide +kernel, rfl, by decide +kernel, by decide +kernel⟩
abbrev s_Program__str : Stmt := inClass (top 42) 1
abbrev n_Program__str : List Str := ["self"]
theorem sc_Program__str : FnScope n_Program__str ["self"] (defScope s_Program__str) := ⟨rfl, rfl, rfl, by decide +kernel, rfl, by decide +kernel, by decide +kernel⟩
abbrev s_Program_read : Stmt := inClass (top 42) 9
abbrev n_Program_read : List Str := ["text", "lines", "caller", "task"]
theorem sc_Program_read : FnScope n_Program_read ["text"] (defScope s_Program_read) := ⟨rfl, rfl, rfl, by decide +kernel, rfl, by decide +kernel, by decide +kernel⟩
abbrev s_Program_global_names : Stmt := inClass (top 42) 2
abbrev n_Program_global_names : List Str := ["self"]
theorem sc_Program_global_names : FnScope n_Program_global_names ["self"] (defScope s_Program_global_names) := ⟨rfl, rfl, rfl, by decide +kernel, rfl, by decide +kernel, by decide +kernel⟩
abbrev s_Program_own_names : Stmt := inClass (top 42) 3
abbrev n_Program_own_names : List Str := ["self"]
theorem sc_Program_own_names : FnScope n_Program_own_names ["self"] (defScope s_Program_own_names) := ⟨rfl, rfl, rfl, by decide +kernel, rfl, by decide +kernel, by decide +kernel⟩
abbrev s_Program_names : Stmt := inClass (top 42) 4
abbrev n_Program_names : List Str := ["self"]
theorem sc_Program_names : FnScope n_Program_names ["self"] (defScope s_Program_names) := ⟨rfl, rfl, rfl, by decide +kernel, rfl, by decide +kernel, by decide +kernel⟩
abbrev s_Program_letters : Stmt := inClass (top 42) 5
abbrev n_Program_letters : List Str := ["self", "found", "mark", "boxes", "contents", "name"]
theorem sc_Program_letters : FnScope n_Program_letters ["self"] (defScope s_Program_letters) := ⟨rfl, rfl, rfl, by decide +kernel, rfl, by decide +kernel, by decide +kernel⟩
abbrev s_numbers : Stmt := top 44
abbrev n_numbers : List Str := ["_law_script", "_law_at", "_law_cells", "_law_cell"]
theorem sc_numbers : FnScope n_numbers ["_law_script", "_law_at"] (defScope s_numbers) := ⟨rfl, rfl, rfl, by decide +kernel, rfl, by decide +kernel, by decide +kernel⟩
abbrev s_draw : Stmt := top 45
abbrev n_draw : List Str := ["_law_stream", "_law_many", "_law_digit", "_law_turn", "_law_cells", "_law_added", "_law_mixed"]
theorem sc_draw : FnScope n_draw ["_law_stream", "_law_many"] (defScope s_draw) := ⟨rfl, rfl, rfl, by decide +kernel, rfl, by decide +kernel, by decide +kernel⟩
abbrev s_of : Stmt := top 46
abbrev n_of : List Str := ["_law_stream", "_law_some"]
theorem sc_of : FnScope n_of ["_law_stream", "_law_some"] (defScope s_of) := ⟨rfl, rfl, rfl, by decide +kernel, rfl, by decide +kernel, by decide +kernel⟩
abbrev s_pick : Stmt := top 47
abbrev n_pick : List Str := ["_law_stream", "_law_letters_here", "_law_many", "_law_left", "_law_found", "_law_turn"]
theorem sc_pick : FnScope n_pick ["_law_stream", "_law_letters_here", "_law_many"] (defScope s_pick) := ⟨rfl, rfl, rfl, by decide +kernel, rfl, by decide +kernel, by decide +kernel⟩
abbrev s_drawn_marks : Stmt := top 48
abbrev n_drawn_marks : List Str := ["_law_stream", "_law_fewest", "_law_most", "_law_plain", "_law_bound", "_law_upper"]
theorem sc_drawn_marks : FnScope n_drawn_marks ["_law_stream", "_law_fewest", "_law_most"] (defScope s_drawn_marks) := ⟨rfl, rfl, rfl, by decide +kernel, rfl, by decide +kernel, by decide +kernel⟩
abbrev s_drawn_contents : Stmt := top 49
abbrev n_drawn_contents : List Str := ["_law_stream", "_law_marks", "_law_found", "_law_mark"]
theorem sc_drawn_contents : FnScope n_drawn_contents ["_law_stream", "_law_marks"] (defScope s_drawn_contents) := ⟨rfl, rfl, rfl, by decide +kernel, rfl, by decide +kernel, by decide +kernel⟩
abbrev s_reserved : Stmt := top 50
abbrev n_reserved : List Str := ["_law_found"]
theorem sc_reserved : FnScope n_reserved [] (defScope s_reserved) := ⟨rfl, rfl, rfl, by decide +kernel, rfl, by decide +kernel, by decide +kernel⟩
abbrev s_one_word : Stmt := top 51
abbrev n_one_word : List Str := ["_law_stream", "_law_taken", "_law_marks", "_law_most", "_law_letters_here", "_law_kind", "_law_word", "_law_at", "_law_turn"]
theorem sc_one_word : FnScope n_one_word ["_law_stream", "_law_taken", "_law_marks", "_law_most"] (defScope s_one_word) := ⟨rfl, rfl, rfl, by decide +kernel, rfl, by decide +kernel, by decide +kernel⟩
abbrev s_drawn_words : Stmt := top 52
abbrev n_drawn_words : List Str := ["_law_stream", "_law_taken", "_law_marks", "_law_many", "_law_most", "_law_found", "_law_turn"]
theorem sc_drawn_words : FnScope n_drawn_words ["_law_stream", "_law_taken", "_law_marks", "_law_many", "_law_most"] (defScope s_drawn_words) := ⟨rfl, rfl, rfl, by decide +kernel, rfl, by decide +kernel, by decide +kernel⟩
abbrev s_term : Stmt := top 53
abbrev n_term : List Str := ["_law_stream", "_law_words", "_law_marks"]
theorem sc_term : FnScope n_term ["_law_stream", "_law_words", "_law_marks"] (defScope s_term) := ⟨rfl, rfl, rfl, by decide +kernel, rfl, by decide +kernel, by decide +kernel⟩
abbrev s_sum : Stmt := top 54
abbrev n_sum : List Str := ["_law_stream", "_law_words", "_law_marks", "_law_sign"]
theorem sc_sum : FnScope n_sum ["_law_stream", "_law_words", "_law_marks"] (defScope s_sum) := ⟨rfl, rfl, rfl, by decide +kernel, rfl, by decide +kernel, by decide +kernel⟩
abbrev s_binding : Stmt := top 55
abbrev n_binding : List Str := ["_law_stream", "_law_word", "_law_words", "_law_marks"]
theorem sc_binding : FnScope n_binding ["_law_stream", "_law_word", "_law_words", "_law_marks"] (defScope s_binding) := ⟨rfl, rfl, rfl, by decide +kernel, rfl, by decide +kernel, by decide +kernel⟩
abbrev s_plain_row : Stmt := top 56
abbrev n_plain_row : List Str := ["_law_stream", "_law_words", "_law_marks", "_law_word"]
theorem sc_plain_row : FnScope n_plain_row ["_law_stream", "_law_words", "_law_marks"] (defScope s_plain_row) := ⟨rfl, rfl, rfl, by decide +kernel, rfl, by decide +kernel, by decide +kernel⟩
abbrev s_plains : Stmt := top 57
abbrev n_plains : List Str := ["_law_stream", "_law_known", "_law_fresh", "_law_most", "_law_marks", "_law_rows", "_law_left", "_law_extra", "_law_turn", "_law_row"]
theorem sc_plains : FnScope n_plains ["_law_stream", "_law_known", "_law_fresh", "_law_most", "_law_marks"] (defScope s_plains) := ⟨rfl, rfl, rfl, by decide +kernel, rfl, by decide +kernel, by decide +kernel⟩
abbrev s_test : Stmt := top 58
abbrev n_test : List Str := ["_law_stream", "_law_words", "_law_marks", "_law_text_here", "_law_kind"]
theorem sc_test : FnScope n_test ["_law_stream", "_law_words", "_law_marks"] (defScope s_test) := ⟨rfl, rfl, rfl, by decide +kernel, rfl, by decide +kernel, by decide +kernel⟩
abbrev s_last : Stmt := top 59
abbrev n_last : List Str := ["_law_stream", "_law_words", "_law_marks", "_law_kind", "_law_text_here"]
theorem sc_last : FnScope n_last ["_law_stream", "_law_words", "_law_marks"] (defScope s_last) := ⟨rfl, rfl, rfl, by decide +kernel, rfl, by decide +kernel, by decide +kernel⟩
abbrev s_work : Stmt := top 60
abbrev n_work : List Str := ["_law_stream", "_law_words", "_law_marks", "_law_most", "_law_ends", "_law_rows", "_law_opened", "_law_size", "_law_turn", "_law_room", "_law_kind"]
theorem sc_work : FnScope n_work ["_law_stream", "_law_words", "_law_marks", "_law_most", "_law_ends"] (defScope s_work) := ⟨rfl, rfl, rfl, by decide +kernel, rfl, by decide +kernel, by decide +kernel⟩
abbrev s_drawn_parts : Stmt := top 61
abbrev n_drawn_parts : List Str := ["_law_stream", "_law_marks", "_law_sizes", "_law_words", "_law_own", "_law_first", "_law_then", "_law_work_here"]
theorem sc_drawn_parts : FnScope n_drawn_parts ["_law_stream", "_law_marks", "_law_sizes"] (defScope s_drawn_parts) := ⟨rfl, rfl, rfl, by decide +kernel, rfl, by decide +kernel, by decide +kernel⟩
abbrev s_make : Stmt := top 62
abbrev n_make : List Str := ["_law_parts"]
theorem sc_make : FnScope n_make ["_law_parts"] (defScope s_make) := ⟨rfl, rfl, rfl, by decide +kernel, rfl, by decide +kernel, by decide +kernel⟩
abbrev s_same : Stmt := top 63
abbrev n_same : List Str := ["_law_found", "_law_due"]
theorem sc_same : FnScope n_same ["_law_found", "_law_due"] (defScope s_same) := ⟨rfl, rfl, rfl, by decide +kernel, rfl, by decide +kernel, by decide +kernel⟩
abbrev s_lwletters : Stmt := top 64
abbrev n_lwletters : List Str := ["_law_parts", "_law_found", "_law_mark", "_law_contents", "_law_name"]
theorem sc_lwletters : FnScope n_lwletters ["_law_parts"] (defScope s_lwletters) := ⟨rfl, rfl, rfl, by decide +kernel, rfl, by decide +kernel, by decide +kernel⟩
abbrev s_text : Stmt := top 65
abbrev n_text : List Str := ["_law_parts"]
theorem sc_text : FnScope n_text ["_law_parts"] (defScope s_text) := ⟨rfl, rfl, rfl, by decide +kernel, rfl, by decide +kernel, by decide +kernel⟩
abbrev s_right : Stmt := top 66
abbrev n_right : List Str := ["_law_program", "_law_parts", "_law_text_here", "_law_found", "_law_due"]
theorem sc_right : FnScope n_right ["_law_program", "_law_parts", "_law_text_here"] (defScope s_right) := ⟨rfl, rfl, rfl, by decide +kernel, rfl, by decide +kernel, by decide +kernel⟩
abbrev s_law : Stmt := top 67
abbrev n_law : List Str := ["_law_script", "_law_place", "_law_stream", "_law_made", "_law_turn", "_law_sizes", "_law_parts", "_law_text_here", "_law_program", "_law_again"]
theorem sc_law : FnScope n_law ["_law_script"] (defScope s_law) := ⟨rfl, rfl, rfl, by decide +kernel, rfl, by decide +kernel, by decide +kernel⟩
structure Top (K : PySem.W.Frag) (mg : Str → Option Value) : Prop where
  z_len : mg "len" = none
  z_abs : mg "abs" = none
  z_list : mg "list" = none
  z_int : mg "int" = none
  z_isinstance : mg "isinstance" = none
  z_str : mg "str" = none
  z_range : mg "range" = none
  z_max : mg "max" = none
  z_min : mg "min" = none
  z_repr : mg "repr" = none
  z_all : mg "all" = none
  z_tuple : mg "tuple" = none
  z_enumerate : mg "enumerate" = none
  z_sorted : mg "sorted" = none
  z_set : mg "set" = none
  z_ValueError : mg "ValueError" = none
  g_MARKS : ∃ u, mg "MARKS" = some u ∧ RelV (.str "ABCDEFGHIJKLMNOPQRSTUVWXYZabcdefghijklmnopqrstuvwxyz") u
  g_LETTERS : ∃ u, mg "LETTERS" = some u ∧ RelV (.str "abcdefghijklmnopqrstuvwxyz") u
  g_LONGEST_WORD : ∃ u, mg "LONGEST_WORD" = some u ∧ RelV (.int 8) u
  g_MOST_MARKS : ∃ u, mg "MOST_MARKS" = some u ∧ RelV (.int 3) u
  g_MOST_PLAIN_MARKS : ∃ u, mg "MOST_PLAIN_MARKS" = some u ∧ RelV (.int 2) u
  g_MOST_PLAIN_ROWS : ∃ u, mg "MOST_PLAIN_ROWS" = some u ∧ RelV (.int 6) u
  g_MOST_TASK_ROWS : ∃ u, mg "MOST_TASK_ROWS" = some u ∧ RelV (.int 16) u
  g_MOST_GLOBALS : ∃ u, mg "MOST_GLOBALS" = some u ∧ RelV (.int 3) u
  g_MOST_OWN_NAMES : ∃ u, mg "MOST_OWN_NAMES" = some u ∧ RelV (.int 2) u
  g_MOST_NAMES : ∃ u, mg "MOST_NAMES" = some u ∧ RelV (.int 4) u
section
variable {P : Program} {w : World} {K : PySem.W.Frag} {mg : Str → Option Value} {base : Heap}
structure Glo (K : PySem.W.Frag) (mg : Str → Option Value) (aR aS aC : Addr) : Prop where
  gR : ∃ u, mg "RESERVED" = some u ∧ RelV (.ref aR) u
  gS : ∃ u, mg "SIGNS" = some u ∧ RelV (.ref aS) u
  gC : ∃ u, mg "CHANGES" = some u ∧ RelV (.ref aC) u
  sR : ∀ H, SqT K H aR (RESV.map V.str)
  sS : ∀ H, SqT K H aS (SGN.map V.str)
  sC : ∀ H, SqT K H aC (CHG.map V.str)
theorem ok_either {f : Addr} {fd : FuncData} (F : Fun K "either" "either" s_either f fd) (T : Top K mg) : FnOk P w K mg base CX0 1 f fd ["one", "other"] spEither := by
  refine F.ok sc_either (fun vs H Q E h => ?_) (fun cdv A outer s H vs Q E hr h => ?_)
  · obtain ⟨a, b, rfl, _⟩ := h
    rfl
  · obtain ⟨a, b, rfl, k⟩ := h
    refine ⟨_, (pss_one (ps_ret (pe_join pe_str (pe_lc (own := [("mark", 2)]) rfl sc_either.nd (pi_str (C8.pe_gc (by rfl) T.g_MARKS)) (blkOk_by (own := [("mark", 2)]) (N := n_either) (sc := defScope s_either) (by decide +kernel)) (fun _ _ _ _ _ => (pg_name (i := 2) sc_either.nd rfl (Or.inl rfl))) (fun _ _ _ _ _ => (pts_one (PW.pt (pw_or (pt_cmpR op_in_sign (pv 2) (pv 0) rfl) (pw_or1 (pt_cmpR op_in_sign (pv 2) (pv 1) rfl)))))) (fun _ _ _ _ _ => (pv 2)))))), ?_⟩
    refine ⟨⟨_, rfl⟩, _, rfl, fun D hD => lc_it walk_str (fun i H' => H' = upd H D (.lst (filt mk (fun c => mem a c || mem b c) i))) rfl (fun _ _ _ _ => trivial) ?_ ?_⟩
    · rintro i x H2 H' hi rfl ⟨rfl, c, hc, rfl⟩
      have hc := mk_at hc
      have hl : (filt mk (fun c => mem a c || mem b c) i).length < sizeLine := Nat.lt_of_le_of_lt filt_len (by rw [mk_len]; decide)
      have yes : (mem a c || mem b c) = true → upd (upd H D (.lst (filt mk (fun c => mem a c || mem b c) i))) D (.lst (filt mk (fun c => mem a c || mem b c) i ++ [sg c])) = upd H D (.lst (filt mk (fun c => mem a c || mem b c) (i + 1))) := fun h => by
        rw [upd_upd, filt_yes (t := fun c => mem a c || mem b c) hc h]
      refine ⟨rfl, ?_⟩
      refine ⟨_, rfl, _, rfl, c, a, rfl, rfl, _, rfl, ?_⟩
      refine ite_b (fun h1 => ?_) (fun h1 => ?_)
      · have h1 : mem a c = true := h1
        refine iteT ⟨_, rfl, _, upd_same, hl, yes (by rw [h1]; rfl)⟩
      · have h1 : mem a c = false := h1
        refine ⟨_, rfl, _, rfl, c, b, rfl, rfl, _, rfl, ?_⟩
        refine ite_b (fun h2 => ?_) (fun h2 => ?_)
        · have h2 : mem b c = true := h2
          exact ⟨_, rfl, _, upd_same, hl, yes (by rw [h1, h2]; rfl)⟩
        · have h2 : mem b c = false := h2
          show upd H D _ = upd H D _
          rw [filt_no hc (t := fun c => mem a c || mem b c) (by rw [h1, h2]; rfl)]
    · rintro H' rfl
      refine join_ok (mk.filter fun c => mem a c || mem b c) ?_ ?_ ?_
      · exact Nat.le_trans (List.length_filter_le _ _) (by rw [mk_len]; decide)
      · rw [upd_same, filt_end (by rw [mk_len, mk_size]; exact Nat.le_refl _)]
      · exact k _ (same_new hD)
theorem ok_are {f : Addr} {fd : FuncData} (F : Fun K "are_contents" "are_contents" s_are_contents f fd) (T : Top K mg) (T_either : Cal P w K mg base 1 "either" spEither []) :
    FnOk P w K mg base CX0 2 f fd ["thing"] (spAre K) := by
  refine F.ok sc_are_contents (fun vs H Q E h => ?_) (fun cdv A outer s H vs Q E hr h => ?_)
  · obtain ⟨x, rfl, _⟩ := h
    rfl
  · obtain ⟨x, rfl, k⟩ := h
    refine ⟨_, (pss_one (ps_ret (pe_and (pe_callB call_isi (by rfl) T.z_isinstance (by decide +kernel) (pa_cons (pv 0) (pa_cons (pe_bltn (v := .ty "str") (u := .type "str") (by rfl) T.z_str (by decide +kernel) rfl) pa_nil))) (pe_one (pe_cmpR op_eq (pv 0) (pe_c T_either hr (by decide) (by rfl) (pa_cons (pv 0) (pa_cons pe_str pa_nil))) (nomark _)))))), ?_⟩
    rcases k with ⟨z, rfl, k⟩ | ⟨t, ht, hk, k⟩
    · refine ⟨_, rfl, _, _, _, _, true, rfl, .ty "str", .base (.str z), kit_ty (by decide +kernel), true, rfl, iteT ?_⟩
      refine ⟨_, rfl, _, rfl, z, _, rfl, fun H1 s1 => ⟨rfl, ?_⟩⟩
      have e : (sb fun c => mem z c || mem "" c) = sb (mem z) := sb_ext fun c _ => by
        have e0 : mem "" c = false := by
          unfold mem
          have e1 : ("" : Str).cps.toList = [] := by decide +kernel
          rw [e1]
          rfl
        rw [e0, Bool.or_false]
      show Q (V.bl (decide (V.str z = V.str (sb fun c => mem z c || mem "" c)))) H1
      rw [e]
      have e2 : decide (V.str z = V.str (sb (mem z))) = decide (z = sb (mem z)) := by
        by_cases c : z = sb (mem z)
        · rw [decide_eq_true c, decide_eq_true (congrArg V.str c)]
        · rw [decide_eq_false c, decide_eq_false fun q => c (V.str.inj q)]
      rw [e2]
      exact k H1 s1
    · refine ⟨_, rfl, _, _, _, _, false, rfl, .ty "str", ht, kit_ty hk, false, rfl, iteF k⟩
theorem ok_is_word {f : Addr} {fd : FuncData} (F : Fun K "is_word" "is_word" s_is_word f fd) (T : Top K mg) {aR aS aC : Addr} (G : Glo K mg aR aS aC) : FnOk P w K mg base CX0 1 f fd ["part"] spWd := by
  refine F.ok sc_is_word (fun vs H Q E h => ?_) (fun cdv A outer s H vs Q E hr h => ?_)
  · obtain ⟨z, rfl, _⟩ := h
    rfl
  · obtain ⟨z, rfl, hz, k⟩ := h
    refine ⟨_, (pss_cons (ps_if (PW.pt (pw_or (pt_not (pt_chain op_le op_le pe_int (pe_callB call_len_str (by rfl) T.z_len (by decide +kernel) (pa_cons (pv 0) pa_nil)) (C8.pe_gc (by rfl) T.g_LONGEST_WORD))) (pw_or1 (pt_cmpR op_in_seq (pv 0) (C8.pe_gc (by rfl) G.gR) rfl))))
(pss_one (ps_ret pe_bl))
pss_nil)
(pss_one (ps_ret (pe_callB (cr_all rfl) (by rfl) T.z_all (by decide +kernel) (pa_cons (pe_lc (own := [("letter", 1)]) rfl sc_is_word.nd (pi_str (pv 0)) (blkOk_by (own := [("letter", 1)]) (N := n_is_word) (sc := defScope s_is_word) (by decide +kernel)) (fun _ _ _ _ _ => (pg_name (i := 1) sc_is_word.nd rfl (Or.inl rfl))) (fun _ _ _ _ _ => pts_nil) (fun _ _ _ _ _ => (pe_cmpR op_in_sign (pv 1) (C8.pe_gc (by rfl) T.g_LETTERS) rfl))) pa_nil))))), ?_⟩
    have hz' : z.length ≤ sizeLine := Nat.le_trans hz (by decide)
    have hlen : z.cps.size ≤ 1000 := hz
    have no : wordB z = false → Q (.bl false) H := fun e => by
      rw [← e]
      exact k H (Same.refl H)
    refine ⟨_, rfl, z, rfl, hz', _, _, rfl, rfl, _, rfl, ite_b (fun h1 => ?_) (fun h1 => ?_)⟩
    · have h1 := of_decide_eq_true h1
      refine ⟨_, _, rfl, rfl, _, rfl, ?_⟩
      cases h2 : decide (((z.length : Nat) : Int) ≤ 8) with
      | false =>
        have h2 := of_decide_eq_false h2
        refine iteT (iteT (no ?_))
        unfold wordB
        rw [decide_eq_false (show ¬ z.length ≤ 8 by omega), Bool.and_false, Bool.false_and, Bool.false_and]
      | true =>
        have h2 := of_decide_eq_true h2
        refine iteF ⟨_, rfl, aR, _, rfl, .inr (G.sR _), rfl, flat_strsW RESV, _, rfl, ?_⟩
        show if inV (.str z) (RESV.map V.str) = true then _ else _
        rw [inV_strs]
        cases h3 : hasS RESV z with
        | true =>
          refine iteT (no ?_)
          unfold wordB
          rw [h3, Bool.not_true, Bool.and_false, Bool.false_and]
        | false =>
          refine iteF ?_
          refine ⟨_, rfl, z, rfl, fun D hD => lc_it walk_str (fun i H' => H' = upd H D (.lst ((z.cps.toList.take i).map fun c => V.bl (decide (c ∈ LETS))))) rfl (fun _ _ _ _ => trivial) ?_ ?_⟩
          · rintro i x H2 H' hi rfl ⟨rfl, c, hc, rfl⟩
            have hc := arr_at hc
            refine ⟨rfl, lc_yes ⟨_, rfl, c, _, rfl, rfl, _, upd_same, ?_, ?_⟩⟩
            · rw [List.length_map, List.length_take]
              exact Nat.lt_of_le_of_lt (Nat.min_le_left _ _) (Nat.lt_of_lt_of_le hi (Nat.le_trans hlen (by decide)))
            · rw [upd_upd, take_snoc hc, List.map_append, lets_eq]
              rfl
          · rintro H' rfl
            refine ⟨_, _, rfl, SqL.of (by rw [upd_same, take_all]), ?_⟩
            have e : wordB z = z.cps.toList.all fun c => decide (c ∈ LETS) := by
              unfold wordB
              rw [h3, decide_eq_true (show 1 ≤ z.length by omega), decide_eq_true (show z.length ≤ 8 by omega)]
              rfl
            show Q (V.bl ((z.cps.toList.map fun c => decide (c ∈ LETS)).all id)) _
            rw [all_map, ← e]
            exact k _ (same_new hD)
    · have h1 := of_decide_eq_false h1
      refine ⟨_, rfl, iteT (iteT (no ?_))⟩
      unfold wordB
      rw [decide_eq_false (show ¬ 1 ≤ z.length by omega), Bool.false_and, Bool.false_and, Bool.false_and]
theorem ok_is_mark {f : Addr} {fd : FuncData} (F : Fun K "is_mark" "is_mark" s_is_mark f fd) (T : Top K mg) : FnOk P w K mg base CX0 1 f fd ["part", "marks"] spMark := by
  refine F.ok sc_is_mark (fun vs H Q E h => ?_) (fun cdv A outer s H vs Q E hr h => ?_)
  · obtain ⟨z, m, rfl, _⟩ := h
    rfl
  · obtain ⟨z, m, rfl, hz, k⟩ := h
    refine ⟨_, (pss_one (ps_ret (pe_and (pe_cmpR op_eq (pe_callB call_len_str (by rfl) T.z_len (by decide +kernel) (pa_cons (pv 0) pa_nil)) pe_int (nomark _)) (pe_one (pe_cmpR op_in_sign (pv 0) (pv 1) rfl))))), ?_⟩
    have hz' : z.length ≤ sizeLine := Nat.le_trans hz (by decide)
    refine ⟨_, rfl, z, rfl, hz', rfl, ?_⟩
    have e : decide (V.int (z.length : Nat) = V.int 1) = decide (z.length = 1) := by
      by_cases h : z.length = 1
      · rw [h]
        rfl
      · rw [decide_eq_false h, decide_eq_false fun q => h (by injection q with q; omega)]
    rw [e]
    by_cases h : z.length = 1
    · rw [decide_eq_true h] at k ⊢
      obtain ⟨c, rfl⟩ := len1 h
      refine ⟨_, rfl, iteT ⟨_, rfl, _, rfl, c, m, rfl, rfl, ?_⟩⟩
      have e2 : (true && (({ cps := #[c] } : Str).cps.toList.all (mem m))) = decide (c ∈ m.cps.toList) := by
        show (true && (mem m c && true)) = _
        rw [Bool.true_and, Bool.and_true]
        rfl
      rw [e2] at k
      exact k
    · rw [decide_eq_false h] at k ⊢
      exact ⟨_, rfl, iteF k⟩
theorem ok_inside {f : Addr} {fd : FuncData} (F : Fun K "inside" "inside" s_inside f fd) (T : Top K mg) : FnOk P w K mg base CX0 1 f fd ["part"] spInside := by
  refine F.ok sc_inside (fun vs H Q E h => ?_) (fun cdv A outer s H vs Q E hr h => ?_)
  · obtain ⟨z, rfl, _⟩ := h
    rfl
  · obtain ⟨z, rfl, hz, k⟩ := h
    refine ⟨_, (pss_one (ps_ret (pe_slice sl_str (pv 0) (po_some pe_int) (po_some (pe_un un_neg pe_int))))), ?_⟩
    exact ⟨_, rfl, _, rfl, _, rfl, _, rfl, z, rfl, Nat.le_trans hz (by decide), k⟩
theorem ok_is_set {f : Addr} {fd : FuncData} (F : Fun K "is_set" "is_set" s_is_set f fd) (T : Top K mg) (T_are_contents : Cal P w K mg base 2 "are_contents" (spAre K) []) (T_inside : Cal P w K mg base 1 "inside" spInside []) : FnOk P w K mg base CX0 3 f fd ["part", "marks"] spSet := by
  refine F.ok sc_is_set (fun vs H Q E h => ?_) (fun cdv A outer s H vs Q E hr h => ?_)
  · obtain ⟨z, m, rfl, _⟩ := h
    rfl
  · obtain ⟨z, m, rfl, hz, k⟩ := h
    refine ⟨_, (pss_cons (ps_if (PW.pt (pw_or (pt_not (pt_val (pe_bm PySem.F.plainAttrs_str PySem.F.slot_str_startswith PySem.F.type_str_startswith mt_startswith (pv 0) (pa_cons pe_str pa_nil)))) (pw_or1 (pt_not (pt_val (pe_bm PySem.F.plainAttrs_str PySem.F.slot_str_endswith PySem.F.type_str_endswith mt_endswith (pv 0) (pa_cons pe_str pa_nil)))))))
(pss_one (ps_ret pe_bl))
pss_nil)
(pss_one (ps_ret (pe_and (pe_c T_are_contents hr (by decide) (by rfl) (pa_cons (pe_c T_inside hr (by decide) (by rfl) (pa_cons (pv 0) pa_nil)) pa_nil)) (pe_one (pe_callB (cr_all rfl) (by rfl) T.z_all (by decide +kernel) (pa_cons (pe_lc (own := [("mark", 2)]) rfl sc_is_set.nd (pi_str (pe_c T_inside hr (by decide) (by rfl) (pa_cons (pv 0) pa_nil))) (blkOk_by (own := [("mark", 2)]) (N := n_is_set) (sc := defScope s_is_set) (by decide +kernel)) (fun _ _ _ _ _ => (pg_name (i := 2) sc_is_set.nd rfl (Or.inl rfl))) (fun _ _ _ _ _ => pts_nil) (fun _ _ _ _ _ => (pe_cmpR op_in_sign (pv 2) (pv 1) rfl))) pa_nil))))))), ?_⟩
    have hlen : (inner z).cps.size ≤ 1000 := Nat.le_trans (cut_len (z := z) (Nat.le_refl _)) hz
    have no : setB m z = false → Q (.bl false) H := fun e => by
      rw [← e]
      exact k H (Same.refl H)
    refine ⟨_, rfl, rfl, z, _, rfl, rfl, ?_⟩
    cases h1 : Txt.startswith z "{" with
    | false =>
      refine ⟨_, rfl, iteT (iteT (no ?_))⟩
      unfold setB
      rw [h1]
      rfl
    | true =>
      refine ⟨_, rfl, iteF ⟨_, rfl, rfl, z, _, rfl, rfl, ?_⟩⟩
      cases h2 : Txt.endswith z "}" with
      | false =>
        refine ⟨_, rfl, iteT (no ?_)⟩
        unfold setB
        rw [h1, h2]
        rfl
      | true =>
        refine ⟨_, rfl, iteF ⟨_, rfl, z, rfl, hz, _, rfl, .inl ⟨inner z, rfl, fun H1 s1 => ?_⟩⟩⟩
        cases h3 : decide (inner z = sb (mem (inner z))) with
        | false =>
          refine ⟨_, rfl, iteF ?_⟩
          have e : setB m z = false := by
            unfold setB
            rw [h1, h2, h3]
            rfl
          rw [← e]
          exact k _ s1
        | true =>
          refine ⟨_, rfl, iteT ?_⟩
          refine ⟨_, rfl, z, rfl, hz, inner z, rfl, fun D hD => lc_it walk_str (fun i H' => H' = upd H1 D (.lst (((inner z).cps.toList.take i).map fun c => V.bl (mem m c)))) rfl (fun _ _ _ _ => trivial) ?_ ?_⟩
          · rintro i x H2 H' hi rfl ⟨rfl, c, hc, rfl⟩
            have hc := arr_at hc
            refine ⟨rfl, lc_yes ⟨_, rfl, _, rfl, c, _, rfl, rfl, _, upd_same, ?_, ?_⟩⟩
            · rw [List.length_map, List.length_take]
              exact Nat.lt_of_le_of_lt (Nat.min_le_left _ _) (Nat.lt_of_lt_of_le hi (Nat.le_trans hlen (by decide)))
            · rw [upd_upd, take_snoc hc, List.map_append]
              rfl
          · rintro H' rfl
            refine ⟨_, _, rfl, SqL.of (by rw [upd_same, take_all]), ?_⟩
            have e : setB m z = (inner z).cps.toList.all fun c => mem m c := by
              unfold setB
              rw [h1, h2, h3]
              rfl
            show Q (V.bl (((inner z).cps.toList.map fun c => mem m c).all id)) _
            rw [all_map, ← e]
            exact k _ (s1.trans (same_new hD))
theorem ok_are_terms {f : Addr} {fd : FuncData} (F : Fun K "are_terms" "are_terms" s_are_terms f fd) (T : Top K mg) (T_is_set : Cal P w K mg base 3 "is_set" spSet []) : FnOk P w K mg base CX0 4 f fd ["parts", "words", "marks"] (spTerms K) := by
  refine F.ok sc_are_terms (fun vs H Q E h => ?_) (fun cdv A outer s H vs Q E hr h => ?_)
  · obtain ⟨a, b, ps, ws, m, rfl, _⟩ := h
    rfl
  · obtain ⟨a, b, ps, ws, m, rfl, ha, hb, hl, hz, k⟩ := h
    refine ⟨_, (pss_one (ps_ret (pe_callB (cr_all rfl) (by rfl) T.z_all (by decide +kernel) (pa_cons (pe_lc (own := [("part", 3)]) rfl sc_are_terms.nd (pi_list (pv 0)) (blkOk_by (own := [("part", 3)]) (N := n_are_terms) (sc := defScope s_are_terms) (by decide +kernel)) (fun _ _ _ _ _ => (pg_name (i := 3) sc_are_terms.nd rfl (Or.inl rfl))) (fun _ _ _ _ _ => pts_nil) (fun _ _ _ _ _ => (pe_or (show PE _ _ (tOp (rIn K false) (tVar 3) (tVar 1)) from (pe_cmpR op_in_seq (pv 3) (pv 1) rfl)) (pe_one (pe_c T_is_set hr (by decide) (by rfl) (pa_cons (pv 3) (pa_cons (pv 2) pa_nil))))))) pa_nil)))), ?_⟩
    refine ⟨_, rfl, a, rfl, ⟨_, ha⟩, fun D hD => lc_it (walk_list (xs := ps.map V.str)) (fun i H' => H' D = some (.lst (((ps.take i).map (termB ws m)).map V.bl)) ∧ Same H H') ⟨upd_same, same_new hD⟩ (fun i H' _ h => h.2.seq ha) ?_ ?_⟩
    · rintro i x H0 H2 hi ⟨hD2, s2⟩ ⟨rfl, hx⟩
      obtain ⟨y, hy, rfl⟩ := map_from hx
      have ym := List.mem_of_getElem? hy
      have step : ∀ H3 : Hp, Same H2 H3 → (upd H3 D (.lst (((ps.take i).map (termB ws m)).map V.bl ++ [V.bl (termB ws m y)]))) D = some (.lst (((ps.take (i + 1)).map (termB ws m)).map V.bl)) ∧ Same H (upd H3 D (.lst (((ps.take i).map (termB ws m)).map V.bl ++ [V.bl (termB ws m y)]))) := fun H3 s3 => by
        refine ⟨?_, same_at hD (s2.trans s3)⟩
        rw [upd_same, take_snoc hy, List.map_append, List.map_append]
        rfl
      have ln : (((ps.take i).map (termB ws m)).map V.bl).length < sizeLine := by
        rw [List.length_map, List.length_map, List.length_take]
        exact Nat.lt_of_le_of_lt (Nat.min_le_right _ _) (Nat.lt_of_le_of_lt hl (by decide))
      refine ⟨rfl, lc_yes ⟨_, rfl, _, rfl, b, _, rfl, .inl (s2.seq hb), rfl, flat_strsW ws, ?_⟩⟩
      show ∃ c, V.bl (inV (.str y) (ws.map V.str)) = .bl c ∧ _
      rw [inV_strs]
      cases h : hasS ws y with
      | true =>
        refine ⟨_, rfl, iteT ⟨_, hD2, ln, ?_⟩⟩
        have e : termB ws m y = true := by
          unfold termB
          rw [h]
          rfl
        have := step H2 (Same.refl _)
        rw [e] at this
        exact this
      | false =>
        refine ⟨_, rfl, iteF ⟨_, rfl, _, rfl, y, m, rfl, hz _ ym, fun H3 s3 => ⟨_, s3 _ _ hD2, ln, ?_⟩⟩⟩
        have e : termB ws m y = setB m y := by
          unfold termB
          rw [h]
          rfl
        have := step H3 s3
        rw [e] at this
        exact this
    · rintro H' ⟨hD2, s2⟩
      refine ⟨D, ps.map (termB ws m), rfl, SqL.of ?_, ?_⟩
      · rw [hD2, List.take_of_length_le (by rw [List.length_map]; exact Nat.le_refl _)]
      · rw [all_map]
        exact k _ s2
theorem ok_first_part {f : Addr} {fd : FuncData} (F : Fun K "first_part" "first_part" s_first_part f fd) (T : Top K mg) : FnOk P w K mg base CX0 1 f fd ["row"] spFirst := by
  refine F.ok sc_first_part (fun vs H Q E h => ?_) (fun cdv A outer s H vs Q E hr h => ?_)
  · obtain ⟨z, rfl, _⟩ := h
    rfl
  · obtain ⟨z, rfl, hz, k⟩ := h
    refine ⟨_, (pss_one (ps_ret (pe_ix ix_list (pe_bm PySem.F.plainAttrs_str PySem.F.slot_str_split PySem.F.type_str_split mt_split (pv 0) (pa_cons pe_str pa_nil)) pe_int (fun _ _ => rfl)))), ?_⟩
    refine ⟨_, rfl, rfl, z, _, rfl, rfl, by decide +kernel, Nat.le_trans (Nat.add_le_add_right hz 2) (by decide), fun l hl => ?_⟩
    refine ⟨l, _, _, _, rfl, rfl, SqL.of upd_same, ?_, k _ (same_new hl)⟩
    exact atI_nat (j := 0) (map_at (fst_at z))
theorem ok_plain_form {f : Addr} {fd : FuncData} (F : Fun K "plain_form" "plain_form" s_plain_form f fd) (T : Top K mg) {aR aS aC : Addr} (G : Glo K mg aR aS aC) : FnOk P w K mg base CX0 1 f fd ["row"] spForm := by
  refine F.ok sc_plain_form (fun vs H Q E h => ?_) (fun cdv A outer s H vs Q E hr h => ?_)
  · obtain ⟨z, rfl, _⟩ := h
    rfl
  · obtain ⟨z, rfl, hz, k0, k1⟩ := h
    refine ⟨_, (pss_cons (ps_set (i := 1) sc_plain_form.nd rfl (Or.inl rfl) (pe_bm PySem.F.plainAttrs_str PySem.F.slot_str_split PySem.F.type_str_split mt_split (pv 0) (pa_cons pe_str pa_nil)))
(pss_cons (ps_if (PW.pt (pw_and (pt_cmpR op_eq (pe_callB call_len_seq (by rfl) T.z_len (by decide +kernel) (pa_cons (pv 1) pa_nil)) pe_int (nomark _)) (pw_and1 (PW.pt (pw_or (pt_cmpR op_eq (pe_ix ix_list (pv 1) pe_int (fun _ _ => rfl)) pe_str (nomark _)) (pw_or1 (pt_cmpR op_in_seq (pe_ix ix_list (pv 1) pe_int (fun _ _ => rfl)) (C8.pe_gc (by rfl) G.gC) rfl)))))))
(pss_one (ps_ret (pe_tup (pa_cons (pe_ix ix_list (pv 1) pe_int (fun _ _ => rfl)) (pa_cons (pe_ix ix_list (pv 1) pe_int (fun _ _ => rfl)) (pa_cons (pe_lst (pa_cons (pe_ix ix_list (pv 1) pe_int (fun _ _ => rfl)) pa_nil)) pa_nil))))))
pss_nil)
(pss_cons (ps_if (PW.pt (pw_and (pt_cmpR op_eq (pe_callB call_len_seq (by rfl) T.z_len (by decide +kernel) (pa_cons (pv 1) pa_nil)) pe_int (nomark _)) (pw_and (pt_cmpR op_eq (pe_ix ix_list (pv 1) pe_int (fun _ _ => rfl)) pe_str (nomark _)) (pw_and1 (pt_cmpR op_in_seq (pe_ix ix_list (pv 1) pe_int (fun _ _ => rfl)) (C8.pe_gc (by rfl) G.gS) rfl)))))
(pss_one (ps_ret (pe_tup (pa_cons (pe_ix ix_list (pv 1) pe_int (fun _ _ => rfl)) (pa_cons (pe_ix ix_list (pv 1) pe_int (fun _ _ => rfl)) (pa_cons (pe_lst (pa_cons (pe_ix ix_list (pv 1) pe_int (fun _ _ => rfl)) (pa_cons (pe_ix ix_list (pv 1) pe_int (fun _ _ => rfl)) pa_nil))) pa_nil))))))
pss_nil)
(pss_one (ps_ret pe_non))))), ?_⟩
    refine ⟨_, rfl, rfl, z, _, rfl, rfl, by decide +kernel, Nat.le_trans (Nat.add_le_add_right hz 2) (by decide), fun l hl => ?_⟩
    have hL : (upd H l (.lst ((parts z).map V.str))) l = some (.lst ((parts z).map V.str)) := upd_same
    have s1 := same_new (o := .lst ((parts z).map V.str)) hl
    show tSeq _ _ _ _ (upd H l (.lst ((parts z).map V.str)))
    generalize (upd H l (.lst ((parts z).map V.str))) = H1 at *
    have none_ : form (parts z) = none → Q .non H1 := fun e => k0 e _ s1
    have len_ : ((parts z).map V.str).length = (parts z).length := List.length_map ..
    refine ⟨_, rfl, l, _, rfl, .inl (SqL.of hL), rfl, ?_⟩
    show ∃ c, V.bl (decide (V.int ((((parts z).map V.str).length : Nat) : Int) = V.int ((3 : Nat) : Int))) = .bl c ∧ _
    rw [len_, dec_len]
    by_cases h3 : (parts z).length = 3
    · rw [decide_eq_true h3]
      obtain ⟨a, b, c, e⟩ := three h3
      rw [e] at hL k0 k1 none_
      have i1 : ([a, b, c].map V.str)[1]? = some (V.str b) := rfl
      refine ⟨_, rfl, iteT ?_⟩
      refine ⟨_, rfl, l, _, _, _, rfl, rfl, SqL.of hL, atI_nat i1, rfl, _, rfl, ?_⟩
      rw [dqs]
      have i0 : ([a, b, c].map V.str)[0]? = some (V.str a) := rfl
      have i2 : ([a, b, c].map V.str)[2]? = some (V.str c) := rfl
      have made : (b == "=" || hasS CHG b) = true → ∀ p u : Addr, H1 p = none → (upd H1 p (.lst [V.str c])) u = none → Q (.ref u) (upd (upd H1 p (.lst [V.str c])) u (.tup [V.str a, .str b, .ref p])) := fun hb p u hp hu => k1 a b [c] (by rw [form3, if_pos hb]) _ u p ((s1.trans (same_new hp)).trans (same_new hu)) upd_same (same_new hu _ _ upd_same)
      cases hb : (b == "=") with
      | true =>
        have hb2 : (b == "=" || hasS CHG b) = true := by rw [hb, Bool.true_or]
        exact iteT (iteT ⟨_, rfl, l, _, _, _, rfl, rfl, SqL.of hL, atI_nat i0, _, rfl, l, _, _, _, rfl, rfl, SqL.of hL, atI_nat i1, _, rfl, l, _, _, _, rfl, rfl, SqL.of hL, atI_nat i2, by show 1 ≤ sizeLine; decide, fun p hp => ⟨by show 3 ≤ sizeLine; decide, fun u hu => made hb2 p u hp hu⟩⟩)
      | false =>
        refine iteF ⟨_, rfl, l, _, _, _, rfl, rfl, SqL.of hL, atI_nat i1, aC, _, rfl, .inr (G.sC _), rfl, flat_strsW CHG, ?_⟩
        show ∃ c, V.bl (inV (.str b) (CHG.map V.str)) = .bl c ∧ _
        rw [inV_strs]
        cases hc : hasS CHG b with
        | true =>
          have hb2 : (b == "=" || hasS CHG b) = true := by rw [hc, Bool.or_true]
          exact ⟨_, rfl, iteT ⟨_, rfl, l, _, _, _, rfl, rfl, SqL.of hL, atI_nat i0, _, rfl, l, _, _, _, rfl, rfl, SqL.of hL, atI_nat i1, _, rfl, l, _, _, _, rfl, rfl, SqL.of hL, atI_nat i2, by show 1 ≤ sizeLine; decide, fun p hp => ⟨by show 3 ≤ sizeLine; decide, fun u hu => made hb2 p u hp hu⟩⟩⟩
        | false =>
          refine ⟨_, rfl, iteF ⟨_, rfl, l, _, rfl, .inl (SqL.of hL), rfl, false, rfl, iteF (iteF (none_ ?_))⟩⟩
          rw [form3, if_neg (by rw [hb, hc]; exact Bool.noConfusion)]
    · rw [decide_eq_false h3]
      refine ⟨_, rfl, iteF (iteF ?_)⟩
      refine ⟨_, rfl, l, _, rfl, .inl (SqL.of hL), rfl, ?_⟩
      show ∃ c, V.bl (decide (V.int ((((parts z).map V.str).length : Nat) : Int) = V.int ((5 : Nat) : Int))) = .bl c ∧ _
      rw [len_, dec_len]
      by_cases h5 : (parts z).length = 5
      · rw [decide_eq_true h5]
        obtain ⟨a, e, b, s', c, ee⟩ := five h5
        rw [ee] at hL k0 k1 none_
        have i0 : ([a, e, b, s', c].map V.str)[0]? = some (V.str a) := rfl
        have i1 : ([a, e, b, s', c].map V.str)[1]? = some (V.str e) := rfl
        have i2 : ([a, e, b, s', c].map V.str)[2]? = some (V.str b) := rfl
        have i3 : ([a, e, b, s', c].map V.str)[3]? = some (V.str s') := rfl
        have i4 : ([a, e, b, s', c].map V.str)[4]? = some (V.str c) := rfl
        refine ⟨_, rfl, iteT ⟨_, rfl, l, _, _, _, rfl, rfl, SqL.of hL, atI_nat i1, rfl, _, rfl, ?_⟩⟩
        rw [dqs]
        cases hb : (e == "=") with
        | false =>
          refine iteF (iteF (none_ ?_))
          rw [form5, if_neg (by rw [hb]; exact Bool.noConfusion)]
        | true =>
          refine iteT ⟨_, rfl, l, _, _, _, rfl, rfl, SqL.of hL, atI_nat i3, aS, _, rfl, .inr (G.sS _), rfl, flat_strsW SGN, ?_⟩
          show ∃ c, V.bl (inV (.str s') (SGN.map V.str)) = .bl c ∧ _
          rw [inV_strs]
          cases hc : hasS SGN s' with
          | false =>
            refine ⟨_, rfl, iteF (none_ ?_)⟩
            rw [form5, if_neg (by rw [hb, hc]; exact Bool.noConfusion)]
          | true =>
            have hb2 : (e == "=" && hasS SGN s') = true := by rw [hb, hc]; rfl
            refine ⟨_, rfl, iteT ⟨_, rfl, l, _, _, _, rfl, rfl, SqL.of hL, atI_nat i0, _, rfl, l, _, _, _, rfl, rfl, SqL.of hL, atI_nat i3, _, rfl, l, _, _, _, rfl, rfl, SqL.of hL, atI_nat i2, _, rfl, l, _, _, _, rfl, rfl, SqL.of hL, atI_nat i4, by show 2 ≤ sizeLine; decide, fun p hp => ⟨by show 3 ≤ sizeLine; decide, fun u hu => ?_⟩⟩⟩
            exact k1 a s' [b, c] (by rw [form5, if_pos hb2]) _ u p ((s1.trans (same_new hp)).trans (same_new hu)) upd_same (same_new hu _ _ upd_same)
      · rw [decide_eq_false h5]
        exact ⟨_, rfl, iteF (iteF (none_ (form_none h3 h5)))⟩
end
end W29

set_option Elab.async false
set_option linter.all false
set_option maxRecDepth 100000
set_option maxHeartbeats 4000000
namespace W29
open PySem L2 WB
open C8 (pe_c pe_mk pe_mt pe_mt0 Cal Mak Met)
section
variable {P : Program} {w : World} {K : PySem.W.Frag} {mg : Str → Option Value} {base : Heap}
theorem ok_is_plain {f : Addr} {fd : FuncData} (F : Fun K "is_plain" "is_plain" s_is_plain f fd) (T : Top K mg) {aR aS aC : Addr} (G : Glo K mg aR aS aC) (T_plain_form : Cal P w K mg base 1 "plain_form" spForm []) (T_is_word : Cal P w K mg base 1 "is_word" spWd []) (T_are_terms : Cal P w K mg base 4 "are_terms" (spTerms K) []) : FnOk P w K mg base CX0 5 f fd ["row", "words", "marks", "fresh"] (spPlain K) := by
  refine F.ok sc_is_plain (fun vs H Q E h => ?_) (fun cdv A outer s H vs Q E hr h => ?_)
  · obtain ⟨x, b, ws, m, fr, rfl, _⟩ := h
    rfl
  · obtain ⟨x, b, ws, m, fr, rfl, hx, hb, k⟩ := h
    refine ⟨_, (pss_cons (ps_set (i := 4) sc_is_plain.nd rfl (Or.inl rfl) (pe_ifExp (pt_val (pe_callB call_isi (by rfl) T.z_isinstance (by decide +kernel) (pa_cons (pv 0) (pa_cons (pe_bltn (v := .ty "str") (u := .type "str") (by rfl) T.z_str (by decide +kernel) rfl) pa_nil)))) (pe_c T_plain_form hr (by decide) (by rfl) (pa_cons (pv 0) pa_nil)) pe_non))
(pss_cons (ps_if (pt_cmpR op_isN (pv 4) pe_non (nomark _))
(pss_one (ps_ret pe_bl))
pss_nil)
(pss_cons (ps_asg (pv 4) (pg_tup rfl (pgs_cons (pg_name (i := 5) sc_is_plain.nd rfl (Or.inl rfl)) (pgs_cons (pg_name (i := 6) sc_is_plain.nd rfl (Or.inl rfl)) (pgs_cons (pg_name (i := 7) sc_is_plain.nd rfl (Or.inl rfl)) pgs_nil)))))
(pss_cons (ps_set (i := 8) sc_is_plain.nd rfl (Or.inl rfl) (pe_and (pv 3) (pe_and (pe_cmpR op_notIn_seq (pv 6) (C8.pe_gc (by rfl) G.gC) rfl) (pe_one (pe_c T_is_word hr (by decide) (by rfl) (pa_cons (pv 5) pa_nil))))))
(pss_one (ps_ret (pe_and (pe_or (pe_cmpR op_in_seq (pv 5) (pv 1) rfl) (pe_one (pv 8))) (pe_one (pe_c T_are_terms hr (by decide) (by rfl) (pa_cons (pv 7) (pa_cons (pv 1) (pa_cons (pv 2) pa_nil)))))))))))), ?_⟩
    obtain ⟨ks, kn⟩ := k
    rcases hx with ⟨z, rfl, hz0⟩ | ⟨t, hty, hk⟩
    · obtain ⟨hz, k⟩ := ks z rfl
      refine ⟨_, rfl, _, _, _, _, true, rfl, .ty "str", .base (.str z), kit_ty (by decide +kernel), true, rfl, iteT ⟨_, rfl, z, rfl, hz, fun e H1 s1 => ?_, fun l s ts e H1 t u s1 ht hu => ?_⟩⟩
      · refine ⟨_, rfl, rfl, true, rfl, iteT ?_⟩
        have e2 : rowB ws m fr z = false := by
          unfold rowB
          rw [e]
        rw [← e2]
        exact k _ s1
      · refine ⟨_, rfl, rfl, false, rfl, iteF ?_⟩
        refine ⟨_, rfl, t, _, rfl, SqT.of ht, rfl, _, _, rfl, _, _, rfl, _, _, rfl, rfl, ?_⟩
        obtain ⟨⟨ml, ms, mt⟩, lt⟩ := form_sub e
        have sl : l.length ≤ 1000 := Nat.le_trans (parts_short ml) hz
        refine ⟨_, rfl, fr, rfl, and_val (C := fun v H2 => v = .bl (fr && (!hasS CHG s && wordB l)) ∧ Same H1 H2) (fun hc Q' q => ?_) (fun hc => ⟨by rw [hc]; rfl, Same.refl _⟩) ?_⟩
        · refine ⟨_, rfl, aC, _, rfl, .inr (G.sC _), rfl, flat_strsW CHG, ?_⟩
          show ∃ c, V.bl (!inV (.str s) (CHG.map V.str)) = .bl c ∧ _
          rw [inV_strs]
          refine ⟨_, rfl, ?_⟩
          cases h : hasS CHG s with
          | true => exact iteF (q _ _ ⟨by rw [h, hc]; rfl, Same.refl _⟩)
          | false => exact iteT ⟨_, rfl, l, rfl, sl, fun H2 s2 => q _ _ ⟨by rw [h, hc]; rfl, s2⟩⟩
        · rintro v H2 ⟨rfl, s2⟩
          have s12 := s1.trans s2
          refine ⟨_, rfl, _, rfl, b, _, rfl, .inl (s12.seq hb), rfl, flat_strsW ws, ?_⟩
          show ∃ c, V.bl (inV (.str l) (ws.map V.str)) = .bl c ∧ _
          rw [inV_strs]
          have fin : ∀ o : Bool, o = (hasS ws l || (fr && (!hasS CHG s && wordB l))) → ∀ o2, o2 = (o && ts.all (termB ws m)) → ∀ H3, Same H2 H3 → Q (.bl o2) H3 := fun o ho o2 ho2 H3 s3 => by
            have e2 : o2 = rowB ws m fr z := by
              unfold rowB
              rw [e, ho2, ho]
            rw [e2]
            exact k _ (s12.trans s3)
          refine ⟨_, rfl, or_val (C := fun v H3 => v = .bl (hasS ws l || (fr && (!hasS CHG s && wordB l))) ∧ H3 = H2) (fun hc => ⟨by rw [hc]; rfl, rfl⟩) (fun hc Q' q => ⟨_, rfl, q _ _ ⟨by rw [hc]; rfl, rfl⟩⟩) ?_⟩
          rintro v H3 ⟨rfl, rfl⟩
          refine ⟨_, rfl, ?_⟩
          cases ho : (hasS ws l || (fr && (!hasS CHG s && wordB l))) with
          | false => exact iteF (fin _ rfl _ (by rw [ho]; rfl) _ (Same.refl _))
          | true => exact iteT ⟨_, rfl, _, rfl, _, rfl, u, b, ts, ws, m, rfl, SqL.of (s2 _ _ hu), s12.seq hb, Nat.le_trans lt (by decide), fun y hy => Nat.le_trans (parts_short (mt y hy)) hz, fun H4 s4 => fin _ rfl _ (by rw [ho]; rfl) _ s4⟩
    · have hn : ∀ z, x ≠ .str z := fun z e => by
        subst e
        obtain h := hty
        cases hty with
        | base h => cases h; exact absurd hk (by decide +kernel)
      refine ⟨_, rfl, _, _, _, _, false, rfl, .ty "str", hty, kit_ty hk, false, rfl, iteF ?_⟩
      exact ⟨_, rfl, rfl, true, rfl, iteT (kn hn _ (Same.refl _))⟩
theorem ok_is_condition {f : Addr} {fd : FuncData} (F : Fun K "is_condition" "is_condition" s_is_condition f fd) (T : Top K mg) (T_is_mark : Cal P w K mg base 1 "is_mark" spMark []) (T_are_terms : Cal P w K mg base 4 "are_terms" (spTerms K) []) : FnOk P w K mg base CX0 5 f fd ["parts", "words", "marks"] (spCond K) := by
  refine F.ok sc_is_condition (fun vs H Q E h => ?_) (fun cdv A outer s H vs Q E hr h => ?_)
  · obtain ⟨a, b, ps, ws, m, rfl, _⟩ := h
    rfl
  · obtain ⟨a, b, ps, ws, m, rfl, ha, hb, hl, hz, k⟩ := h
    refine ⟨_, (pss_cons (ps_if (pt_cmpR op_ne (pe_callB call_len_seq (by rfl) T.z_len (by decide +kernel) (pa_cons (pv 0) pa_nil)) pe_int (nomark _))
(pss_one (ps_ret pe_bl))
pss_nil)
(pss_cons (ps_asg (pv 0) (pg_unl rfl (pgs_cons (pg_name (i := 3) sc_is_condition.nd rfl (Or.inl rfl)) (pgs_cons (pg_name (i := 4) sc_is_condition.nd rfl (Or.inl rfl)) (pgs_cons (pg_name (i := 5) sc_is_condition.nd rfl (Or.inl rfl)) pgs_nil)))))
(pss_cons (ps_if (pt_cmpR op_eq (pv 4) pe_str (nomark _))
(pss_one (ps_ret (pe_and (pe_c T_is_mark hr (by decide) (by rfl) (pa_cons (pv 3) (pa_cons (pv 2) pa_nil))) (pe_one (pe_c T_are_terms hr (by decide) (by rfl) (pa_cons (pe_lst (pa_cons (pv 5) pa_nil)) (pa_cons (pv 1) (pa_cons (pv 2) pa_nil))))))))
pss_nil)
(pss_cons (ps_if (pt_cmpR op_eq (pv 4) pe_str (nomark _))
(pss_one (ps_ret (pe_and (pe_cmpR op_in_seq (pv 3) (pv 1) rfl) (pe_one (pe_cmpR op_in_seq (pv 5) (pv 1) rfl)))))
pss_nil)
(pss_one (ps_ret (pe_and (pe_cmpR op_in_seq (pv 4) (pe_tup (pa_cons pe_str (pa_cons pe_str pa_nil))) rfl) (pe_one (pe_c T_are_terms hr (by decide) (by rfl) (pa_cons (pe_lst (pa_cons (pv 3) (pa_cons (pv 5) pa_nil))) (pa_cons (pv 1) (pa_cons (pv 2) pa_nil)))))))))))), ?_⟩
    refine ⟨_, rfl, a, _, rfl, .inl ha, rfl, ?_⟩
    show ∃ c, V.bl (!decide (V.int (((ps.map V.str).length : Nat) : Int) = V.int ((3 : Nat) : Int))) = .bl c ∧ _
    rw [List.length_map, dec_len]
    refine ⟨_, rfl, ?_⟩
    by_cases h3 : ps.length = 3
    · rw [decide_eq_true h3]
      obtain ⟨a1, s, b1, rfl⟩ := three h3
      refine iteF ⟨_, rfl, a, _, rfl, ha, rfl, _, _, rfl, _, _, rfl, _, _, rfl, rfl, ?_⟩
      have la := hz a1 (by simp)
      have lb := hz b1 (by simp)
      refine ⟨_, rfl, rfl, _, rfl, ?_⟩
      rw [WB.dqs]
      have cd : condB ws m [a1, s, b1] = if (s == "in") = true then (decide (a1.length = 1) && a1.cps.toList.all (mem m)) && termB ws m b1 else if (s == "is") = true then hasS ws a1 && hasS ws b1 else hasS ["==", "<="] s && (termB ws m a1 && termB ws m b1) := rfl
      cases h1 : (s == ("in" : Str)) with
      | true =>
        rw [h1, if_pos rfl] at cd
        refine iteT ⟨_, rfl, _, rfl, a1, m, rfl, la, ?_⟩
        refine ⟨_, rfl, ?_⟩
        cases hc : (decide (a1.length = 1) && a1.cps.toList.all (mem m)) with
        | false =>
          refine iteF ?_
          have := k H (Same.refl H)
          rw [cd, hc] at this
          exact this
        | true =>
          refine iteT ⟨_, rfl, by show 1 ≤ sizeLine; decide, fun l hl => ⟨_, rfl, _, rfl, l, b, [b1], ws, m, rfl, SqL.of upd_same, (same_new hl).seq hb, by show 1 ≤ 1000; decide, fun y hy => by rw [List.mem_singleton.mp hy]; exact lb, fun H2 s2 => ?_⟩⟩
          have := k H2 ((same_new hl).trans s2)
          rw [cd, hc] at this
          have e : ([b1].all (termB ws m)) = (true && termB ws m b1) := by
            show (termB ws m b1 && true) = _
            rw [Bool.and_true, Bool.true_and]
          rw [e]
          exact this
      | false =>
        rw [h1, if_neg Bool.noConfusion] at cd
        refine iteF ⟨_, rfl, rfl, _, rfl, ?_⟩
        rw [WB.dqs]
        cases h2 : (s == ("is" : Str)) with
        | true =>
          rw [h2, if_pos rfl] at cd
          refine iteT ⟨_, rfl, _, rfl, b, _, rfl, .inl hb, rfl, flat_strsW ws, ?_⟩
          show ∃ c, V.bl (inV (.str a1) (ws.map V.str)) = .bl c ∧ _
          rw [inV_strs]
          refine ⟨_, rfl, ?_⟩
          cases hc : hasS ws a1 with
          | false =>
            refine iteF ?_
            have := k H (Same.refl H)
            rw [cd, hc] at this
            exact this
          | true =>
            refine iteT ⟨_, rfl, _, rfl, b, _, rfl, .inl hb, rfl, flat_strsW ws, ?_⟩
            show Q (V.bl (inV (.str b1) (ws.map V.str))) H
            rw [inV_strs]
            have := k H (Same.refl H)
            rw [cd, hc] at this
            exact this
        | false =>
          rw [h2, if_neg Bool.noConfusion] at cd
          refine iteF ⟨_, rfl, by show 2 ≤ sizeLine; decide, fun t ht => ⟨t, _, rfl, .inr (SqT.of upd_same), rfl, rfl, ?_⟩⟩
          show ∃ c, V.bl (inV (.str s) ((["==", "<="] : List Str).map V.str)) = .bl c ∧ _
          rw [inV_strs]
          refine ⟨_, rfl, ?_⟩
          have st := same_new (o := .tup [V.str (Str.ofString "=="), .str (Str.ofString "<=")]) ht
          cases hc : hasS (["==", "<="] : List Str) s with
          | false =>
            refine iteF ?_
            have := k _ st
            rw [cd, hc] at this
            exact this
          | true =>
            refine iteT ⟨_, rfl, _, rfl, by show 2 ≤ sizeLine; decide, fun l hl => ⟨_, rfl, _, rfl, l, b, [a1, b1], ws, m, rfl, SqL.of upd_same, (st.trans (same_new hl)).seq hb, by show 2 ≤ 1000; decide, fun y hy => ?_, fun H2 s2 => ?_⟩⟩
            · rcases List.mem_cons.mp hy with rfl | hy
              · exact la
              · rw [List.mem_singleton.mp hy]
                exact lb
            · have := k H2 ((st.trans (same_new hl)).trans s2)
              rw [cd, hc] at this
              have e : ([a1, b1].all (termB ws m)) = (true && (termB ws m a1 && termB ws m b1)) := by
                show (termB ws m a1 && (termB ws m b1 && true)) = _
                rw [Bool.and_true, Bool.true_and]
              rw [e]
              exact this
    · rw [decide_eq_false h3]
      refine iteT ?_
      have := k H (Same.refl H)
      rw [cond_not h3] at this
      exact this
theorem ok_is_failing {f : Addr} {fd : FuncData} (F : Fun K "is_failing" "is_failing" s_is_failing f fd) (T : Top K mg) (T_are_terms : Cal P w K mg base 4 "are_terms" (spTerms K) []) : FnOk P w K mg base CX0 5 f fd ["parts", "words", "marks"] (spFail K) := by
  refine F.ok sc_is_failing (fun vs H Q E h => ?_) (fun cdv A outer s H vs Q E hr h => ?_)
  · obtain ⟨a, b, ps, ws, m, rfl, _⟩ := h
    rfl
  · obtain ⟨a, b, ps, ws, m, rfl, ha, hb, hl, hz, k⟩ := h
    refine ⟨_, (pss_cons (ps_if (PW.pt (pw_and (pt_cmpR op_eq (pe_callB call_len_seq (by rfl) T.z_len (by decide +kernel) (pa_cons (pv 0) pa_nil)) pe_int (nomark _)) (pw_and1 (pt_cmpR op_eq (pe_ix ix_list (pv 0) pe_int (fun _ _ => rfl)) pe_str (nomark _)))))
(pss_one (ps_ret (pe_c T_are_terms hr (by decide) (by rfl) (pa_cons (pe_lst (pa_cons (pe_ix ix_list (pv 0) pe_int (fun _ _ => rfl)) (pa_cons (pe_ix ix_list (pv 0) pe_int (fun _ _ => rfl)) pa_nil))) (pa_cons (pv 1) (pa_cons (pv 2) pa_nil))))))
pss_nil)
(pss_one (ps_ret (pe_and (pe_cmpR op_eq (pe_callB call_len_seq (by rfl) T.z_len (by decide +kernel) (pa_cons (pv 0) pa_nil)) pe_int (nomark _)) (pe_one (pe_c T_are_terms hr (by decide) (by rfl) (pa_cons (pv 0) (pa_cons (pv 1) (pa_cons (pv 2) pa_nil))))))))), ?_⟩
    have tm : ∀ (l : Addr) (qs : List Str) (H1 : Hp), Same H H1 → True := fun _ _ _ _ => trivial
    refine ⟨_, rfl, a, _, rfl, .inl ha, rfl, ?_⟩
    show ∃ c, V.bl (decide (V.int (((ps.map V.str).length : Nat) : Int) = V.int ((3 : Nat) : Int))) = .bl c ∧ _
    rw [List.length_map, dec_len]
    refine ⟨_, rfl, ?_⟩
    have no : ∀ b : Bool, b = failB ws m ps → Q (.bl b) H := fun b e => by
      rw [e]
      exact k H (Same.refl H)
    by_cases h3 : ps.length = 3
    · rw [decide_eq_true h3]
      obtain ⟨t, f', u, rfl⟩ := three h3
      have i0 : ([t, f', u].map V.str)[0]? = some (V.str t) := rfl
      have i1 : ([t, f', u].map V.str)[1]? = some (V.str f') := rfl
      have i2 : ([t, f', u].map V.str)[2]? = some (V.str u) := rfl
      refine iteT ⟨_, rfl, a, _, _, _, rfl, rfl, ha, atI_nat i1, rfl, _, rfl, ?_⟩
      rw [WB.dqs]
      have cd : failB ws m [t, f', u] = ((f' == "from") && (termB ws m t && termB ws m u)) := rfl
      cases h1 : (f' == ("from" : Str)) with
      | true =>
        rw [h1] at cd
        refine iteT ⟨_, rfl, a, _, _, _, rfl, rfl, ha, atI_nat i0, _, rfl, a, _, _, _, rfl, rfl, ha, atI_nat i2, by show 2 ≤ sizeLine; decide, fun l hl => ⟨_, rfl, _, rfl, l, b, [t, u], ws, m, rfl, SqL.of upd_same, (same_new hl).seq hb, by show 2 ≤ 1000; decide, fun y hy => ?_, fun H2 s2 => ?_⟩⟩
        · rcases List.mem_cons.mp hy with rfl | hy
          · exact hz _ (by simp)
          · rw [List.mem_singleton.mp hy]
            exact hz _ (by simp)
        · have := k H2 ((same_new hl).trans s2)
          rw [cd] at this
          have e : ([t, u].all (termB ws m)) = (true && (termB ws m t && termB ws m u)) := by
            show (termB ws m t && (termB ws m u && true)) = _
            rw [Bool.and_true, Bool.true_and]
          rw [e]
          exact this
      | false =>
        rw [h1] at cd
        refine iteF ⟨_, rfl, a, _, rfl, .inl ha, rfl, false, rfl, iteF (no _ ?_)⟩
        rw [cd]
        rfl
    · rw [decide_eq_false h3]
      refine iteF (iteF ⟨_, rfl, a, _, rfl, .inl ha, rfl, ?_⟩)
      show ∃ c, V.bl (decide (V.int (((ps.map V.str).length : Nat) : Int) = V.int ((1 : Nat) : Int))) = .bl c ∧ _
      rw [List.length_map, dec_len]
      refine ⟨_, rfl, ?_⟩
      by_cases h1 : ps.length = 1
      · rw [decide_eq_true h1]
        obtain ⟨t, rfl⟩ := one_of h1
        refine iteT ⟨_, rfl, _, rfl, _, rfl, a, b, [t], ws, m, rfl, ha, hb, by show 1 ≤ 1000; decide, hz, fun H2 s2 => ?_⟩
        have := k H2 s2
        have e : ([t].all (termB ws m)) = failB ws m [t] := by
          show (termB ws m t && true) = termB ws m t
          rw [Bool.and_true]
        rw [e]
        exact this
      · rw [decide_eq_false h1]
        exact iteF (no _ (fail_not h3 h1).symm)
theorem ok_is_task_row {f : Addr} {fd : FuncData} (F : Fun K "is_task_row" "is_task_row" s_is_task_row f fd) (T : Top K mg) (T_is_condition : Cal P w K mg base 5 "is_condition" (spCond K) []) (T_is_failing : Cal P w K mg base 5 "is_failing" (spFail K) []) (T_is_plain : Cal P w K mg base 5 "is_plain" (spPlain K) []) : FnOk P w K mg base CX0 6 f fd ["row", "words", "marks"] (spTaskRow K) := by
  refine F.ok sc_is_task_row (fun vs H Q E h => ?_) (fun cdv A outer s H vs Q E hr h => ?_)
  · obtain ⟨x, b, ws, m, rfl, _⟩ := h
    rfl
  · obtain ⟨x, b, ws, m, rfl, hx, hb, k⟩ := h
    refine ⟨_, (pss_cons (ps_if (pt_not (pt_val (pe_callB call_isi (by rfl) T.z_isinstance (by decide +kernel) (pa_cons (pv 0) (pa_cons (pe_bltn (v := .ty "str") (u := .type "str") (by rfl) T.z_str (by decide +kernel) rfl) pa_nil)))))
(pss_one (ps_ret pe_bl))
pss_nil)
(pss_cons (ps_if (pt_cmpR op_in_seq (pv 0) (pe_tup (pa_cons pe_str (pa_cons pe_str (pa_cons pe_str pa_nil)))) rfl)
(pss_one (ps_ret pe_bl))
pss_nil)
(pss_cons (ps_set (i := 3) sc_is_task_row.nd rfl (Or.inl rfl) (pe_bm PySem.F.plainAttrs_str PySem.F.slot_str_split PySem.F.type_str_split mt_split (pv 0) (pa_cons pe_str pa_nil)))
(pss_cons (ps_if (pt_cmpR op_eq (pe_ix ix_list (pv 3) pe_int (fun _ _ => rfl)) pe_str (nomark _))
(pss_one (ps_ret (pe_c T_is_condition hr (by decide) (by rfl) (pa_cons (pe_ifExp (pt_cmpR (op_eqD hr.units) (pe_slice sl_list (pv 3) (po_some pe_int) (po_some pe_int)) (pe_lst (pa_cons pe_str pa_nil)) (nomark _)) (pe_slice sl_list (pv 3) (po_some pe_int) po_none) (pe_slice sl_list (pv 3) (po_some pe_int) po_none)) (pa_cons (pv 1) (pa_cons (pv 2) pa_nil))))))
pss_nil)
(pss_cons (ps_if (pt_cmpR op_eq (pe_ix ix_list (pv 3) pe_int (fun _ _ => rfl)) pe_str (nomark _))
(pss_one (ps_ret (pe_c T_is_failing hr (by decide) (by rfl) (pa_cons (pe_slice sl_list (pv 3) (po_some pe_int) po_none) (pa_cons (pv 1) (pa_cons (pv 2) pa_nil))))))
pss_nil)
(pss_one (ps_ret (pe_c T_is_plain hr (by decide) (by rfl) (pa_cons (pv 0) (pa_cons (pv 1) (pa_cons (pv 2) (pa_cons pe_bl pa_nil)))))))))))), ?_⟩
    obtain ⟨ks, kn⟩ := k
    rcases hx with ⟨z, rfl, hz0⟩ | ⟨t, hty, hk⟩
    · obtain ⟨hsm, k⟩ := ks z rfl
      have hz : z.length ≤ 1000 := Nat.le_trans hsm.1 (by decide)
      have hps := parts_small hsm
      refine ⟨_, rfl, _, _, _, _, true, rfl, .ty "str", .base (.str z), kit_ty (by decide +kernel), true, rfl, iteF ?_⟩
      refine ⟨_, rfl, by show 3 ≤ sizeLine; decide, fun t ht => ⟨t, _, rfl, .inr (SqT.of upd_same), rfl, rfl, ?_⟩⟩
      show ∃ c, V.bl (inV (.str z) ((["else", "end", "stop"] : List Str).map V.str)) = .bl c ∧ _
      rw [inV_strs]
      refine ⟨_, rfl, ?_⟩
      have st := same_new (o := .tup [V.str (Str.ofString "else"), .str (Str.ofString "end"), .str (Str.ofString "stop")]) ht
      show if hasS (["else", "end", "stop"] : List Str) z = true then tRet _ _ _ (upd H t (.tup [V.str (Str.ofString "else"), .str (Str.ofString "end"), .str (Str.ofString "stop")])) else _
      generalize (upd H t (.tup [V.str (Str.ofString "else"), .str (Str.ofString "end"), .str (Str.ofString "stop")])) = H0 at *
      cases h0 : hasS (["else", "end", "stop"] : List Str) z with
      | true =>
        refine iteT ?_
        have e : taskB ws m z = true := by
          unfold taskB
          rw [if_pos h0]
        have := k _ st
        rw [e] at this
        exact this
      | false =>
        have td : taskB ws m z = if (fst z == "if") = true then condB ws m (if ((parts z)[1]? == some ("not" : Str)) = true then (parts z).drop 2 else (parts z).drop 1) else if (fst z == "fail") = true then failB ws m ((parts z).drop 1) else rowB ws m false z := by
          unfold taskB
          rw [if_neg (by rw [h0]; exact Bool.noConfusion)]
        refine iteF ⟨_, rfl, rfl, z, _, rfl, rfl, by decide +kernel, Nat.le_trans (Nat.add_le_add_right hz 2) (by decide), fun l hl => ?_⟩
        have hL : (upd H0 l (.lst ((parts z).map V.str))) l = some (.lst ((parts z).map V.str)) := upd_same
        have s1 := st.trans (same_new (o := .lst ((parts z).map V.str)) hl)
        show tSeq _ _ _ _ (upd H0 l (.lst ((parts z).map V.str)))
        generalize (upd H0 l (.lst ((parts z).map V.str))) = H1 at *
        have pl : ∀ n, ((parts z).drop n).length ≤ 1100 := fun n => by
          rw [List.length_drop]
          exact Nat.le_trans (Nat.sub_le _ _) (Nat.le_trans (parts_le z) (by omega))
        have ps : ∀ n, ∀ y ∈ (parts z).drop n, y.length ≤ 1000 := fun n y hy => Nat.le_trans (parts_short (List.mem_of_mem_drop hy)) hz
        have dr : ∀ n : Nat, cutV ((parts z).map V.str) (some (n : Int)) none = ((parts z).drop n).map V.str := fun n => by
          rw [cut_drop, List.map_drop]
        have d1 := dr 1
        have d2 := dr 2
        have i0 := map_at (f := V.str) (fst_at z)
        refine ⟨_, rfl, l, _, _, _, rfl, rfl, SqL.of hL, atI_nat i0, rfl, _, rfl, ?_⟩
        rw [WB.dqs]
        cases h1 : (fst z == ("if" : Str)) with
        | true =>
          rw [h1, if_pos rfl] at td
          refine iteT ⟨_, rfl, _, rfl, _, rfl, l, _, rfl, SqL.of hL, fun p hp => ⟨by show 1 ≤ sizeLine; decide, fun q hq => ?_⟩⟩
          have sp := same_new (o := .lst (cutV ((parts z).map V.str) (some 1) (some 2))) hp
          have sq := same_new (o := .lst [V.str (Str.ofString "not")]) hq
          have ep : cutV ((parts z).map V.str) (some 1) (some 2) = (((parts z).drop 1).take 1).map V.str := by
            rw [cut_one, List.map_take, List.map_drop]
          refine ⟨.list ((((parts z).drop 1).take 1).map PyData.str), .list [.str "not"], .lst (SqL.of (by rw [sq _ _ upd_same, ep])) (dp_all_strs _), .lst (SqL.of upd_same) (.cons (.str _) .nil), shaped_txs (fun y hy => hps y (List.mem_of_mem_drop (List.mem_of_mem_take hy))), by decide +kernel, ?_⟩
          rw [eqv_one, not_at]
          have spq := sp.trans sq
          refine ⟨_, rfl, ?_⟩
          have hL2 := spq _ _ hL
          refine ite_val (C := fun v H' => ∃ q : Addr, v = .ref q ∧ H' q = some (.lst ((if ((parts z)[1]? == some ("not" : Str)) = true then (parts z).drop 2 else (parts z).drop 1).map V.str)) ∧ Same H1 H') (fun hc Q' qq => ?_) (fun hc Q' qq => ?_) ?_
          · refine ⟨_, rfl, _, rfl, l, _, rfl, SqL.of hL2, fun r hr2 => qq _ _ ⟨r, rfl, ?_, spq.trans (same_new hr2)⟩⟩
            rw [upd_same, if_pos hc, ← d2]
            rfl
          · refine ⟨_, rfl, _, rfl, l, _, rfl, SqL.of hL2, fun r hr2 => qq _ _ ⟨r, rfl, ?_, spq.trans (same_new hr2)⟩⟩
            rw [upd_same, if_neg (by rw [hc]; exact Bool.noConfusion), ← d1]
            rfl
          · rintro v H' ⟨r, rfl, hr2, s2⟩
            refine ⟨_, rfl, _, rfl, r, b, _, ws, m, rfl, SqL.of hr2, (s1.trans s2).seq hb, ?_, ?_, fun H3 s3 => ?_⟩
            · split
              · exact pl 2
              · exact pl 1
            · split
              · exact ps 2
              · exact ps 1
            · have := k H3 ((s1.trans s2).trans s3)
              rw [td] at this
              exact this
        | false =>
          rw [h1, if_neg Bool.noConfusion] at td
          refine iteF ⟨_, rfl, l, _, _, _, rfl, rfl, SqL.of hL, atI_nat i0, rfl, _, rfl, ?_⟩
          rw [WB.dqs]
          cases h2 : (fst z == ("fail" : Str)) with
          | true =>
            rw [h2, if_pos rfl] at td
            refine iteT ⟨_, rfl, _, rfl, l, _, rfl, SqL.of hL, fun r hr2 => ⟨_, rfl, _, rfl, r, b, _, ws, m, rfl, SqL.of (by rw [upd_same, ← d1]; rfl), (s1.trans (same_new hr2)).seq hb, pl 1, ps 1, fun H3 s3 => ?_⟩⟩
            have := k H3 ((s1.trans (same_new hr2)).trans s3)
            rw [td] at this
            exact this
          | false =>
            rw [h2, if_neg Bool.noConfusion] at td
            refine iteF ⟨_, rfl, _, rfl, _, rfl, .str z, b, ws, m, false, rfl, .inl ⟨z, rfl, hz0⟩, s1.seq hb, fun y hy => ?_, fun hn => absurd rfl (hn z)⟩
            cases hy
            refine ⟨hz, fun H3 s3 => ?_⟩
            have := k H3 (s1.trans s3)
            rw [td] at this
            exact this
    · have hn : ∀ z, x ≠ .str z := fun z e => by
        subst e
        cases hty with
        | base h => cases h; exact absurd hk (by decide +kernel)
      exact ⟨_, rfl, _, _, _, _, false, rfl, .ty "str", hty, kit_ty hk, false, rfl, iteT (kn hn _ (Same.refl _))⟩
theorem ok_plain_marks {f : Addr} {fd : FuncData} (F : Fun K "plain_marks" "plain_marks" s_plain_marks f fd) (T : Top K mg) : FnOk P w K mg base CX0 1 f fd ["marks"] spPlains := by
  refine F.ok sc_plain_marks (fun vs H Q E h => ?_) (fun cdv A outer s H vs Q E hr h => ?_)
  · obtain ⟨z, rfl, _⟩ := h
    rfl
  · obtain ⟨z, rfl, hz, k⟩ := h
    refine ⟨_, (pss_one (ps_ret (pe_lc (own := [("mark", 1)]) rfl sc_plain_marks.nd (pi_str (pv 0)) (blkOk_by (own := [("mark", 1)]) (N := n_plain_marks) (sc := defScope s_plain_marks) (by decide +kernel)) (fun _ _ _ _ _ => (pg_name (i := 1) sc_plain_marks.nd rfl (Or.inl rfl))) (fun _ _ _ _ _ => (pts_one (show PT _ _ (tB (tBM0 K "str" (fun x xs H Q => ∃ a, x = .str a ∧ xs = [] ∧ True ∧ Q (.bl (Txt.islower a)) H) (tVar 1))) from (pt_val (pe_bm0 PySem.F.plainAttrs_str PySem.F.slot_str_islower PySem.F.type_str_islower mt_islower (pv 1)))))) (fun _ _ _ _ _ => (pv 1))))), ?_⟩
    have hlen : z.cps.toList.length ≤ 1000 := hz
    refine ⟨_, rfl, z, rfl, fun D hD => lc_it walk_str (fun i H' => H' = upd H D (.lst (filt z.cps.toList (fun c => Txt.islower ⟨#[c]⟩) i))) rfl (fun _ _ _ _ => trivial) ?_ ?_⟩
    · rintro i x H2 H' hi rfl ⟨rfl, c, hc, rfl⟩
      have hc := arr_at hc
      have hl : (filt z.cps.toList (fun c => Txt.islower ⟨#[c]⟩) i).length < sizeLine := Nat.lt_of_le_of_lt filt_len (Nat.lt_of_le_of_lt hlen (by decide))
      refine ⟨rfl, ⟨_, rfl, rfl, _, rfl, rfl, trivial, _, rfl, ?_⟩⟩
      refine ite_b (fun h => ⟨_, rfl, _, upd_same, hl, ?_⟩) (fun h => ?_)
      · rw [upd_upd, filt_yes (t := fun c => Txt.islower ⟨#[c]⟩) hc h]
        rfl
      · show upd H D _ = upd H D _
        rw [filt_no (t := fun c => Txt.islower ⟨#[c]⟩) hc h]
    · rintro H' rfl
      refine k _ D (same_new hD) hD ?_
      rw [upd_same, filt_end (by rw [Array.length_toList]; exact Nat.le_refl _)]
      rfl
theorem ok_blocks_behind {f : Addr} {fd : FuncData} (F : Fun K "blocks_behind" "blocks_behind" s_blocks_behind f fd) (T : Top K mg) (T_first_part : Cal P w K mg base 1 "first_part" spFirst []) : FnOk P w K mg base CX0 2 f fd ["row", "blocks"] spBlocks := by
  refine F.ok sc_blocks_behind (fun vs H Q E h => ?_) (fun cdv A outer s H vs Q E hr h => ?_)
  · obtain ⟨z, a, bs, rfl, _⟩ := h
    rfl
  · obtain ⟨z, a, bs, rfl, hz, ha, hl, hsb, k0, k1⟩ := h
    refine ⟨_, (pss_cons (ps_set (i := 2) sc_blocks_behind.nd rfl (Or.inl rfl) (pe_c T_first_part hr (by decide) (by rfl) (pa_cons (pv 0) pa_nil)))
(pss_cons (ps_if (pt_cmpR op_eq (pv 2) pe_str (nomark _))
(pss_one (ps_ret (pe_lst (StX.pa_star (pv 1) (pa_cons pe_str pa_nil)))))
pss_nil)
(pss_cons (ps_if (pt_cmpR op_eq (pv 2) pe_str (nomark _))
(pss_one (ps_ret (pe_ifExp (pt_cmpR (op_eqD hr.units) (pe_slice sl_list (pv 1) (po_some (pe_un un_neg pe_int)) po_none) (pe_lst (pa_cons pe_str pa_nil)) (nomark _)) (pe_lst (StX.pa_star (pe_slice sl_list (pv 1) po_none (po_some (pe_un un_neg pe_int))) (pa_cons pe_str pa_nil))) pe_non)))
pss_nil)
(pss_cons (ps_if (pt_cmpR op_eq (pv 2) pe_str (nomark _))
(pss_one (ps_ret (pe_ifExp (pt_cmpR op_gt (pe_callB call_len_seq (by rfl) T.z_len (by decide +kernel) (pa_cons (pv 1) pa_nil)) pe_int (nomark _)) (pe_slice sl_list (pv 1) po_none (po_some (pe_un un_neg pe_int))) pe_non)))
pss_nil)
(pss_one (ps_ret (pv 1))))))), ?_⟩
    refine ⟨_, rfl, z, rfl, hz, fun H1 s1 => ?_⟩
    have hA := s1 _ _ ha
    refine ⟨_, rfl, rfl, _, rfl, ?_⟩
    rw [WB.dqs]
    have bl : blocks z bs = if (fst z == "if") = true then some (bs ++ [("if" : Str)]) else if (fst z == "else") = true then (if bs.drop (bs.length - 1) = [("if" : Str)] then some (bs.dropLast ++ [("else" : Str)]) else none) else if (fst z == "end") = true then (if bs = [] then none else some bs.dropLast) else some bs := rfl
    have ci : cutV (bs.map V.str) none (some (-1)) = bs.dropLast.map V.str := by rw [cut_init, List.map_dropLast]
    have cl : cutV (bs.map V.str) (some (-1)) none = (bs.drop (bs.length - 1)).map V.str := by rw [cut_last, List.length_map, List.map_drop]
    have dl : bs.dropLast.length ≤ 1000 := Nat.le_trans (by rw [List.length_dropLast]; exact Nat.sub_le _ _) hl
    cases h1 : (fst z == ("if" : Str)) with
    | true =>
      rw [h1, if_pos rfl] at bl
      refine iteT ⟨_, rfl, a, _, rfl, .inr (SqL.of hA), ?_, fun l hl2 => k1 _ bl _ l (s1.trans (same_new hl2)) ?_⟩
      · rw [List.length_append, List.length_map]
        exact Nat.le_trans (Nat.add_le_add_right hl 1) (by decide)
      · rw [upd_same, List.map_append]
        rfl
    | false =>
      rw [h1, if_neg Bool.noConfusion] at bl
      refine iteF ⟨_, rfl, rfl, _, rfl, ?_⟩
      rw [WB.dqs]
      cases h2 : (fst z == ("else" : Str)) with
      | true =>
        rw [h2, if_pos rfl] at bl
        refine iteT ⟨_, rfl, _, rfl, _, rfl, a, _, rfl, SqL.of hA, fun p hp => ⟨by show 1 ≤ sizeLine; decide, fun q hq => ?_⟩⟩
        have sp := same_new (o := .lst (cutV (bs.map V.str) (some (-1)) none)) hp
        have sq := same_new (o := .lst [V.str (Str.ofString "if")]) hq
        refine ⟨.list ((bs.drop (bs.length - 1)).map PyData.str), .list [.str "if"], .lst (SqL.of (by rw [sq _ _ upd_same, cl])) (dp_all_strs _), .lst (SqL.of upd_same) (.cons (.str _) .nil), shaped_txs (fun y hy => hsb y (List.mem_of_mem_drop hy)), by decide +kernel, ?_⟩
        rw [eqv_one]
        have s2 := s1.trans (sp.trans sq)
        refine ⟨_, rfl, ?_⟩
        by_cases h3 : bs.drop (bs.length - 1) = [("if" : Str)]
        · rw [if_pos h3] at bl
          rw [decide_eq_true h3]
          refine iteT ⟨_, rfl, _, rfl, _, rfl, a, _, rfl, SqL.of (sp.trans sq _ _ hA), fun r hr2 => ⟨r, _, rfl, .inr (SqL.of upd_same), ?_, fun l hl2 => k1 _ bl _ l ((s2.trans (same_new hr2)).trans (same_new hl2)) ?_⟩⟩
          · rw [ci, List.length_append, List.length_map]
            exact Nat.le_trans (Nat.add_le_add_right dl 1) (by decide)
          · rw [upd_same, ci, List.map_append]
            rfl
        · rw [if_neg h3] at bl
          rw [decide_eq_false h3]
          exact iteF (k0 bl _ s2)
      | false =>
        rw [h2, if_neg Bool.noConfusion] at bl
        refine iteF ⟨_, rfl, rfl, _, rfl, ?_⟩
        rw [WB.dqs]
        cases h3 : (fst z == ("end" : Str)) with
        | true =>
          rw [h3, if_pos rfl] at bl
          refine iteT ⟨_, rfl, a, _, rfl, .inl (SqL.of hA), _, _, rfl, rfl, _, rfl, ?_⟩
          rw [List.length_map]
          by_cases h4 : bs = []
          · rw [if_pos h4] at bl
            subst h4
            exact iteF (k0 bl _ s1)
          · rw [if_neg h4] at bl
            have h5 : 0 < bs.length := List.length_pos_iff.mpr h4
            rw [decide_eq_true (show (0 : Int) < ((bs.length : Nat) : Int) by omega)]
            exact iteT ⟨_, rfl, _, rfl, _, rfl, a, _, rfl, SqL.of hA, fun r hr2 => k1 _ bl _ r (s1.trans (same_new hr2)) (by rw [upd_same, ci])⟩
        | false =>
          rw [h3, if_neg Bool.noConfusion] at bl
          exact iteF ⟨_, rfl, k1 _ bl _ a s1 hA⟩
end
end W29

set_option Elab.async false
set_option linter.all false
set_option maxRecDepth 100000
set_option maxHeartbeats 4000000
namespace W29
open PySem L2 WB
open C8 (pe_c pe_mk pe_mt pe_mt0 Cal Mak Met)
section
variable {P : Program} {w : World} {K : PySem.W.Frag} {mg : Str → Option Value} {base : Heap}
theorem ok_ini_BadProgram {f C : Addr} {fd : FuncData} (F : Fun K "__init__" "BadProgram.__init__" s_BadProgram__init f fd) {B newId initId : String} {bmB : List Value} (T : OexB K C B newId initId bmB) (no0 : PySem.W.findIn K (.ref C) "part" = some none) (no1 : PySem.W.findIn K (.ref C) "at" = some none) : FnOk P w K mg base CX0 1 f fd ["self", "part", "at"] (spG C ["part", "at"]) := by
  refine F.ok sc_BadProgram__init (fun vs H Q E h => ?_) (fun cdv A outer s H vs Q E hr h => ?_)
  · obtain ⟨a, ys, rfl, hl, _⟩ := h
    show ys.length + 1 = _
    rw [hl]
    rfl
  · obtain ⟨a, ys, rfl, hl, ha, k⟩ := h
    obtain ⟨y0, y1, rfl⟩ : ∃ y0 y1, ys = [y0, y1] := by
      match ys, hl with
      | [y0, y1], _ => exact ⟨_, _, rfl⟩
    refine ⟨_, (pss_cons (ps_ostB T no0 (pv 0) (pv 1))
(pss_one (ps_ostB T no1 (pv 0) (pv 2)))), ?_⟩
    refine ⟨_, rfl, _, rfl, a, rfl, .inl ⟨ha, fun dx nd ne => ⟨_, rfl, _, rfl, a, rfl, .inr ⟨dx, _, upd_same, (upd_ne ne).trans upd_same, by show 1 ≤ 900; decide, k _ dx _ (bar_dx nd (ini_bar nd)) nd ne ((upd_ne ne.symm).trans upd_same) upd_same fun g v h => ?_⟩⟩⟩⟩
    simp only [List.zip_cons_cons, List.zip_nil_right, List.mem_cons, List.not_mem_nil, or_false, Prod.mk.injEq] at h
    rcases h with h | h <;> (cases h.1; cases h.2; rfl)
theorem ok_ini_TooMany {f C : Addr} {fd : FuncData} (F : Fun K "__init__" "TooMany.__init__" s_TooMany__init f fd) {B newId initId : String} {bmB : List Value} (T : OexB K C B newId initId bmB) (no0 : PySem.W.findIn K (.ref C) "what" = some none) : FnOk P w K mg base CX0 1 f fd ["self", "what"] (spG C ["what"]) := by
  refine F.ok sc_TooMany__init (fun vs H Q E h => ?_) (fun cdv A outer s H vs Q E hr h => ?_)
  · obtain ⟨a, ys, rfl, hl, _⟩ := h
    show ys.length + 1 = _
    rw [hl]
    rfl
  · obtain ⟨a, ys, rfl, hl, ha, k⟩ := h
    obtain ⟨y0, rfl⟩ : ∃ y0, ys = [y0] := by
      match ys, hl with
      | [y0], _ => exact ⟨_, rfl⟩
    refine ⟨_, (pss_one (ps_ostB T no0 (pv 0) (pv 1))), ?_⟩
    refine ⟨_, rfl, _, rfl, a, rfl, .inl ⟨ha, fun dx nd ne => k _ dx _ (ini_bar nd) nd ne upd_same ((upd_ne ne).trans upd_same) fun g v h => ?_⟩⟩
    simp only [List.zip_cons_cons, List.zip_nil_right, List.mem_cons, List.not_mem_nil, or_false, Prod.mk.injEq] at h
    rcases h with h <;> (cases h.1; cases h.2; rfl)
theorem ok_check_marks {f CB CT : Addr} {fd : FuncData} (F : Fun K "check_marks" "check_marks" s_check_marks f fd) (T : Top K mg) (EB : ErY P w K mg base CB "BadProgram" ["part", "at"] ["part", "at"]) (ET : ErY P w K mg base CT "TooMany" ["what"] ["what"]) (T_are_contents : Cal P w K mg base 2 "are_contents" (spAre K) []) (T_plain_marks : Cal P w K mg base 1 "plain_marks" spPlains []) : FnOk P w K mg base (L2.CX P w) 3 f fd ["marks"] (spChkM K CB) := by
  refine F.okX sc_check_marks (fun vs H Q E h => ?_) (fun cdv A outer s H vs Q E hr h => ?_)
  · obtain ⟨x, rfl, _⟩ := h
    rfl
  · obtain ⟨x, rfl, hx, hs, ky, kn⟩ := h
    refine ⟨_, (pss_one (ps_if (PW.pt (pw_or (pt_not (pt_val (pe_c T_are_contents hr (by decide) (by rfl) (pa_cons (pv 0) pa_nil)))) (pw_or (pt_not (pt_chain op_le op_le pe_int (pe_callB call_len_str (by rfl) T.z_len (by decide +kernel) (pa_cons (pv 0) pa_nil)) (C8.pe_gc (by rfl) T.g_MOST_MARKS))) (pw_or1 (pt_cmpR op_gt (pe_callB call_len_seq (by rfl) T.z_len (by decide +kernel) (pa_cons (pe_c T_plain_marks hr (by decide) (by rfl) (pa_cons (pv 0) pa_nil)) pa_nil)) (C8.pe_gc (by rfl) T.g_MOST_PLAIN_MARKS) (nomark _))))))
(pss_one (ps_raise rfl (takes_of (E := E) rfl rfl rfl rfl) (pmk_ery EB hr (by decide) (by rfl) (pa_cons pe_str (pa_cons (pe_un un_neg pe_int) pa_nil)))))
pss_nil)), ?_⟩
    have no : marksB x = false → ∀ H1, Same H H1 → tMkO CB (spG CB ["part", "at"]) [] (tCons (tC (.str "marks")) (tCons (tUn (rU fun i => .int (-i)) (tC (.int 1))) tNil)) (L2.start n_check_marks [x]) H1 (fun cls d H' => E cls d H') := fun e H1 s1 => ⟨1, rfl, by show 2 ≤ 1000; decide, fun a na => ery_ok rfl na fun H' d s2 nd xd => kn e H' d (s1.trans s2) (s1.free nd) xd⟩
    rcases hx with ⟨z, rfl, hz0⟩ | ⟨t, hty, hk⟩
    · have hz := hs z rfl
      refine ⟨_, rfl, _, rfl, .inl ⟨z, rfl, fun H1 s1 => ⟨_, rfl, ?_⟩⟩⟩
      have mb : marksB (.str z) = (decide (z = sb (mem z)) && (decide (1 ≤ z.length) && decide (z.length ≤ 3)) && decide ((plains z).length ≤ 2)) := rfl
      cases h1 : decide (z = sb (mem z)) with
      | false => exact iteT (iteT (no (by rw [mb, h1]; rfl) H1 s1))
      | true =>
        rw [h1, Bool.true_and] at mb
        refine iteF ⟨_, rfl, z, rfl, Nat.le_trans hz (by decide), _, _, rfl, rfl, _, rfl, ite_b (fun h2 => ?_) (fun h2 => ?_)⟩
        · have h2 := of_decide_eq_true h2
          refine ⟨_, _, rfl, rfl, _, rfl, ?_⟩
          cases h3 : decide (((z.length : Nat) : Int) ≤ 3) with
          | false =>
            have h3 := of_decide_eq_false h3
            refine iteT (iteT (no ?_ H1 s1))
            rw [mb, decide_eq_false (show ¬ z.length ≤ 3 by omega), Bool.and_false, Bool.false_and]
          | true =>
            have h3 := of_decide_eq_true h3
            rw [decide_eq_true (show z.length ≤ 3 by omega), decide_eq_true (show 1 ≤ z.length by omega), Bool.true_and, Bool.true_and] at mb
            refine iteF ⟨_, rfl, z, rfl, hz, fun H2 l s2 nl hl => ⟨l, _, rfl, .inl (SqL.of hl), _, _, rfl, rfl, _, rfl, ?_⟩⟩
            rw [List.length_map]
            cases h4 : decide ((2 : Int) < (((plains z).length : Nat) : Int)) with
            | true =>
              have h4 := of_decide_eq_true h4
              exact iteT (no (by rw [mb, decide_eq_false (show ¬ (plains z).length ≤ 2 by omega)]) H2 (s1.trans s2))
            | false =>
              have h4 := of_decide_eq_false h4
              exact iteF (ky (by rw [mb, decide_eq_true (show (plains z).length ≤ 2 by omega)]) H2 (s1.trans s2))
        · have h2 := of_decide_eq_false h2
          refine ⟨_, rfl, iteT (iteT (no ?_ H1 s1))⟩
          rw [mb, decide_eq_false (show ¬ 1 ≤ z.length by omega), Bool.false_and, Bool.false_and]
    · have hn : marksB x = false := by
        cases x with
        | str z =>
          cases hty with
          | base h => cases h; exact absurd hk (by decide +kernel)
        | _ => rfl
      exact ⟨_, rfl, _, rfl, .inr ⟨t, hty, hk, _, rfl, iteT (iteT (no hn H (Same.refl H)))⟩⟩
theorem ok_check_rows {f CB CT : Addr} {fd : FuncData} (F : Fun K "check_rows" "check_rows" s_check_rows f fd) (T : Top K mg) (EB : ErY P w K mg base CB "BadProgram" ["part", "at"] ["part", "at"]) (ET : ErY P w K mg base CT "TooMany" ["what"] ["what"]) : FnOk P w K mg base (L2.CX P w) 3 f fd ["part", "rows", "most"] (spChkR K CB CT) := by
  refine F.okX sc_check_rows (fun vs H Q E h => ?_) (fun cdv A outer s H vs Q E hr h => ?_)
  · obtain ⟨p, x, most, rfl, _⟩ := h
    rfl
  · obtain ⟨p, x, most, rfl, k⟩ := h
    refine ⟨_, (pss_cons (ps_if (pt_not (pt_val (pe_callB call_isi (by rfl) T.z_isinstance (by decide +kernel) (pa_cons (pv 1) (pa_cons (pe_bltn (v := .ty "list") (u := .type "list") (by rfl) T.z_list (by decide +kernel) rfl) pa_nil)))))
(pss_one (ps_raise rfl (takes_of (E := E) rfl rfl rfl rfl) (pmk_ery EB hr (by decide) (by rfl) (pa_cons (pv 0) (pa_cons (pe_un un_neg pe_int) pa_nil)))))
pss_nil)
(pss_one (ps_if (pt_cmpR op_gt (pe_callB call_len_seq (by rfl) T.z_len (by decide +kernel) (pa_cons (pv 1) pa_nil)) (pv 2) (nomark _))
(pss_one (ps_raise rfl (takes_of (E := E) rfl rfl rfl rfl) (pmk_ery ET hr (by decide) (by rfl) (pa_cons pe_str pa_nil))))
pss_nil))), ?_⟩
    rcases k with ⟨l, xs, rfl, hl, ky, kn⟩ | ⟨t, hty, hk, kn⟩
    · refine ⟨_, rfl, _, _, _, _, true, rfl, .ty "list", .base (.lst hl), kit_ty (by decide +kernel), true, rfl, iteF ?_⟩
      refine ⟨_, rfl, l, _, rfl, .inl (SqL.of hl), _, rfl, _, _, rfl, rfl, _, rfl, ?_⟩
      cases h : decide (most < ((xs.length : Nat) : Int)) with
      | true =>
        have h := of_decide_eq_true h
        exact iteT ⟨by show 1 ≤ 1000; decide, fun a na => ery_ok rfl na fun H' d s2 nd xd => kn h H' d s2 nd xd⟩
      | false =>
        have h := of_decide_eq_false h
        exact iteF (ky (by omega))
    · refine ⟨_, rfl, _, _, _, _, false, rfl, .ty "list", hty, kit_ty hk, false, rfl, iteT ?_⟩
      exact ⟨_, rfl, 1, rfl, by show 2 ≤ 1000; decide, fun a na => ery_ok rfl na fun H' d s2 nd xd => kn H' d s2 nd xd⟩
theorem ok_bound_behind {f CB CT : Addr} {fd : FuncData} (F : Fun K "bound_behind" "bound_behind" s_bound_behind f fd) (T : Top K mg) (EB : ErY P w K mg base CB "BadProgram" ["part", "at"] ["part", "at"]) (ET : ErY P w K mg base CT "TooMany" ["what"] ["what"]) (T_is_plain : Cal P w K mg base 5 "is_plain" (spPlain K) []) (T_first_part : Cal P w K mg base 1 "first_part" spFirst []) : FnOk P w K mg base (L2.CX P w) 6 f fd ["part", "rows", "words", "marks"] (spBound K CB) := by
  refine F.okX sc_bound_behind (fun vs H Q E h => ?_) (fun cdv A outer s H vs Q E hr h => ?_)
  · obtain ⟨p, l, b, xs, ws, m, rfl, _⟩ := h
    rfl
  · obtain ⟨p, l, b, xs, ws, m, rfl, hl, hb, hn, hw, hx, ky, kn⟩ := h
    refine ⟨_, (pss_cons (ps_set (i := 4) sc_bound_behind.nd rfl (Or.inl rfl) (pe_callTy call_list_of (by rfl) T.z_list (by decide +kernel) (pa_cons (pv 2) pa_nil)))
(pss_cons (ps_for (passes_of rfl) rfl (pi_enum (by rfl) T.z_enumerate (pa_cons (pv 1) pa_nil)) (pg_tup rfl (pgs_cons (pg_name (i := 5) sc_bound_behind.nd rfl (Or.inl rfl)) (pgs_cons (pg_name (i := 6) sc_bound_behind.nd rfl (Or.inl rfl)) pgs_nil)))
(pss_cons (ps_if (pt_not (pt_val (pe_c T_is_plain hr (by decide) (by rfl) (pa_cons (pv 6) (pa_cons (pv 4) (pa_cons (pv 3) (pa_cons pe_bl pa_nil)))))))
(pss_one (ps_raise rfl (takes_of (E := E) rfl rfl rfl rfl) (pmk_ery EB hr (by decide) (by rfl) (pa_cons (pv 0) (pa_cons (pv 5) pa_nil)))))
pss_nil)
(pss_cons (ps_set (i := 7) sc_bound_behind.nd rfl (Or.inl rfl) (pe_c T_first_part hr (by decide) (by rfl) (pa_cons (pv 6) pa_nil)))
(pss_one (ps_if (pt_cmpR op_notIn_seq (pv 7) (pv 4) rfl)
(pss_one (ps_expr (pe_bm PySem.F.plainAttrs_list PySem.F.slot_list_append PySem.F.type_list_append mt_append (pv 4) (pa_cons (pv 7) pa_nil))))
pss_nil)))))
(pss_one (ps_ret (pv 4))))), ?_⟩
    refine ⟨_, rfl, b, _, rfl, .inl hb, fun q hq => ?_⟩
    have sq := same_new (o := .lst (ws.map V.str)) hq
    dsimp only [gName]
    refine ⟨_, rfl, l, xs, rfl, sq.seq hl, for_it (walk_enum (xs := xs)) (fun i σ H' => ∃ v5 v6 v7 ws', σ = [some (.str p), some (.ref l), some (.ref b), some (.str m), some (.ref q), v5, v6, v7] ∧ H' q = some (.lst (ws'.map V.str)) ∧ Same H H' ∧ bound m (xs.drop i) i ws' = bound m xs 0 ws ∧ ws'.length ≤ ws.length + i)
      ⟨none, none, none, ws, rfl, upd_same, sq, rfl, Nat.le_refl _⟩ (fun _ _ _ _ ⟨_, _, _, _, _, _, s, _⟩ => s.seq hl) ?_ ?_⟩
    · rintro i x σ H1 H1' hi ⟨v5, v6, v7, ws', rfl, hq1, s1, eb, hl1⟩ ⟨T1, x1, x2, rfl, nT, rfl, hx1, hx2⟩
      cases hx1
      have sT := same_new (o := .tup [V.int (i : Nat), x2]) nT
      have s2 := s1.trans sT
      have hq2 := sT _ _ hq1
      have hr2 := hx x2 (List.mem_of_getElem? hx2)
      have ed : xs.drop i = x2 :: xs.drop (i + 1) := by
        obtain ⟨h, e⟩ := List.getElem?_eq_some_iff.mp hx2
        rw [← e]
        exact List.drop_eq_getElem_cons h
      rw [ed] at eb
      have no : bound m (x2 :: xs.drop (i + 1)) i ws' = .inl i → ∀ H2, Same H H2 → tMkO CB (spG CB ["part", "at"]) [] (tCons (tVar 0) (tCons (tVar 5) tNil)) [some (.str p), some (.ref l), some (.ref b), some (.str m), some (.ref q), some (.int (i : Nat)), some x2, v7] H2 (fun cls d H' => E cls d H') := fun e H2 s3 => ⟨_, rfl, _, rfl, by show 2 ≤ 1000; decide, fun a na => ery_ok rfl na fun H' d s4 nd xd => kn i (eb.symm.trans e) H' d (s3.trans s4) (s3.free nd) xd⟩
      refine ⟨T1, _, rfl, SqT.of upd_same, rfl, _, _, rfl, _, _, rfl, rfl, ?_⟩
      refine ⟨_, rfl, _, rfl, _, rfl, x2, q, ws', m, true, rfl, hr2.2 _ s2, SqL.of hq2, fun z ez => ?_, fun hn H2 s3 => ?_⟩
      · subst ez
        have hz : z.length ≤ 1000 := Nat.le_trans (hr2.1 z rfl).1 (by decide)
        refine ⟨hz, fun H2 s3 => ⟨_, rfl, ?_⟩⟩
        have eu : bound m (.str z :: xs.drop (i + 1)) i ws' = if rowB ws' m true z = true then bound m (xs.drop (i + 1)) (i + 1) (if hasS ws' (fst z) = true then ws' else ws' ++ [fst z]) else .inl i := rfl
        cases h1 : rowB ws' m true z with
        | false =>
          rw [h1, if_neg Bool.noConfusion] at eu
          exact iteT (no eu H2 (s2.trans s3))
        | true =>
          rw [h1, if_pos rfl] at eu
          refine iteF ⟨_, rfl, z, rfl, hz, fun H3 s4 => ?_⟩
          have hq4 := s4 _ _ (s3 _ _ hq2)
          have sA := (s2.trans s3).trans s4
          dsimp only [gName]
          refine ⟨_, rfl, _, rfl, q, _, rfl, .inl (SqL.of hq4), rfl, flat_strsW ws', ?_⟩
          show ∃ c, V.bl (!inV (.str (fst z)) (ws'.map V.str)) = .bl c ∧ _
          rw [inV_strs]
          refine ⟨_, rfl, ?_⟩
          cases h2 : hasS ws' (fst z) with
          | true =>
            rw [h2, if_pos rfl] at eu
            exact iteF ⟨_, _, _, ws', rfl, hq4, sA, eu.symm.trans eb, by omega⟩
          | false =>
            rw [h2, if_neg Bool.noConfusion] at eu
            refine iteT ⟨_, rfl, .inl ⟨rfl, _, SqL.of hq4⟩, _, rfl, q, _, _, rfl, rfl, hq4, ?_, ?_⟩
            · rw [List.length_map]
              exact Nat.lt_of_le_of_lt (by omega : ws'.length ≤ 200) (by decide)
            · refine ⟨_, _, _, ws' ++ [fst z], rfl, ?_, same_at hq sA, eu.symm.trans eb, ?_⟩
              · rw [upd_same, List.map_append]
                rfl
              · rw [List.length_append]
                show ws'.length + 1 ≤ _
                omega
      · refine ⟨_, rfl, iteT (no ?_ H2 (s2.trans s3))⟩
        cases x2 with
        | str z => exact absurd rfl (hn z)
        | _ => rfl
    · rintro σ H1 ⟨v5, v6, v7, ws', rfl, hq1, s1, eb, hl1⟩
      rw [List.drop_length] at eb
      exact ⟨_, rfl, ky ws' eb.symm H1 q s1 hq hq1⟩
theorem blocks_small {z : Str} {bs bs' : List Str} (h : ∀ b ∈ bs, SmallS b) (e : blocks z bs = some bs') : bs'.length ≤ bs.length + 1 ∧ ∀ b ∈ bs', SmallS b := by
  have lit : ∀ y : Str, y = ("if" : Str) ∨ y = ("else" : Str) → SmallS y := fun y hy => by
    rcases hy with rfl | rfl <;> exact ⟨by decide, by decide⟩
  have dl : bs.dropLast.length ≤ bs.length := by rw [List.length_dropLast]; exact Nat.sub_le _ _
  have dm : ∀ b ∈ bs.dropLast, SmallS b := fun b hb => h b ((List.dropLast_sublist bs).subset hb)
  unfold blocks at e
  split at e
  · cases e
    refine ⟨by rw [List.length_append]; exact Nat.le_refl _, fun b hb => ?_⟩
    rcases List.mem_append.mp hb with hb | hb
    · exact h b hb
    · exact lit b (.inl (List.mem_singleton.mp hb))
  · split at e
    · split at e
      · cases e
        refine ⟨by rw [List.length_append]; exact Nat.add_le_add_right dl 1, fun b hb => ?_⟩
        rcases List.mem_append.mp hb with hb | hb
        · exact dm b hb
        · exact lit b (.inr (List.mem_singleton.mp hb))
      · cases e
    · split at e
      · split at e
        · cases e
        · cases e
          exact ⟨Nat.le_succ_of_le dl, dm⟩
      · cases e
        exact ⟨Nat.le_succ _, h⟩
theorem ok_check_task {f CB CT : Addr} {fd : FuncData} (F : Fun K "check_task" "check_task" s_check_task f fd) (T : Top K mg) (EB : ErY P w K mg base CB "BadProgram" ["part", "at"] ["part", "at"]) (ET : ErY P w K mg base CT "TooMany" ["what"] ["what"]) (T_is_task_row : Cal P w K mg base 6 "is_task_row" (spTaskRow K) []) (T_blocks_behind : Cal P w K mg base 2 "blocks_behind" spBlocks []) : FnOk P w K mg base (L2.CX P w) 7 f fd ["rows", "words", "marks"] (spChkT K CB) := by
  refine F.okX sc_check_task (fun vs H Q E h => ?_) (fun cdv A outer s H vs Q E hr h => ?_)
  · obtain ⟨l, b, xs, ws, m, rfl, _⟩ := h
    rfl
  · obtain ⟨l, b, xs, ws, m, rfl, hl, hb, hn, hx, ky, kn⟩ := h
    refine ⟨_, (pss_cons (ps_set (i := 3) sc_check_task.nd rfl (Or.inl rfl) (pe_lst pa_nil))
(pss_cons (ps_for (passes_of rfl) rfl (pi_enum (by rfl) T.z_enumerate (pa_cons (pv 0) pa_nil)) (pg_tup rfl (pgs_cons (pg_name (i := 4) sc_check_task.nd rfl (Or.inl rfl)) (pgs_cons (pg_name (i := 5) sc_check_task.nd rfl (Or.inl rfl)) pgs_nil)))
(pss_cons (ps_if (pt_not (pt_val (pe_c T_is_task_row hr (by decide) (by rfl) (pa_cons (pv 5) (pa_cons (pv 1) (pa_cons (pv 2) pa_nil))))))
(pss_one (ps_raise rfl (takes_of (E := E) rfl rfl rfl rfl) (pmk_ery EB hr (by decide) (by rfl) (pa_cons pe_str (pa_cons (pv 4) pa_nil)))))
pss_nil)
(pss_cons (ps_set (i := 3) sc_check_task.nd rfl (Or.inl rfl) (pe_c T_blocks_behind hr (by decide) (by rfl) (pa_cons (pv 5) (pa_cons (pv 3) pa_nil))))
(pss_one (ps_if (pt_cmpR op_isN (pv 3) pe_non (nomark _))
(pss_one (ps_raise rfl (takes_of (E := E) rfl rfl rfl rfl) (pmk_ery EB hr (by decide) (by rfl) (pa_cons pe_str (pa_cons (pv 4) pa_nil)))))
pss_nil)))))
(pss_one (ps_if (pt_cmpR op_gt (pe_callB call_len_seq (by rfl) T.z_len (by decide +kernel) (pa_cons (pv 3) pa_nil)) pe_int (nomark _))
(pss_one (ps_raise rfl (takes_of (E := E) rfl rfl rfl rfl) (pmk_ery EB hr (by decide) (by rfl) (pa_cons pe_str (pa_cons (pe_callB call_len_seq (by rfl) T.z_len (by decide +kernel) (pa_cons (pv 0) pa_nil)) pa_nil)))))
pss_nil)))), ?_⟩
    refine ⟨by decide, fun q hq => ?_⟩
    have sq := same_new (o := .lst []) hq
    dsimp only [gName]
    refine ⟨_, rfl, l, xs, rfl, sq.seq hl, for_it (walk_enum (xs := xs)) (fun i σ H' => ∃ v4 v5 r bs, σ = [some (.ref l), some (.ref b), some (.str m), some (.ref r), v4, v5] ∧ H' r = some (.lst (bs.map V.str)) ∧ Same H H' ∧ taskF ws m (xs.drop i) i bs = taskF ws m xs 0 [] ∧ bs.length ≤ i ∧ ∀ z ∈ bs, SmallS z)
      ⟨none, none, q, [], rfl, upd_same, sq, rfl, Nat.le_refl _, fun _ h => absurd h List.not_mem_nil⟩ (fun _ _ _ _ ⟨_, _, _, _, _, _, s, _⟩ => s.seq hl) ?_ ?_⟩
    · rintro i x σ H1 H1' hi ⟨v4, v5, r, bs, rfl, hq1, s1, eb, hl1, hsm⟩ ⟨T1, x1, x2, rfl, nT, rfl, hx1, hx2⟩
      cases hx1
      have sT := same_new (o := .tup [V.int (i : Nat), x2]) nT
      have s2 := s1.trans sT
      have hq2 := sT _ _ hq1
      have hr2 := hx x2 (List.mem_of_getElem? hx2)
      have ed : xs.drop i = x2 :: xs.drop (i + 1) := by
        obtain ⟨h, e⟩ := List.getElem?_eq_some_iff.mp hx2
        rw [← e]
        exact List.drop_eq_getElem_cons h
      rw [ed] at eb
      have no : taskF ws m (x2 :: xs.drop (i + 1)) i bs = .inl i → ∀ u H2, Same H H2 → tMkO CB (spG CB ["part", "at"]) [] (tCons (tC (.str "task")) (tCons (tVar 4) tNil)) [some (.ref l), some (.ref b), some (.str m), u, some (.int (i : Nat)), some x2] H2 (fun cls d H' => E cls d H') := fun e u H2 s3 => ⟨_, rfl, by show 2 ≤ 1000; decide, fun a na => ery_ok rfl na fun H' d s4 nd xd => kn i (by unfold taskE; rw [← eb, e]) H' d (s3.trans s4) (s3.free nd) xd⟩
      refine ⟨T1, _, rfl, SqT.of upd_same, rfl, _, _, rfl, _, _, rfl, rfl, ?_⟩
      refine ⟨_, rfl, _, rfl, _, rfl, x2, b, ws, m, rfl, hr2.2 _ s2, s2.seq hb, fun z ez => ?_, fun hn H2 s3 => ?_⟩
      · subst ez
        have hzs := hr2.1 z rfl
        have hz : z.length ≤ 1000 := Nat.le_trans hzs.1 (by decide)
        refine ⟨hzs, fun H2 s3 => ⟨_, rfl, ?_⟩⟩
        have eu : taskF ws m (.str z :: xs.drop (i + 1)) i bs = if taskB ws m z = true then (match blocks z bs with | some bs' => taskF ws m (xs.drop (i + 1)) (i + 1) bs' | none => .inl i) else .inl i := rfl
        cases h1 : taskB ws m z with
        | false =>
          rw [h1, if_neg Bool.noConfusion] at eu
          exact iteT (no eu _ H2 (s2.trans s3))
        | true =>
          rw [h1, if_pos rfl] at eu
          refine iteF ⟨_, rfl, _, rfl, z, r, bs, rfl, hz, s3 _ _ hq2, by omega, hsm, fun e H3 s4 => ?_, fun bs' e H3 r' s4 hr' => ?_⟩
          · rw [e] at eu
            dsimp only [gName]
            exact ⟨_, rfl, rfl, true, rfl, iteT (no eu _ H3 ((s2.trans s3).trans s4))⟩
          · rw [e] at eu
            dsimp only [gName]
            obtain ⟨b1, b2⟩ := blocks_small hsm e
            exact ⟨_, rfl, rfl, false, rfl, iteF ⟨_, _, r', bs', rfl, hr', (s2.trans s3).trans s4, eu.symm.trans eb, by omega, b2⟩⟩
      · refine ⟨_, rfl, iteT (no ?_ _ H2 (s2.trans s3))⟩
        cases x2 with
        | str z => exact absurd rfl (hn z)
        | _ => rfl
    · rintro σ H1 ⟨v4, v5, r, bs, rfl, hq1, s1, eb, hl1, hsm⟩
      rw [List.drop_length] at eb
      refine ⟨_, rfl, r, _, rfl, .inl (SqL.of hq1), _, _, rfl, rfl, _, rfl, ?_⟩
      rw [List.length_map]
      have et : taskE ws m xs = if bs = [] then none else some xs.length := by
        unfold taskE
        rw [← eb]
        rfl
      by_cases h : bs = []
      · subst h
        rw [if_pos rfl] at et
        exact iteF (ky et H1 s1)
      · rw [if_neg h] at et
        have h5 : 0 < bs.length := List.length_pos_iff.mpr h
        rw [decide_eq_true (show (0 : Int) < ((bs.length : Nat) : Int) by omega)]
        exact iteT ⟨_, rfl, l, xs, rfl, .inl (s1.seq hl), by show 2 ≤ 1000; decide, fun a na => ery_ok rfl na fun H' d s4 nd xd => kn _ et H' d (s1.trans s4) (s1.free nd) xd⟩
end
end W29

set_option Elab.async false
set_option linter.all false
set_option maxRecDepth 100000
set_option maxHeartbeats 4000000
namespace W29
open PySem L2 WB
open C8 (pe_c pe_mk pe_mt pe_mt0 Cal Mak Met)
section
variable {P : Program} {w : World} {K : PySem.W.Frag} {mg : Str → Option Value} {base : Heap}
theorem ok_init {f C CB CT : Addr} {fd : FuncData} (F : Fun K "__init__" "Program.__init__" s_Program__init f fd) (T : Top K mg) (B : FldC K C ["marks", "module", "caller", "task", "shared", "own"]) (EB : ErY P w K mg base CB "BadProgram" ["part", "at"] ["part", "at"]) (ET : ErY P w K mg base CT "TooMany" ["what"] ["what"])
    (T_check_marks : CalX P w K mg base 3 "check_marks" (spChkM K CB)) (T_check_rows : CalX P w K mg base 3 "check_rows" (spChkR K CB CT)) (T_bound_behind : CalX P w K mg base 6 "bound_behind" (spBound K CB)) (T_check_task : CalX P w K mg base 7 "check_task" (spChkT K CB)) :
    FnOk P w K mg base (L2.CX P w) 8 f fd ["self", "marks", "module", "caller", "task"] (spInitP K C CB CT) := by
  refine F.okX sc_Program__init (fun vs H Q E h => ?_) (fun cdv A outer s H vs Q E hr h => ?_)
  · obtain ⟨a, dx, x, ya, yb, yc, oa, ob, oc, rfl, _⟩ := h
    rfl
  · obtain ⟨a, dx, x, ya, yb, yc, oa, ob, oc, rfl, ha, hx, hlen, hA, hB, hC, kn, ky⟩ := h
    refine ⟨_, (pss_cons (ps_expr (pe_cX T_check_marks (E := E) (takes_of rfl rfl rfl rfl) hr (by decide) (by rfl) (pa_cons (pv 1) pa_nil)))
(pss_cons (ps_expr (pe_cX T_check_rows (E := E) (takes_of rfl rfl rfl rfl) hr (by decide) (by rfl) (pa_cons pe_str (pa_cons (pv 2) (pa_cons (C8.pe_gc (by rfl) T.g_MOST_PLAIN_ROWS) pa_nil)))))
(pss_cons (ps_set (i := 5) sc_Program__init.nd rfl (Or.inr rfl) (pe_cX T_bound_behind (E := E) (takes_of rfl rfl rfl rfl) hr (by decide) (by rfl) (pa_cons pe_str (pa_cons (pv 2) (pa_cons (pe_lst pa_nil) (pa_cons (pv 1) pa_nil))))))
(pss_cons (ps_if (pt_cmpR op_gt (pe_callB call_len_seq (by rfl) T.z_len (by decide +kernel) (pa_cons (pv 5) pa_nil)) (C8.pe_gc (by rfl) T.g_MOST_GLOBALS) (nomark _))
(pss_one (ps_raise rfl (takes_of (E := E) rfl rfl rfl rfl) (pmk_ery ET hr (by decide) (by rfl) (pa_cons pe_str pa_nil))))
pss_nil)
(pss_cons (ps_expr (pe_cX T_check_rows (E := E) (takes_of rfl rfl rfl rfl) hr (by decide) (by rfl) (pa_cons pe_str (pa_cons (pv 3) (pa_cons (C8.pe_gc (by rfl) T.g_MOST_PLAIN_ROWS) pa_nil)))))
(pss_cons (ps_set (i := 6) sc_Program__init.nd rfl (Or.inl rfl) (pe_cX T_bound_behind (E := E) (takes_of rfl rfl rfl rfl) hr (by decide) (by rfl) (pa_cons pe_str (pa_cons (pv 3) (pa_cons (pv 5) (pa_cons (pv 1) pa_nil))))))
(pss_cons (ps_setLc (i := 7) (own := [("name", 8)]) rfl sc_Program__init.nd rfl rfl (sw_true rfl rfl rfl (by decide +kernel)) (pi_list (pv 6)) (blkOk_by (own := [("name", 8)]) (N := n_Program__init) (sc := defScope s_Program__init) (by decide +kernel)) (fun _ _ _ _ _ => (pg_name (i := 8) sc_Program__init.nd rfl (Or.inl rfl))) (fun _ _ _ _ _ => (pts_one (show PT _ _ (tTest (tOp (rIn K true) (tVar 8) (tVar 5))) from (pt_cmpR op_notIn_seq (pv 8) (pv 5) rfl)))) (fun _ _ _ _ _ => (pv 8)))
(pss_cons (ps_if (PW.pt (pw_or (pt_cmpR op_gt (pe_callB call_len_seq (by rfl) T.z_len (by decide +kernel) (pa_cons (pv 7) pa_nil)) (C8.pe_gc (by rfl) T.g_MOST_OWN_NAMES) (nomark _)) (pw_or1 (pt_cmpR op_gt (pe_callB call_len_seq (by rfl) T.z_len (by decide +kernel) (pa_cons (pv 6) pa_nil)) (C8.pe_gc (by rfl) T.g_MOST_NAMES) (nomark _)))))
(pss_one (ps_raise rfl (takes_of (E := E) rfl rfl rfl rfl) (pmk_ery ET hr (by decide) (by rfl) (pa_cons pe_str pa_nil))))
pss_nil)
(pss_cons (ps_expr (pe_cX T_check_rows (E := E) (takes_of rfl rfl rfl rfl) hr (by decide) (by rfl) (pa_cons pe_str (pa_cons (pv 4) (pa_cons (C8.pe_gc (by rfl) T.g_MOST_TASK_ROWS) pa_nil)))))
(pss_cons (ps_expr (pe_cX T_check_task (E := E) (takes_of rfl rfl rfl rfl) hr (by decide) (by rfl) (pa_cons (pv 4) (pa_cons (pe_lst (StX.pa_star (pv 5) (pa_cons pe_str (pa_cons pe_str pa_nil)))) (pa_cons (pv 1) pa_nil)))))
(pss_cons (ps_fld (pv 0) (pv 1) rfl)
(pss_cons (ps_fld (pv 0) (pe_callTy call_tuple_of (by rfl) T.z_tuple (by decide +kernel) (pa_cons (pv 2) pa_nil)) rfl)
(pss_cons (ps_fld (pv 0) (pe_callTy call_tuple_of (by rfl) T.z_tuple (by decide +kernel) (pa_cons (pv 3) pa_nil)) rfl)
(pss_cons (ps_fld (pv 0) (pe_callTy call_tuple_of (by rfl) T.z_tuple (by decide +kernel) (pa_cons (pv 4) pa_nil)) rfl)
(pss_cons (ps_fld (pv 0) (pe_callTy call_tuple_of (by rfl) T.z_tuple (by decide +kernel) (pa_cons (pv 5) pa_nil)) rfl)
(pss_one (ps_fld (pv 0) (pe_callTy call_tuple_of (by rfl) T.z_tuple (by decide +kernel) (pa_cons (pv 7) pa_nil)) rfl))))))))))))))))), ?_⟩
    refine ⟨_, rfl, x, rfl, hx, hlen, fun hm H1 s1 => ?_, fun hm H1 d s1 nd xd => kn (.bad "marks" (-1)) (if_neg (by rw [hm]; exact Bool.noConfusion)) H1 d s1 nd xd⟩
    obtain ⟨z, rfl⟩ : ∃ z, x = .str z := by
      cases x with
      | str z => exact ⟨z, rfl⟩
      | _ => cases hm
    have pe : progE (.str z) oa ob oc = pM z oa ob oc := if_pos hm
    rw [pe] at kn ky
    refine ⟨_, rfl, _, _, 6, rfl, chkR (n := 6) rfl (hA.same s1) (fun e he H' d s nd xd => kn e (by show (argE "module" 6 oa).bind _ = _; rw [he]; rfl) H' d (s1.trans s) (s1.free nd) xd) (fun xs l1 ho hn6 hy hl1 hxl hxr => ?_)⟩
    subst ho
    subst hy
    have pe2 : pM z (some xs) ob oc = (boundE "module" z [] xs).bind fun ws => if 3 < ws.length then .error (.many "globals") else pC z xs ws ob oc := by
      unfold pM
      rw [argE_ok hn6]
      rfl
    rw [pe2] at kn ky
    refine ⟨_, rfl, by decide, fun q hq => ⟨_, rfl, _, l1, q, xs, [], z, rfl, SqL.of ((same_new hq) _ _ hl1), SqL.of upd_same, hxl, by decide, fun y hy => (hxr y hy).same (same_new hq), fun ws hw H2 l5 s2 n5 h5 => ?_, fun i hi H2 d s2 nd xd => ?_⟩⟩
    rotate_left
    · have s12 := s1.trans (same_new (o := .lst []) hq)
      refine kn (.bad "module" (i : Nat)) ?_ H2 d (s12.trans s2) (s12.free nd) xd
      unfold boundE
      rw [hi]
      rfl
    have s02 : Same H H2 := (s1.trans (same_new hq)).trans s2
    have ew : boundE "module" z [] xs = .ok ws := by
      unfold boundE
      rw [hw]
    have wl : ws.length ≤ 106 := by
      have h := bound_len hw
      have h2 : ([] : List Str).length = 0 := rfl
      omega
    rw [ew] at kn ky
    have bb : ∀ (F : List Str → Except Er Prog), (Except.ok ws : Except Er (List Str)).bind F = F ws := fun _ => rfl
    rw [bb] at kn ky
    dsimp only [gName]
    refine ⟨_, rfl, l5, _, rfl, .inl (SqL.of h5), _, _, rfl, rfl, _, rfl, ?_⟩
    rw [List.length_map]
    cases hc3 : decide ((3 : Int) < ((ws.length : Nat) : Int)) with
    | true =>
      have hc3 := of_decide_eq_true hc3
      exact iteT ⟨by show 1 ≤ 1000; decide, fun a na => ery_ok rfl na fun H' d s2 nd xd => kn (.many "globals") (if_pos (by omega)) H' d (s02.trans s2) (s02.free nd) xd⟩
    | false =>
    have hc3 := of_decide_eq_false hc3
    rw [if_neg (show ¬ 3 < ws.length by omega)] at kn ky
    refine iteF ⟨_, rfl, _, _, 6, rfl, chkR (n := 6) rfl (hB.same s02) (fun e he H' d s nd xd => kn e (by show (argE "caller" 6 ob).bind _ = _; rw [he]; rfl) H' d (s02.trans s) (s02.free nd) xd) (fun ys l2 ho hn7 hy hl2 hyl hyr => ?_)⟩
    subst ho
    subst hy
    have pe3 : pC z xs ws (some ys) oc = (boundE "caller" z ws ys).bind fun w2 => if (decide (2 < (owns ws w2).length) || decide (4 < w2.length)) = true then .error (.many "names") else pT z xs ys ws (owns ws w2) oc := by
      unfold pC
      rw [argE_ok hn7]
      rfl
    rw [pe3] at kn ky
    refine ⟨_, rfl, _, rfl, _, rfl, _, l2, l5, ys, ws, z, rfl, SqL.of hl2, SqL.of h5, hyl, by omega, hyr, fun w2 hw2 H3 l6 s3 n6 h6 => ?_, fun i hi H3 d s3 nd xd => ?_⟩
    rotate_left
    · refine kn (.bad "caller" (i : Nat)) ?_ H3 d (s02.trans s3) (s02.free nd) xd
      unfold boundE
      rw [hi]
      rfl
    have s03 := s02.trans s3
    have ew2 : boundE "caller" z ws ys = .ok w2 := by
      unfold boundE
      rw [hw2]
    have w2l := bound_len hw2
    rw [ew2] at kn ky
    have bb2 : ∀ (F : List Str → Except Er Prog), (Except.ok w2 : Except Er (List Str)).bind F = F w2 := fun _ => rfl
    rw [bb2] at kn ky
    dsimp only [gName]
    have h5a := s3 _ _ h5
    refine ⟨_, rfl, l6, rfl, ⟨_, SqL.of h6⟩, fun l7 n7 => lc_it (walk_list (xs := w2.map V.str)) (fun j H' => H' = upd H3 l7 (.lst ((owns ws (w2.take j)).map V.str))) rfl (fun _ _ _ h => by rw [h]; exact SqL.of (same_new n7 _ _ h6)) ?_ ?_⟩
    · rintro j y H4 H4' hj rfl ⟨rfl, hy⟩
      obtain ⟨c, hc, rfl⟩ := map_from hy
      refine ⟨rfl, _, rfl, _, rfl, l5, _, rfl, .inl (SqL.of (same_new n7 _ _ h5a)), rfl, flat_strsW ws, ?_⟩
      show ∃ k, V.bl (!inV (.str c) (ws.map V.str)) = .bl k ∧ _
      rw [inV_strs]
      refine ⟨_, rfl, ?_⟩
      cases hs : hasS ws c with
      | true =>
        refine iteF ?_
        show upd H3 l7 _ = upd H3 l7 _
        rw [owns_step hc, hs, if_pos rfl, List.append_nil]
      | false =>
        refine iteT ⟨_, rfl, _, upd_same, ?_, ?_⟩
        · rw [List.length_map]
          exact Nat.lt_of_le_of_lt owns_len (Nat.lt_of_le_of_lt (List.length_take_le' _ _) (Nat.lt_of_le_of_lt (by omega : w2.length ≤ 206) (by decide)))
        · rw [upd_upd, owns_step hc, hs, if_neg Bool.noConfusion, List.map_append]
          rfl
    rintro H4 rfl
    rw [List.take_of_length_le (show w2.length ≤ (w2.map V.str).length by rw [List.length_map]; exact Nat.le_refl _)]
    have s4 := same_new (o := .lst ((owns ws w2).map V.str)) n7
    have s04 := s03.trans s4
    have h5b := s4 _ _ h5a
    have h6b := s4 _ _ h6
    have h7 : (upd H3 l7 (.lst ((owns ws w2).map V.str))) l7 = some (.lst ((owns ws w2).map V.str)) := upd_same
    generalize (upd H3 l7 (.lst ((owns ws w2).map V.str))) = H4 at *
    dsimp only [gName]
    refine ⟨_, rfl, l7, _, rfl, .inl (SqL.of h7), _, _, rfl, rfl, _, rfl, ?_⟩
    rw [List.length_map]
    have no : (decide (2 < (owns ws w2).length) || decide (4 < w2.length)) = true → ∀ σ, tMkO CT (spG CT ["what"]) [] (tCons (tC (.str "names")) tNil) σ H4 (fun cls d H' => E cls d H') := fun e σ => ⟨by show 1 ≤ 1000; decide, fun a na => ery_ok rfl na fun H' d s2 nd xd => kn (.many "names") (if_pos e) H' d (s04.trans s2) (s04.free nd) xd⟩
    cases hc1 : decide ((2 : Int) < (((owns ws w2).length : Nat) : Int)) with
    | true =>
      have hc1 := of_decide_eq_true hc1
      exact iteT (iteT (no (by rw [decide_eq_true (show 2 < (owns ws w2).length by omega)]; rfl) _))
    | false =>
    have hc1 := of_decide_eq_false hc1
    refine iteF ⟨_, rfl, l6, _, rfl, .inl (SqL.of h6b), _, _, rfl, rfl, _, rfl, ?_⟩
    rw [List.length_map]
    cases hc2 : decide ((4 : Int) < ((w2.length : Nat) : Int)) with
    | true =>
      have hc2 := of_decide_eq_true hc2
      exact iteT (no (by rw [decide_eq_true (show 4 < w2.length by omega), Bool.or_true]) _)
    | false =>
    have hc2 := of_decide_eq_false hc2
    rw [decide_eq_false (show ¬ 2 < (owns ws w2).length by omega), decide_eq_false (show ¬ 4 < w2.length by omega), if_neg (show ¬ (false || false) = true from Bool.noConfusion)] at kn ky
    refine iteF ⟨_, rfl, _, _, 16, rfl, chkR (n := 16) rfl (hC.same s04) (fun e he H' d s nd xd => kn e (by show (argE "task" 16 oc).bind _ = _; rw [he]; rfl) H' d (s04.trans s) (s04.free nd) xd) (fun zs l3 ho hn8 hy hl3 hzl hzr => ?_)⟩
    subst ho
    subst hy
    have pe4 : pT z xs ys ws (owns ws w2) (some zs) = (match taskE (ws ++ [("item" : Str), ("out" : Str)]) z zs with | some i => .error (.bad "task" (i : Nat)) | none => .ok ⟨z, xs, ys, zs, ws, owns ws w2⟩) := by
      unfold pT
      rw [argE_ok hn8]
      rfl
    rw [pe4] at kn ky
    refine ⟨_, rfl, _, rfl, l5, _, rfl, .inr (SqL.of h5b), ?_, fun l8 n8 => ⟨_, rfl, l3, l8, zs, ws ++ [("item" : Str), ("out" : Str)], z, rfl, SqL.of (same_new n8 _ _ hl3), SqL.of ?_, hzl, fun y hy => (hzr y hy).same (same_new n8), fun ht H5 s5 => ?_, fun i hi H5 d s5 nd xd => ?_⟩⟩
    · rw [List.length_append, List.length_map]
      exact Nat.le_trans (Nat.add_le_add_right wl 2) (by decide)
    · rw [upd_same, List.map_append]
      rfl
    rotate_left
    · have s48 := s04.trans (same_new (o := .lst (ws.map V.str ++ [V.str "item", V.str "out"])) n8)
      refine kn (.bad "task" (i : Nat)) ?_ H5 d (s48.trans s5) (s48.free nd) xd
      rw [hi]
    rw [ht] at ky
    have s45 := (same_new (o := .lst (ws.map V.str ++ [V.str "item", V.str "out"])) n8).trans s5
    have s05 := s04.trans s45
    have g1 : H5 l1 = some (.lst xs) := s45 _ _ (s4 _ _ (s3 _ _ (s2 _ _ ((same_new hq) _ _ hl1))))
    have g2 : H5 l2 = some (.lst ys) := s45 _ _ (s4 _ _ (s3 _ _ hl2))
    have g3 : H5 l3 = some (.lst zs) := s45 _ _ hl3
    have g5 := s45 _ _ h5b
    have g7 := s45 _ _ h7
    have ga := s05 _ _ ha
    have apart : ∀ {b : Addr} {vs : List V}, H5 b = some (.lst vs) → b ≠ a := fun {b vs} h e => by
      rw [e, ga] at h
      cases h
    clear kn
    refine ⟨_, rfl, _, rfl, a, C, dx, [], rfl, ga, B.cl, B.no _ (by simp), by decide, ?_⟩
    have b0 : Bar a H5 (upd H5 a (.ins C dx (putF "marks" (.str z) []))) := bar_upd
    have a0 : (upd H5 a (.ins C dx (putF "marks" (.str z) []))) a = some (.ins C dx [("marks", .str z)]) := upd_same
    generalize (upd H5 a (.ins C dx (putF "marks" (.str z) []))) = G0 at *
    refine ⟨_, rfl, l1, _, rfl, .inl ⟨SqL.of (b0 _ _ (apart g1) g1), fun t1 m1 => ⟨_, rfl, a, C, dx, _, rfl, same_new m1 _ _ a0, B.cl, B.no _ (by simp), by show 1 < 1000; decide, ?_⟩⟩⟩
    obtain ⟨ne1, c1, e1_1⟩ := tstep (o1 := .tup (xs)) (o2 := .ins C dx (putF "module" (.ref t1) [("marks", .str z)])) a0 m1
    have a1 : (upd (upd G0 t1 (.tup (xs))) a (.ins C dx (putF "module" (.ref t1) [("marks", .str z)]))) a = some (.ins C dx [("marks", .str z), ("module", .ref t1)]) := upd_same
    have b1 := b0.trans c1
    generalize (upd (upd G0 t1 (.tup (xs))) a (.ins C dx (putF "module" (.ref t1) [("marks", .str z)]))) = G1 at *
    refine ⟨_, rfl, l2, _, rfl, .inl ⟨SqL.of (b1 _ _ (apart g2) g2), fun t2 m2 => ⟨_, rfl, a, C, dx, _, rfl, same_new m2 _ _ a1, B.cl, B.no _ (by simp), by show 2 < 1000; decide, ?_⟩⟩⟩
    obtain ⟨ne2, c2, e2_2⟩ := tstep (o1 := .tup (ys)) (o2 := .ins C dx (putF "caller" (.ref t2) [("marks", .str z), ("module", .ref t1)])) a1 m2
    have e1_2 := c2 _ _ ne1 e1_1
    have a2 : (upd (upd G1 t2 (.tup (ys))) a (.ins C dx (putF "caller" (.ref t2) [("marks", .str z), ("module", .ref t1)]))) a = some (.ins C dx [("marks", .str z), ("module", .ref t1), ("caller", .ref t2)]) := upd_same
    have b2 := b1.trans c2
    generalize (upd (upd G1 t2 (.tup (ys))) a (.ins C dx (putF "caller" (.ref t2) [("marks", .str z), ("module", .ref t1)]))) = G2 at *
    refine ⟨_, rfl, l3, _, rfl, .inl ⟨SqL.of (b2 _ _ (apart g3) g3), fun t3 m3 => ⟨_, rfl, a, C, dx, _, rfl, same_new m3 _ _ a2, B.cl, B.no _ (by simp), by show 3 < 1000; decide, ?_⟩⟩⟩
    obtain ⟨ne3, c3, e3_3⟩ := tstep (o1 := .tup (zs)) (o2 := .ins C dx (putF "task" (.ref t3) [("marks", .str z), ("module", .ref t1), ("caller", .ref t2)])) a2 m3
    have e1_3 := c3 _ _ ne1 e1_2
    have e2_3 := c3 _ _ ne2 e2_2
    have a3 : (upd (upd G2 t3 (.tup (zs))) a (.ins C dx (putF "task" (.ref t3) [("marks", .str z), ("module", .ref t1), ("caller", .ref t2)]))) a = some (.ins C dx [("marks", .str z), ("module", .ref t1), ("caller", .ref t2), ("task", .ref t3)]) := upd_same
    have b3 := b2.trans c3
    generalize (upd (upd G2 t3 (.tup (zs))) a (.ins C dx (putF "task" (.ref t3) [("marks", .str z), ("module", .ref t1), ("caller", .ref t2)]))) = G3 at *
    refine ⟨_, rfl, l5, _, rfl, .inl ⟨SqL.of (b3 _ _ (apart g5) g5), fun t4 m4 => ⟨_, rfl, a, C, dx, _, rfl, same_new m4 _ _ a3, B.cl, B.no _ (by simp), by show 4 < 1000; decide, ?_⟩⟩⟩
    obtain ⟨ne4, c4, e4_4⟩ := tstep (o1 := .tup (ws.map V.str)) (o2 := .ins C dx (putF "shared" (.ref t4) [("marks", .str z), ("module", .ref t1), ("caller", .ref t2), ("task", .ref t3)])) a3 m4
    have e1_4 := c4 _ _ ne1 e1_3
    have e2_4 := c4 _ _ ne2 e2_3
    have e3_4 := c4 _ _ ne3 e3_3
    have a4 : (upd (upd G3 t4 (.tup (ws.map V.str))) a (.ins C dx (putF "shared" (.ref t4) [("marks", .str z), ("module", .ref t1), ("caller", .ref t2), ("task", .ref t3)]))) a = some (.ins C dx [("marks", .str z), ("module", .ref t1), ("caller", .ref t2), ("task", .ref t3), ("shared", .ref t4)]) := upd_same
    have b4 := b3.trans c4
    generalize (upd (upd G3 t4 (.tup (ws.map V.str))) a (.ins C dx (putF "shared" (.ref t4) [("marks", .str z), ("module", .ref t1), ("caller", .ref t2), ("task", .ref t3)]))) = G4 at *
    refine ⟨_, rfl, l7, _, rfl, .inl ⟨SqL.of (b4 _ _ (apart g7) g7), fun t5 m5 => ⟨_, rfl, a, C, dx, _, rfl, same_new m5 _ _ a4, B.cl, B.no _ (by simp), by show 5 < 1000; decide, ?_⟩⟩⟩
    obtain ⟨ne5, c5, e5_5⟩ := tstep (o1 := .tup ((owns ws w2).map V.str)) (o2 := .ins C dx (putF "own" (.ref t5) [("marks", .str z), ("module", .ref t1), ("caller", .ref t2), ("task", .ref t3), ("shared", .ref t4)])) a4 m5
    have e1_5 := c5 _ _ ne1 e1_4
    have e2_5 := c5 _ _ ne2 e2_4
    have e3_5 := c5 _ _ ne3 e3_4
    have e4_5 := c5 _ _ ne4 e4_4
    have a5 : (upd (upd G4 t5 (.tup ((owns ws w2).map V.str))) a (.ins C dx (putF "own" (.ref t5) [("marks", .str z), ("module", .ref t1), ("caller", .ref t2), ("task", .ref t3), ("shared", .ref t4)]))) a = some (.ins C dx [("marks", .str z), ("module", .ref t1), ("caller", .ref t2), ("task", .ref t3), ("shared", .ref t4), ("own", .ref t5)]) := upd_same
    have b5 := b4.trans c5
    generalize (upd (upd G4 t5 (.tup ((owns ws w2).map V.str))) a (.ins C dx (putF "own" (.ref t5) [("marks", .str z), ("module", .ref t1), ("caller", .ref t2), ("task", .ref t3), ("shared", .ref t4)]))) = G5 at *
    exact ky _ rfl _ ((bar_of s05).trans b5) ⟨dx, t1, t2, t3, t4, t5, a5, e1_5, e2_5, e3_5, e4_5, e5_5⟩
end
end W29

set_option Elab.async false
set_option linter.all false
set_option maxRecDepth 100000
set_option maxHeartbeats 4000000
namespace W29
open PySem L2 WB
open C8 (pe_c pe_mk pe_mt pe_mt0 Cal Mak Met)
section
variable {P : Program} {w : World} {K : PySem.W.Frag} {mg : Str → Option Value} {base : Heap}
theorem ok_numbers {f : Addr} {fd : FuncData} (F : Fun K "_law_numbers" "_law_numbers" s_numbers f fd) (T : Top K mg) : FnOk P w K mg base CX0 1 f fd ["_law_script", "_law_at"] (spNums K) := by
  refine F.ok sc_numbers (fun vs H Q E h => ?_) (fun cdv A outer s H vs Q E hr h => ?_)
  · obtain ⟨a, ns, j, rfl, _⟩ := h
    rfl
  · obtain ⟨a, ns, j, rfl, hS, hlen, hj, k⟩ := h
    refine ⟨_, (pss_cons (ps_set (i := 2) sc_numbers.nd rfl (Or.inl rfl) (pe_op op_cat (pe_lc (own := [("_law_cell", 3)]) rfl sc_numbers.nd (pi_list (pe_slice sl_list (pv 0) po_none (po_some pe_int))) (blkOk_by (own := [("_law_cell", 3)]) (N := n_numbers) (sc := defScope s_numbers) (by decide +kernel)) (fun _ _ _ _ _ => (pg_name (i := 3) sc_numbers.nd rfl (Or.inl rfl))) (fun _ _ _ _ _ => pts_nil) (fun _ _ _ _ _ => (pe_callTy call_int1 (by rfl) T.z_int (by decide +kernel) (pa_cons (pv 3) pa_nil)))) (pe_op op_rep (pe_lst (pa_cons pe_int pa_nil)) (pe_callTy call_int1 (by rfl) T.z_int (by decide +kernel) (pa_cons (pe_cmpR op_eq (pe_callB call_len_seq (by rfl) T.z_len (by decide +kernel) (pa_cons (pv 0) pa_nil)) pe_int (nomark _)) pa_nil)))))
(pss_cons (ps_set (i := 3) sc_numbers.nd rfl (Or.inl rfl) (pe_ix ix_list (pv 2) (pe_op op_mod (pe_callTy call_int1 (by rfl) T.z_int (by decide +kernel) (pa_cons (pv 1) pa_nil)) (pe_callB call_len_seq (by rfl) T.z_len (by decide +kernel) (pa_cons (pv 2) pa_nil))) (fun _ _ => rfl)))
(pss_one (ps_ret (pe_lst (pa_cons (pe_ifExp (pt_cmpR op_ge (pv 3) (pe_op op_pow pe_int pe_int) (nomark _)) (pv 3) pe_int) (pa_cons (pe_op op_add pe_int (pe_op op_mul pe_int (pv 1))) (pa_cons (pe_op op_mul pe_int (pv 1)) (pa_cons (pv 2) pa_nil))))))))), ?_⟩
    refine ⟨_, rfl, _, rfl, a, _, rfl, hS, fun l1 n1 => ?_⟩
    have e63 : cutV (ns.map V.int) none (some 63) = (ns.take 63).map V.int := (cut_to _ 63).trans (List.map_take ..).symm
    rw [e63]
    have e64 : ns.take 63 = ns := List.take_of_length_le hlen
    rw [e64]
    have s1 := same_new (o := .lst (ns.map V.int)) n1
    have h1 : (upd H l1 (.lst (ns.map V.int))) l1 = some (.lst (ns.map V.int)) := upd_same
    generalize (upd H l1 (.lst (ns.map V.int))) = H1 at *
    refine ⟨l1, rfl, ⟨_, SqL.of h1⟩, fun D hD => lc_it (walk_list (xs := ns.map V.int)) (fun i H' => H' = upd H1 D (.lst ((ns.take i).map V.int))) rfl (fun _ _ _ h => by rw [h]; exact SqL.of (same_new hD _ _ h1)) ?_ ?_⟩
    · rintro i x H2 H2' hi rfl ⟨rfl, hx⟩
      obtain ⟨c, hc, rfl⟩ := map_from hx
      refine ⟨rfl, lc_yes ⟨_, rfl, .inl ⟨_, rfl, _, upd_same, ?_, ?_⟩⟩⟩
      · rw [List.length_map, List.length_take]
        exact Nat.lt_of_le_of_lt (Nat.min_le_right _ _) (Nat.lt_of_le_of_lt hlen (by decide))
      · rw [upd_upd, List.take_succ, hc, List.map_append]
        rfl
    rintro H2 rfl
    rw [List.take_of_length_le (show ns.length ≤ (ns.map V.int).length by rw [List.length_map]; exact Nat.le_refl _)]
    have s2 := s1.trans (same_new (o := .lst (ns.map V.int)) hD)
    have h2 : (upd H1 D (.lst (ns.map V.int))) D = some (.lst (ns.map V.int)) := upd_same
    generalize (upd H1 D (.lst (ns.map V.int))) = H2 at *
    refine ⟨by show 1 ≤ sizeLine; decide, fun b hb => ?_⟩
    have s3 := s2.trans (same_new (o := .lst [V.int 0]) hb)
    have h3 := same_new (o := .lst [V.int 0]) hb _ _ h2
    refine ⟨_, rfl, a, _, rfl, .inl (s3.seq hS), rfl, .inr ⟨_, rfl, b, _, _, rfl, rfl, upd_same, ?_, ?_, ?_, fun r hr' => ?_⟩⟩
    · split <;> decide
    · split <;> decide
    · split <;> decide
    refine ⟨D, r, _, _, rfl, rfl, same_new hr' _ _ h3, upd_same, ?_, fun cl hcl => ?_⟩
    · rw [List.length_map]
      refine Nat.le_trans (Nat.add_le_add hlen (show _ ≤ 1 from ?_)) (by decide)
      split <;> decide
    obtain ⟨cs, ecs, c0, c64⟩ : ∃ cs : List Int, ns.map V.int ++ (List.replicate (if decide (V.int (((ns.map V.int).length : Nat) : Int) = V.int 0) = true then (1 : Int) else 0).toNat [V.int 0]).flatten = cs.map V.int ∧ 0 < cs.length ∧ cs.length ≤ 64 := by
      by_cases hn : ns = []
      · subst hn
        exact ⟨[0], rfl, by decide, by decide⟩
      · have hl0 : 0 < ns.length := List.length_pos_iff.mpr hn
        refine ⟨ns, ?_, hl0, by omega⟩
        rw [decide_eq_false (fun q => by injection q with q; rw [List.length_map] at q; omega)]
        exact List.append_nil _
    rw [ecs]
    dsimp only [gName]
    have h5 : ∀ {G : Hp}, (upd G cl (.lst (cs.map V.int))) cl = some (.lst (cs.map V.int)) := upd_same
    have h0 : 0 ≤ ((j : Int)) % ((cs.map V.int).length : Int) := Int.emod_nonneg _ (by rw [List.length_map]; omega)
    have hlt : ((j : Int)) % ((cs.map V.int).length : Int) < ((cs.map V.int).length : Int) := Int.emod_lt_of_pos _ (by rw [List.length_map]; omega)
    obtain ⟨i, hi⟩ := Int.eq_ofNat_of_zero_le h0
    have hi2 : i < cs.length := by
      rw [hi, List.length_map] at hlt
      omega
    refine ⟨_, rfl, _, rfl, .inl ⟨_, rfl, _, rfl, cl, _, rfl, .inl (SqL.of h5), _, _, rfl, rfl, (by rw [List.length_map]; omega), cl, _, _, _, rfl, rfl, SqL.of h5, (by rw [hi]; exact atI_nat (ints_at hi2)), ?_⟩⟩
    dsimp only [gName]
    refine ⟨_, rfl, _, _, rfl, rfl, ⟨by decide, by decide, by decide⟩, _, _, rfl, rfl, _, rfl, ?_⟩
    refine ite_val (C := fun v H' => ∃ c : Int, v = .int c ∧ H' = _) (fun _ Q' q => ⟨_, rfl, q _ _ ⟨_, rfl, rfl⟩⟩) (fun _ Q' q => q _ _ ⟨0, rfl, rfl⟩) ?_
    rintro v H6 ⟨c2, rfl, rfl⟩
    refine ⟨_, rfl, _, _, rfl, rfl, .inl ⟨by decide, by decide⟩, _, _, rfl, rfl, _, rfl, _, _, rfl, rfl, .inl ⟨by decide, by decide⟩, _, rfl, by show 4 ≤ sizeLine; decide, fun p hp => ?_⟩
    have s5 := (s3.trans (same_new hr')).trans (same_new (o := .lst (cs.map V.int)) hcl)
    have ncl : H cl = none := (s3.trans (same_new hr')).free hcl
    have np : cl ≠ p := ne_of_none h5 hp
    refine k _ p cl (s5.trans (same_new hp)) (s5.free hp) ncl ⟨c2, _, _, cs, upd_same, (upd_ne np).trans h5, c0, c64, ?_, ?_, ?_, ?_⟩ <;> omega
theorem ok_draw {f : Addr} {fd : FuncData} (F : Fun K "_law_draw" "_law_draw" s_draw f fd) (T : Top K mg) : FnOk P w K mg base CX0 1 f fd ["_law_stream", "_law_many"] spDraw := by
  refine F.ok sc_draw (fun vs H Q E h => ?_) (fun cdv A outer s H vs Q E hr h => ?_)
  · obtain ⟨p, q, m, n, rfl, _⟩ := h
    rfl
  · obtain ⟨p, q, m, n, rfl, hB, hn, hm, hm2, k⟩ := h
    have npq : q ≠ p := hB.pq
    obtain ⟨c, z, i, ns, hp, hq, hl0, hlen, hz, hz2, hi, hin⟩ := hB
    refine ⟨_, (pss_cons (ps_if (pt_cmpR op_gt (pe_ix ix_list (pv 0) pe_int (fun _ _ => rfl)) pe_int (nomark _))
(pss_cons (ps_set (i := 2) sc_draw.nd rfl (Or.inl rfl) (pe_op op_mod (pe_callTy call_int1 (by rfl) T.z_int (by decide +kernel) (pa_cons (pe_ix ix_list (pv 0) pe_int (fun _ _ => rfl)) pa_nil)) (pv 1)))
(pss_cons (ps_asg (pe_op op_fdivW (pe_ix ix_list (pv 0) pe_int (fun _ _ => rfl)) (pv 1)) (pg_sub (pv 0) pe_int set_list))
(pss_one (ps_ret (pv 2)))))
pss_nil)
(pss_cons (ps_asg (pe_op op_add (pe_ix ix_list (pv 0) pe_int (fun _ _ => rfl)) pe_int) (pg_sub (pv 0) pe_int set_list))
(pss_cons (ps_par (i := 3) (j := 4) rfl sc_draw.nd rfl rfl (by decide) rfl rfl (by exact (pa_cons (pe_ix ix_list (pv 0) pe_int (fun _ _ => rfl)) (pa_cons (pe_ix ix_list (pv 0) pe_int (fun _ _ => rfl)) pa_nil))) rfl)
(pss_cons (ps_set (i := 5) sc_draw.nd rfl (Or.inl rfl) (pe_op op_mod (pe_callTy call_int1 (by rfl) T.z_int (by decide +kernel) (pa_cons (pe_ix ix_list (pv 4) (pe_op op_mod (pe_callTy call_int1 (by rfl) T.z_int (by decide +kernel) (pa_cons (pv 3) pa_nil)) (pe_callB call_len_seq (by rfl) T.z_len (by decide +kernel) (pa_cons (pv 4) pa_nil))) (fun _ _ => rfl)) pa_nil)) pe_int))
(pss_cons (ps_set (i := 6) sc_draw.nd rfl (Or.inl rfl) (pe_op op_add (pe_op op_add (pe_op op_add (pe_op op_mul (pe_ix ix_list (pv 0) pe_int (fun _ _ => rfl)) pe_int) (pv 5)) (pe_op op_mul (pe_op op_mul pe_int (pv 3)) (pv 3))) pe_int))
(pss_cons (ps_asg (pe_op op_mod (pe_callTy call_int1 (by rfl) T.z_int (by decide +kernel) (pa_cons (pv 6) pa_nil)) pe_int) (pg_sub (pv 0) pe_int set_list))
(pss_one (ps_ret (pe_op op_mod (pe_op op_mod (pe_callTy call_int1 (by rfl) T.z_int (by decide +kernel) (pa_cons (pe_op op_add (pe_op op_pow (pe_op op_fdivW (pe_ix ix_list (pv 0) pe_int (fun _ _ => rfl)) pe_int) pe_int) (pe_op op_fdivW (pe_ix ix_list (pv 0) pe_int (fun _ _ => rfl)) pe_int)) pa_nil)) pe_int) (pv 1)))))))))), ?_⟩
    refine ⟨_, rfl, p, _, _, _, rfl, rfl, SqL.of hp, rfl, _, _, rfl, rfl, _, rfl, ?_⟩
    refine ite_b (fun hc0 => ?_) (fun _ => ?_)
    · have hc1 : 1 < c := of_decide_eq_true hc0
      refine ⟨_, rfl, p, _, _, _, rfl, rfl, SqL.of hp, rfl, .inl ⟨_, rfl, ?_⟩⟩
      refine ⟨_, rfl, _, _, rfl, rfl, hm, ?_⟩
      refine ⟨_, rfl, p, _, _, _, rfl, rfl, SqL.of hp, rfl, _, rfl, _, _, rfl, rfl, log_small hm hm2, ?_⟩
      refine ⟨_, rfl, p, _, _, _, rfl, rfl, hp, rfl, ?_⟩
      refine ⟨_, rfl, ?_⟩
      exact k _ _ bar_upd ⟨c / m, z, i, ns, upd_same, by rw [upd_ne npq]; exact hq, hl0, hlen, hz, hz2, hi, by omega⟩ (Int.emod_nonneg _ (by omega)) (Int.emod_lt_of_pos _ hm)
    · show tSeq _ _ _ _ _
      refine ⟨_, rfl, p, _, _, _, rfl, rfl, SqL.of hp, rfl, _, _, rfl, rfl, ?_⟩
      refine ⟨_, rfl, p, _, _, _, rfl, rfl, hp, rfl, ?_⟩
      have hp1 : upd H p (.lst [V.int c, V.int z, V.int (i + 1), V.ref q]) p = some (.lst [V.int c, V.int z, V.int (i + 1), V.ref q]) := upd_same
      have hq1 : upd H p (.lst [V.int c, V.int z, V.int (i + 1), V.ref q]) q = some (.lst (ns.map V.int)) := (upd_ne npq).trans hq
      have h0 : 0 ≤ (i + 1) % ((ns.map V.int).length : Int) := Int.emod_nonneg _ (by rw [List.length_map]; omega)
      have h1 : (i + 1) % ((ns.map V.int).length : Int) < ((ns.map V.int).length : Int) := Int.emod_lt_of_pos _ (by rw [List.length_map]; omega)
      obtain ⟨j, hj⟩ := Int.eq_ofNat_of_zero_le h0
      have hj2 : j < ns.length := by
        rw [hj, List.length_map] at h1
        omega
      refine ⟨_, rfl, p, _, _, _, rfl, rfl, SqL.of hp1, rfl, _, rfl, p, _, _, _, rfl, rfl, SqL.of hp1, rfl, ?_⟩
      refine ⟨_, _, rfl, ?_⟩
      refine ⟨_, rfl, _, rfl, .inl ⟨_, rfl, _, rfl, q, _, rfl, .inl (SqL.of hq1), _, _, rfl, rfl, (by rw [List.length_map]; omega), ?_⟩⟩
      refine ⟨q, _, _, _, rfl, rfl, SqL.of hq1, (by rw [hj]; exact atI_nat (ints_at hj2)), .inl ⟨_, rfl, _, _, rfl, rfl, (by show (0 : Int) < _; decide), ?_⟩⟩
      refine ⟨_, rfl, p, _, _, _, rfl, rfl, SqL.of hp1, rfl, _, _, rfl, rfl, .inr ⟨by decide, by decide⟩, _, rfl, _, _, rfl, rfl, _, rfl, _, _, rfl, rfl, .inl ⟨by decide, by decide⟩, _, rfl, _, _, rfl, rfl, .inr ⟨by omega, by omega⟩, _, _, rfl, rfl, _, _, rfl, rfl, ?_⟩
      refine ⟨_, rfl, .inl ⟨_, rfl, _, _, rfl, rfl, (by show (0 : Int) < _; decide), ?_⟩⟩
      refine ⟨_, rfl, p, _, _, _, rfl, rfl, hp1, rfl, ?_⟩
      obtain ⟨z', hz3⟩ : ∃ z', z' = (z * 69621 + ns[j] % 2147483587 + 40009 * (i + 1) * (i + 1) + 211) % 2147483647 := ⟨_, rfl⟩
      have z0 : 0 ≤ z' := by rw [hz3]; exact Int.emod_nonneg _ (by decide)
      have z1 : z' < 2147483647 := by rw [hz3]; exact Int.emod_lt_of_pos _ (by decide)
      have hp2 : upd (upd H p (.lst [V.int c, V.int z, V.int (i + 1), V.ref q])) p (.lst [V.int c, V.int ((z * 69621 + ns[j] % 2147483587 + 40009 * (i + 1) * (i + 1) + 211) % 2147483647), V.int (i + 1), V.ref q]) p = some (.lst [V.int c, V.int z', V.int (i + 1), V.ref q]) := by
        rw [hz3]
        exact upd_same
      refine ⟨_, rfl, p, _, _, _, rfl, rfl, SqL.of hp2, rfl, _, _, rfl, rfl, ⟨by decide, by decide⟩, _, _, rfl, rfl, ⟨by decide, by decide, by omega⟩, ?_⟩
      refine ⟨_, rfl, p, _, _, _, rfl, rfl, SqL.of hp2, rfl, _, _, rfl, rfl, ⟨by decide, by decide⟩, _, _, rfl, rfl, .inl ⟨_, rfl, _, _, rfl, rfl, (by show (0 : Int) < _; decide), ?_⟩⟩
      refine ⟨_, rfl, _, _, rfl, rfl, hm, k _ _ (bar_upd.trans bar_upd) ⟨c, z', i + 1, ns, hp2, by rw [upd_ne npq]; exact hq1, hl0, hlen, z0, by omega, by omega, by omega⟩ (Int.emod_nonneg _ (by omega)) (Int.emod_lt_of_pos _ hm)⟩
theorem ok_of {f : Addr} {fd : FuncData} (F : Fun K "_law_of" "_law_of" s_of f fd) (T : Top K mg) (T_draw : Cal P w K mg base 1 "_law_draw" spDraw []) : FnOk P w K mg base CX0 2 f fd ["_law_stream", "_law_some"] (spOfS K) := by
  refine F.ok sc_of (fun vs H Q E h => ?_) (fun cdv A outer s H vs Q E hr h => ?_)
  · obtain ⟨p, q, l, xs, n, rfl, _⟩ := h
    rfl
  · obtain ⟨p, q, l, xs, n, rfl, hB, hn, hlp, hl, h0, h1, k⟩ := h
    refine ⟨_, (pss_one (ps_ret (pe_ix ix_list (pv 1) (pe_c T_draw hr (by decide) (by rfl) (pa_cons (pv 0) (pa_cons (pe_callB call_len_seq (by rfl) T.z_len (by decide +kernel) (pa_cons (pv 1) pa_nil)) pa_nil))) (fun _ _ => rfl)))), ?_⟩
    refine ⟨_, rfl, _, rfl, _, rfl, l, _, rfl, .inl (SqL.of hl), ?_⟩
    refine ⟨p, q, _, n, rfl, hB, hn, by omega, by omega, fun H1 d b1 hB1 d0 d1 => ?_⟩
    obtain ⟨j, rfl⟩ := Int.eq_ofNat_of_zero_le d0
    have hj : j < xs.length := by omega
    refine ⟨l, xs, _, xs[j], rfl, rfl, SqL.of (b1 _ _ hlp hl), atI_nat (List.getElem?_eq_getElem hj), ?_⟩
    exact k _ _ b1 hB1 (List.getElem_mem hj)
theorem ok_pick {f : Addr} {fd : FuncData} (F : Fun K "_law_pick" "_law_pick" s_pick f fd) (T : Top K mg) (T_draw : Cal P w K mg base 1 "_law_draw" spDraw []) : FnOk P w K mg base CX0 2 f fd ["_law_stream", "_law_letters_here", "_law_many"] spPick := by
  refine F.ok sc_pick (fun vs H Q E h => ?_) (fun cdv A outer s H vs Q E hr h => ?_)
  · obtain ⟨p, q, z, m, n, rfl, _⟩ := h
    rfl
  · obtain ⟨p, q, z, m, n, rfl, hB, hn, hz, hm, k⟩ := h
    refine ⟨_, (pss_cons (ps_par (i := 3) (j := 4) rfl sc_pick.nd rfl rfl (by decide) rfl rfl (by exact (pa_cons (pe_callTy (call_listS hr.hd) (by rfl) T.z_list (by decide +kernel) (pa_cons (pv 1) pa_nil)) (pa_cons (pe_lst pa_nil) pa_nil))) rfl)
(pss_cons (ps_for PassesOwn.never rfl (pi_range1 rfl T.z_range (pa_cons (pv 2) pa_nil)) (pg_name (i := 5) sc_pick.nd rfl (Or.inl rfl))
(pss_one (ps_expr (pe_bm PySem.F.plainAttrs_list PySem.F.slot_list_append PySem.F.type_list_append mt_append (pv 4) (pa_cons (pe_bm PySem.F.plainAttrs_list PySem.F.slot_list_pop PySem.F.type_list_pop mt_popAt (pv 3) (pa_cons (pe_c T_draw hr (by decide) (by rfl) (pa_cons (pv 0) (pa_cons (pe_callB call_len_seq (by rfl) T.z_len (by decide +kernel) (pa_cons (pv 3) pa_nil)) pa_nil))) pa_nil)) pa_nil)))))
(pss_one (ps_ret (pe_join pe_str (pe_callB cr_sortedS (by rfl) T.z_sorted (by decide +kernel) (pa_cons (pv 4) pa_nil))))))), ?_⟩
    have hzs : z.cps.size ≤ 52 := hz
    have hms : m ≤ z.cps.size := hm
    refine ⟨_, rfl, z, rfl, Nat.le_trans hz (by decide), fun l1 n1 => ⟨by decide, fun l2 n2 => ⟨_, _, rfl, ?_⟩⟩⟩
    have s1 := same_new (o := .lst (z.cps.toList.map sg)) n1
    have s2 := same_new (o := .lst ([] : List V)) n2
    have h1 : (upd (upd H l1 (.lst (z.cps.toList.map sg))) l2 (.lst [])) l1 = some (.lst ((sgs z).map V.str)) := by
      rw [s2 _ _ upd_same]
      unfold sgs
      rw [List.map_map]
      rfl
    have h2 : (upd (upd H l1 (.lst (z.cps.toList.map sg))) l2 (.lst [])) l2 = some (.lst (([] : List Str).map V.str)) := upd_same
    have s12 := s1.trans s2
    have m1 : H l1 = none := n1
    have m2 : H l2 = none := s1.free n2
    have ne : l1 ≠ l2 := ne_of_none upd_same n2
    generalize (upd (upd H l1 (.lst (z.cps.toList.map sg))) l2 (.lst [])) = G at *
    have hp0 : H p ≠ none := fun e => by
      obtain ⟨_, _, _, _, e2, _⟩ := hB
      rw [e] at e2
      cases e2
    have p1 : l1 ≠ p := fun e => hp0 (e ▸ m1)
    have p2 : l2 ≠ p := fun e => hp0 (e ▸ m2)
    refine ⟨_, rfl, _, rfl, by omega, by omega, for_it walk_range (fun i σ H' => ∃ v5 ls fs, σ = [some (.ref p), some (.str z), some (.int (m : Nat)), some (.ref l1), some (.ref l2), v5] ∧ H' l1 = some (.lst (ls.map V.str)) ∧ H' l2 = some (.lst (fs.map V.str)) ∧ ls.length + i = z.cps.size ∧ fs.length = i ∧ (ls ++ fs).Perm (sgs z) ∧ Bar p H H' ∧ StrA H' p q (n + i))
      ⟨none, sgs z, [], rfl, h1, h2, by rw [sgs_len]; rfl, rfl, by rw [List.append_nil], bar_of s12, hB.same s12⟩ (fun _ _ _ _ _ => trivial) ?_ ?_⟩
    · rintro i x σ H1 H1' hi ⟨v5, ls, fs, rfl, e1, e2, c1, c2, a1, b1, hB1⟩ ⟨rfl, rfl⟩
      have hi : i < m := by simpa using hi
      have hl0 : 0 < ls.length := by omega
      refine ⟨_, rfl, .inl ⟨rfl, _, SqL.of e2⟩, _, rfl, .inl ⟨rfl, _, SqL.of e1⟩, _, rfl, _, rfl, l1, _, rfl, .inl (SqL.of e1), p, q, _, n + i, rfl, hB1, by omega, ?_, ?_, fun H2 d b2 hB2 d0 d1 => ?_⟩
      · rw [List.length_map]
        omega
      · rw [List.length_map]
        omega
      rw [List.length_map] at d1
      obtain ⟨j, rfl⟩ := Int.eq_ofNat_of_zero_le d0
      have hj : j < ls.length := by omega
      have f1 := b2 _ _ p1 e1
      have f2 := b2 _ _ p2 e2
      refine ⟨l1, _, _, j, .str ls[j], rfl, rfl, f1, by omega, by omega, ?_, ?_, l2, _, _, rfl, rfl, (upd_ne ne.symm).trans f2, ?_, ?_⟩
      · rw [List.length_map]
        exact PyProof.Rows.seqIndex_at d0 d1
      · rw [List.getElem?_map, List.getElem?_eq_getElem hj]
        rfl
      · rw [List.length_map]
        exact Nat.lt_of_lt_of_le (by omega : fs.length < 100) (by decide)
      · have mem : ls[j] ∈ ls := List.getElem_mem hj
        refine ⟨_, ls.eraseIdx j, fs ++ [ls[j]], rfl, ?_, ?_, ?_, ?_, step_perm hj a1, ?_, ?_⟩
        · rw [upd_ne ne, upd_same, map_erase]
        · rw [upd_same, List.map_append]
          rfl
        · rw [List.length_eraseIdx, if_pos hj]
          omega
        · rw [List.length_append, c2]
          rfl
        · intro b u nb hb
          rw [upd_ne (ne_of_none hb m2), upd_ne (ne_of_none hb m1)]
          exact b2 _ _ nb (b1 _ _ nb hb)
        · exact (hB2.put p1 (hB.ne m1).2).put p2 (hB.ne m2).2
    · rintro σ H1 ⟨v5, ls, fs, rfl, e1, e2, c1, c2, a1, b1, hB1⟩
      have c2 : fs.length = m := by simpa using c2
      refine ⟨⟨_, rfl⟩, _, rfl, l2, fs, rfl, SqL.of e2, by omega, fun ys r pm hs nr => ?_⟩
      obtain ⟨cs, ec, hcs⟩ := sgs_map (ys := ys) (z := z) fun y hy => a1.mem_iff.mp (List.mem_append_right _ (pm.mem_iff.mp hy))
      have el : cs.length = m := by
        have e := pm.length_eq
        rw [ec, List.length_map] at e
        omega
      refine ⟨_, r, ys, rfl, rfl, .inl (SqL.of upd_same), ?_, ?_⟩
      · rw [ec, one_sum, List.length_map, show (("" : Str)).length = 0 from rfl, Nat.mul_zero]
        omega
      · have ej : Txt.join "" ys = S cs := by
          rw [ec]
          exact join_signs cs
        rw [ej]
        refine k _ (S cs) (fun b u nb hb => ?_) ((hB1.same (same_new nr)).mono (by omega)) ?_ (fun c hc => ?_) ?_
        · exact same_new nr _ _ (b1 _ _ nb hb)
        · rw [SX.S_len]
          exact el
        · rw [S_list] at hc
          exact hcs c hc
        · intro nd
          rw [S_list]
          have n1 := (a1.nodup_iff.mpr (sgs_nodup nd))
          have n2 : ys.Nodup := pm.nodup_iff.mpr (List.nodup_append.mp n1).2.1
          rw [ec] at n2 hs
          exact sorted_ones hs (ones_nodup n2)
end
end W29

set_option Elab.async false
set_option linter.all false
set_option maxRecDepth 100000
set_option maxHeartbeats 4000000
namespace W29
open PySem L2 WB
open C8 (pe_c pe_mk pe_mt pe_mt0 Cal Mak Met)
section
variable {P : Program} {w : World} {K : PySem.W.Frag} {mg : Str → Option Value} {base : Heap}
theorem ok_drawn_marks {f : Addr} {fd : FuncData} (F : Fun K "_law_drawn_marks" "_law_drawn_marks" s_drawn_marks f fd) (T : Top K mg) (T_draw : Cal P w K mg base 1 "_law_draw" spDraw []) (T_pick : Cal P w K mg base 2 "_law_pick" spPick []) : FnOk P w K mg base CX0 3 f fd ["_law_stream", "_law_fewest", "_law_most"] spMarksW := by
  refine F.ok sc_drawn_marks (fun vs H Q E h => ?_) (fun cdv A outer s H vs Q E hr h => ?_)
  · obtain ⟨p, q, n, rfl, _⟩ := h
    rfl
  · obtain ⟨p, q, n, rfl, hB, hn, k⟩ := h
    refine ⟨_, (pss_cons (ps_set (i := 3) sc_drawn_marks.nd rfl (Or.inl rfl) (pe_op op_add (pv 1) (pe_c T_draw hr (by decide) (by rfl) (pa_cons (pv 0) (pa_cons (pe_op op_sub pe_int (pv 1)) pa_nil)))))
(pss_cons (ps_set (i := 4) sc_drawn_marks.nd rfl (Or.inl rfl) (pe_callB (call_max2 rfl) (by rfl) T.z_max (by decide +kernel) (pa_cons (pe_callTy call_int1 (by rfl) T.z_int (by decide +kernel) (pa_cons (pe_cmpR op_eq (pv 3) pe_int (nomark _)) pa_nil)) (pa_cons (pe_c T_draw hr (by decide) (by rfl) (pa_cons (pv 0) (pa_cons (pe_op op_add (pe_callB (call_min2 rfl) (by rfl) T.z_min (by decide +kernel) (pa_cons (pv 2) (pa_cons (pe_op op_sub pe_int (pv 3)) pa_nil))) pe_int) pa_nil))) pa_nil))))
(pss_cons (ps_set (i := 5) sc_drawn_marks.nd rfl (Or.inl rfl) (pe_c T_pick hr (by decide) (by rfl) (pa_cons (pv 0) (pa_cons pe_str (pa_cons (pv 4) pa_nil)))))
(pss_one (ps_ret (pe_op op_add_str (pv 5) (pe_c T_pick hr (by decide) (by rfl) (pa_cons (pv 0) (pa_cons pe_str (pa_cons (pv 3) pa_nil)))))))))), ?_⟩
    refine ⟨_, rfl, _, rfl, _, rfl, _, _, rfl, rfl, p, q, _, n, rfl, hB, by omega, by decide, by decide, fun H1 d b1 hB1 d0 d1 => ⟨_, _, rfl, rfl, ?_⟩⟩
    obtain ⟨j, rfl⟩ := Int.eq_ofNat_of_zero_le d0
    have hj : j < 3 := by omega
    dsimp only [gName]
    have e0 : (0 : Int) + (j : Int) = (j : Int) := Int.zero_add _
    rw [e0]
    refine ⟨_, rfl, rfl, .inr ⟨_, rfl, _, rfl, _, rfl, _, rfl, _, _, rfl, rfl, _, _, rfl, _, _, rfl, rfl, p, q, _, n + 1, rfl, hB1, by omega, ?_, ?_, fun H2 e b2 hB2 e0 e1 => ?_⟩⟩
    · split <;> omega
    · split <;> omega
    have e4 : e ≤ 3 - (j : Int) := by
      revert e1
      split <;> omega
    clear e1
    obtain ⟨B, hBe⟩ : ∃ B : Int, B = (if e > (if decide (V.int (j : Nat) = V.int 0) = true then (1 : Int) else 0) then e else (if decide (V.int (j : Nat) = V.int 0) = true then (1 : Int) else 0)) := ⟨_, rfl⟩
    have B0 : 0 ≤ B := by
      rw [hBe]
      repeat' split
      all_goals omega
    have dj : decide (V.int (j : Nat) = V.int 0) = decide (j = 0) := by
      by_cases h : j = 0
      · subst h; rfl
      · rw [decide_eq_false h, decide_eq_false]
        intro e
        injection e with e
        exact h (by omega)
    have B5 : B ≤ 3 - (j : Int) := by
      rw [hBe, dj]
      repeat' split
      all_goals omega
    have B1 : j = 0 → 1 ≤ B := by
      intro h
      rw [hBe, dj, decide_eq_true h]
      simp only [reduceIte]
      split <;> omega
    obtain ⟨bn, rfl⟩ := Int.eq_ofNat_of_zero_le B0
    refine ⟨_, _, rfl, ?_⟩
    rw [← hBe]
    dsimp only [gName]
    refine ⟨_, rfl, _, rfl, p, q, _, bn, n + 2, rfl, hB2, by omega, by decide, Nat.le_trans (by omega : bn ≤ 5) (by decide), fun H3 r b3 hB3 hr3 hc3 hp3 => ?_⟩
    dsimp only [gName]
    refine ⟨_, rfl, _, rfl, _, rfl, p, q, _, j, n + 54, rfl, hB3, by omega, by decide, Nat.le_trans (by omega : j ≤ 5) (by decide), fun H4 r2 b4 hB4 hr4 hc4 hp4 => ?_⟩
    have m1 : Sm 4 r := ⟨by omega, fun c hc => (sm_lit (n := 26) (z := "ABCDEFGHIJKLMNOPQRSTUVWXYZ")).2 c (hc3 c hc)⟩
    have m2 : Sm 2 r2 := ⟨by omega, fun c hc => (sm_lit (n := 26) (z := "abcdefghijklmnopqrstuvwxyz")).2 c (hc4 c hc)⟩
    have up : ∀ c ∈ ("ABCDEFGHIJKLMNOPQRSTUVWXYZ" : Str).cps.toList, c ∈ mk := by decide +kernel
    have lo : ∀ c ∈ ("abcdefghijklmnopqrstuvwxyz" : Str).cps.toList, c ∈ mk := by decide +kernel
    have ln : (r ++ r2).length = r.length + r2.length := Array.size_append
    refine ⟨_, _, rfl, rfl, m1.line m2, k _ _ (((b1.trans b2).trans b3).trans b4) (hB4.mono (by omega)) ⟨?_, ?_, fun c hc => ?_⟩ ?_⟩
    · rw [ln, hr3, hr4]
      have := B1
      omega
    · rw [ln, hr3, hr4]
      omega
    rotate_left
    · refine marks_cat hc3 hc4 (hp3 up_nodup) (hp4 lo_nodup) ?_ ?_ (by omega)
      · rw [ln, hr3, hr4]
        have := B1
        omega
      · rw [ln, hr3, hr4]
        omega
    · have hc : c ∈ (r.cps ++ r2.cps).toList := hc
      rw [Array.toList_append] at hc
      rcases List.mem_append.mp hc with hc | hc
      · exact up c (hc3 c hc)
      · exact lo c (hc4 c hc)
theorem ok_drawn_contents {f : Addr} {fd : FuncData} (F : Fun K "_law_drawn_contents" "_law_drawn_contents" s_drawn_contents f fd) (T : Top K mg) (T_draw : Cal P w K mg base 1 "_law_draw" spDraw []) : FnOk P w K mg base CX0 2 f fd ["_law_stream", "_law_marks"] spDCG := by
  refine F.ok sc_drawn_contents (fun vs H Q E h => ?_) (fun cdv A outer s H vs Q E hr h => ?_)
  · obtain ⟨p, q, m, n, rfl, _⟩ := h
    rfl
  · obtain ⟨p, q, m, n, rfl, hB, hn, hm, hm3, k⟩ := h
    refine ⟨_, (pss_cons (ps_set (i := 2) sc_drawn_contents.nd rfl (Or.inl rfl) pe_str)
(pss_cons (ps_for PassesOwn.never rfl (pi_str (pv 1)) (pg_name (i := 3) sc_drawn_contents.nd rfl (Or.inl rfl))
(pss_one (ps_set (i := 2) sc_drawn_contents.nd rfl (Or.inl rfl) (pe_op op_add_str (pv 2) (pe_op op_mulStr (pv 3) (pe_c T_draw hr (by decide) (by rfl) (pa_cons (pv 0) (pa_cons pe_int pa_nil))))))))
(pss_one (ps_ret (pv 2))))), ?_⟩
    have hms : m.cps.size ≤ 3 := hm3
    refine ⟨_, rfl, m, rfl, for_it walk_str (fun i σ H' => ∃ z v, σ = [some (.ref p), some (.str m), some (.str z), v] ∧ Sm i z ∧ z.cps.toList.Sublist (m.cps.toList.take i) ∧ Bar p H H' ∧ StrA H' p q (n + i)) ⟨"", none, rfl, sm_lit, List.nil_sublist _, Bar.refl _ _, hB⟩ (fun _ _ _ _ _ => trivial) ?_ ?_⟩
    · rintro i x σ H1 H1' hi ⟨z, v, rfl, hz, hsl, b1, hB1⟩ ⟨rfl, c, hc, rfl⟩
      have hc2 := hm.2 c (List.mem_of_getElem? (arr_at hc))
      refine ⟨_, rfl, _, rfl, _, rfl, p, q, _, n + i, rfl, hB1, by omega, by decide, by decide, fun H2 d b2 hB2 d0 d1 => ?_⟩
      have md := mul_two (c := c) d0 d1
      have sm : Sm 1 (Txt.mul ⟨#[c]⟩ d) := by
        rcases md with e | e <;> rw [e]
        · exact sm_lit
        · exact ⟨Nat.le_refl _, fun x hx => by
            have e : x = c := by simpa using hx
            rw [e]
            exact hc2⟩
      refine ⟨_, _, rfl, rfl, ?_, _, _, rfl, rfl, ?_, ?_⟩
      · exact mulok_two d0 d1
      · exact Nat.le_trans (Nat.add_le_add hz.1 sm.1) (Nat.le_trans (by omega : i + 1 ≤ 100) (by decide))
      · refine ⟨_, _, rfl, hz.cat sm, ?_, b1.trans b2, hB2⟩
        rw [tl_app, List.take_succ, arr_at hc]
        refine hsl.append ?_
        rcases md with e | e <;> rw [e]
        · exact List.nil_sublist _
        · exact List.Sublist.refl _
    · rintro σ H1 ⟨z, v, rfl, hz, hsl, b1, hB1⟩
      exact ⟨_, rfl, k _ _ b1 (hB1.mono (by omega)) (hz.mono hms) (hsl.trans (List.take_sublist _ _))⟩
theorem ok_reserved {f : Addr} {fd : FuncData} (F : Fun K "_law_reserved" "_law_reserved" s_reserved f fd) (T : Top K mg)  : FnOk P w K mg base CX0 1 f fd [] spResv := by
  refine F.ok sc_reserved (fun vs H Q E h => ?_) (fun cdv A outer s H vs Q E hr h => ?_)
  · obtain ⟨u, rfl, _⟩ := h
    rfl
  · obtain ⟨u, rfl, k⟩ := h
    refine ⟨_, (pss_cons (ps_set (i := 0) sc_reserved.nd rfl (Or.inl rfl) (pe_lst (pa_cons pe_str (pa_cons pe_str (pa_cons pe_str (pa_cons pe_str (pa_cons pe_str (pa_cons pe_str (pa_cons pe_str (pa_cons pe_str (pa_cons pe_str (pa_cons pe_str (pa_cons pe_str (pa_cons pe_str pa_nil))))))))))))))
(pss_one (ps_ret (pe_op op_cat (pv 0) (pe_lst (pa_cons pe_str (pa_cons pe_str (pa_cons pe_str (pa_cons pe_str (pa_cons pe_str pa_nil)))))))))), ?_⟩
    refine ⟨by decide, fun l1 n1 => ?_⟩
    dsimp only [gName]
    have s1 := same_new (o := .lst [V.str "answer", .str "caller", .str "else", .str "end", .str "fail", .str "from", .str "given", .str "if", .str "in", .str "is", .str "item", .str "marks"]) n1
    refine ⟨_, rfl, by decide, fun l2 n2 => ⟨l1, l2, _, _, rfl, rfl, same_new n2 _ _ upd_same, upd_same, by decide, fun l3 n3 => ?_⟩⟩
    exact k _ l3 ((s1.trans (same_new n2)).trans (same_new n3)) ((s1.trans (same_new n2)).free n3) upd_same
theorem ok_term {f : Addr} {fd : FuncData} (F : Fun K "_law_term" "_law_term" s_term f fd) (T : Top K mg) (T_draw : Cal P w K mg base 1 "_law_draw" spDraw []) (T_of : Cal P w K mg base 2 "_law_of" (spOfS K) []) (T_drawn_contents : Cal P w K mg base 2 "_law_drawn_contents" spDCG []) : FnOk P w K mg base CX0 3 f fd ["_law_stream", "_law_words", "_law_marks"] spTermG := by
  refine F.ok sc_term (fun vs H Q E h => ?_) (fun cdv A outer s H vs Q E hr h => ?_)
  · obtain ⟨p, q, l, ws, m, n, rfl, _⟩ := h
    rfl
  · obtain ⟨p, q, l, ws, m, n, rfl, hB, hn, hlp, hl, hw, hws, hm, k⟩ := h
    refine ⟨_, (pss_cons (ps_if (PW.pt (pw_and (pt_cmpR (op_neD hr.units) (pv 1) (pe_lst pa_nil) (nomark _)) (pw_and1 (pt_cmpR op_gt (pe_c T_draw hr (by decide) (by rfl) (pa_cons (pv 0) (pa_cons pe_int pa_nil))) pe_int (nomark _)))))
(pss_one (ps_ret (pe_c T_of hr (by decide) (by rfl) (pa_cons (pv 0) (pa_cons (pv 1) pa_nil)))))
pss_nil)
(pss_one (ps_ret (pe_op op_add_str (pe_op op_add_str pe_str (pe_c T_drawn_contents hr (by decide) (by rfl) (pa_cons (pv 0) (pa_cons (pv 2) pa_nil)))) pe_str)))), ?_⟩
    have rest : ∀ H1, Bar p H H1 → StrA H1 p q (n + 1) → tRet (tOp (fun x y H Q => ∃ i j, x = V.str i ∧ y = V.str j ∧ i.length + j.length ≤ sizeLine ∧ Q (V.str (i ++ j)) H) (tOp (fun x y H Q => ∃ i j, x = V.str i ∧ y = V.str j ∧ i.length + j.length ≤ sizeLine ∧ Q (V.str (i ++ j)) H) (tC (.str "{")) (tCall spDCG [] C8.E0 (tCons (tVar 0) (tCons (tVar 2) tNil)))) (tC (.str "}"))) { nx := fun x H' => Q V.non H', rt := Q } [some (.ref p), some (.ref l), some (.str m)] H1 := fun H1 b1 hB1 => by
      refine ⟨_, rfl, _, rfl, p, q, m, n + 1, rfl, hB1, by omega, hm.sm, hm.1.2.1, fun H2 z b2 hB2 hz hzl => ?_⟩
      have m1 : Sm 1 ("{" : Str) := sm_lit
      have m2 : Sm 1 ("}" : Str) := sm_lit
      exact ⟨_, _, rfl, rfl, m1.line hz, _, _, rfl, rfl, (m1.cat hz).line m2, k _ _ (b1.trans b2) (hB2.mono (by omega)) (term_set hm hzl hz)⟩
    refine ⟨_, rfl, by decide, fun e1 n1 => ?_⟩
    have s1 := same_new (o := .lst ([] : List V)) n1
    refine ⟨_, _, .lst (SqL.of (s1 _ _ hl)) (dp_all_strs ws), .lst (SqL.of upd_same) .nil, shaped_txs fun y hy => (hws y hy).sm.small, by decide, _, rfl, ite_b (fun hne => ?_) (fun _ => iteF (rest _ (bar_of s1) ((hB.same s1).mono (by omega))))⟩
    have h0 : 0 < ws.length := by
      cases ws with
      | nil => cases hne
      | cons a r => exact Nat.succ_pos _
    refine ⟨_, rfl, p, q, _, n, rfl, hB.same s1, by omega, by decide, by decide, fun H1 d b1 hB1 d0 d1 => ⟨_, _, rfl, rfl, _, rfl, ite_b (fun _ => ?_) (fun _ => rest H1 ((bar_of s1).trans b1) hB1)⟩⟩
    have c1 := (bar_of (p := p) s1).trans b1
    refine ⟨_, rfl, _, rfl, p, q, l, _, n + 1, rfl, hB1, by omega, hlp, c1 _ _ hlp hl, by rw [List.length_map]; exact h0, by rw [List.length_map]; omega, fun H2 x b2 hB2 hx => ?_⟩
    obtain ⟨y, hy, rfl⟩ := List.mem_map.mp hx
    exact k _ _ (c1.trans b2) (hB2.mono (by omega)) (term_word hy (hws y hy))
theorem ok_sum {f : Addr} {fd : FuncData} (F : Fun K "_law_sum" "_law_sum" s_sum f fd) (T : Top K mg) (T_of : Cal P w K mg base 2 "_law_of" (spOfS K) []) (T_term : Cal P w K mg base 3 "_law_term" spTermG []) : FnOk P w K mg base CX0 4 f fd ["_law_stream", "_law_words", "_law_marks"] spSumG := by
  refine F.ok sc_sum (fun vs H Q E h => ?_) (fun cdv A outer s H vs Q E hr h => ?_)
  · obtain ⟨p, q, l, ws, m, n, rfl, _⟩ := h
    rfl
  · obtain ⟨p, q, l, ws, m, n, rfl, hB, hn, hlp, hl, hw, hws, hm, k⟩ := h
    refine ⟨_, (pss_cons (ps_set (i := 3) sc_sum.nd rfl (Or.inl rfl) (pe_c T_of hr (by decide) (by rfl) (pa_cons (pv 0) (pa_cons (pe_lst (pa_cons pe_str (pa_cons pe_str (pa_cons pe_str (pa_cons pe_str pa_nil))))) pa_nil))))
(pss_one (ps_ret (pe_op op_add_str (pe_op op_add_str (pe_c T_term hr (by decide) (by rfl) (pa_cons (pv 0) (pa_cons (pv 1) (pa_cons (pv 2) pa_nil)))) (pv 3)) (pe_c T_term hr (by decide) (by rfl) (pa_cons (pv 0) (pa_cons (pv 1) (pa_cons (pv 2) pa_nil)))))))), ?_⟩
    refine ⟨_, rfl, by decide, fun l1 n1 => ?_⟩
    have hlit : ∀ x ∈ [V.str " | ", .str " & ", .str " - ", .str " ^ "], ∃ z, x = V.str z ∧ Sm 3 z ∧ z ∈ ([" | ", " & ", " - ", " ^ "] : List Str) := fun x hx => by
      simp only [List.mem_cons, List.not_mem_nil, or_false] at hx
      rcases hx with rfl | rfl | rfl | rfl <;> exact ⟨_, rfl, sm_lit, by decide +kernel⟩
    have s1 := same_new (o := .lst [V.str " | ", .str " & ", .str " - ", .str " ^ "]) n1
    refine ⟨p, q, l1, _, n, rfl, hB.same s1, by omega, (hB.ne n1).1, upd_same, by decide, by decide, fun H1 x b1 hB1 hx => ?_⟩
    obtain ⟨sg3, rfl, h3, h3m⟩ := hlit x hx
    dsimp only [gName]
    have c1 := (bar_of s1).trans b1
    refine ⟨_, rfl, _, rfl, _, rfl, p, q, l, ws, m, n + 1, rfl, hB1, by omega, hlp, c1 _ _ hlp hl, hw, hws, hm, fun H2 z b2 hB2 hz => ?_⟩
    refine ⟨_, rfl, _, _, rfl, rfl, hz.1.1.line h3, _, rfl, _, rfl, _, rfl, p, q, l, ws, m, n + 1 + 5, rfl, hB2, by omega, hlp, b2 _ _ hlp (c1 _ _ hlp hl), hw, hws, hm, fun H3 z2 b3 hB3 hz2 => ?_⟩
    exact ⟨_, _, rfl, rfl, (hz.1.1.cat h3).line hz2.1.1, k _ _ ((c1.trans b2).trans b3) (hB3.mono (by omega)) (sum_of h3m hz hz2)⟩
theorem ok_binding {f : Addr} {fd : FuncData} (F : Fun K "_law_binding" "_law_binding" s_binding f fd) (T : Top K mg) (T_draw : Cal P w K mg base 1 "_law_draw" spDraw []) (T_term : Cal P w K mg base 3 "_law_term" spTermG []) (T_sum : Cal P w K mg base 4 "_law_sum" spSumG []) : FnOk P w K mg base CX0 5 f fd ["_law_stream", "_law_word", "_law_words", "_law_marks"] spBindG := by
  refine F.ok sc_binding (fun vs H Q E h => ?_) (fun cdv A outer s H vs Q E hr h => ?_)
  · obtain ⟨p, q, l, z, ws, m, n, rfl, _⟩ := h
    rfl
  · obtain ⟨p, q, l, z, ws, m, n, rfl, hB, hn, hlp, hl, hw, hws, hz, hm, k⟩ := h
    refine ⟨_, (pss_cons (ps_if (pt_cmpR op_eq (pe_c T_draw hr (by decide) (by rfl) (pa_cons (pv 0) (pa_cons pe_int pa_nil))) pe_int (nomark _))
(pss_one (ps_ret (pe_op op_add_str (pe_op op_add_str (pv 1) pe_str) (pe_c T_sum hr (by decide) (by rfl) (pa_cons (pv 0) (pa_cons (pv 2) (pa_cons (pv 3) pa_nil)))))))
pss_nil)
(pss_one (ps_ret (pe_op op_add_str (pe_op op_add_str (pv 1) pe_str) (pe_c T_term hr (by decide) (by rfl) (pa_cons (pv 0) (pa_cons (pv 2) (pa_cons (pv 3) pa_nil)))))))), ?_⟩
    have m3 : Sm 3 (" = " : Str) := sm_lit
    refine ⟨_, rfl, p, q, _, n, rfl, hB, by omega, by decide, by decide, fun H1 d b1 hB1 d0 d1 => ⟨rfl, _, rfl, ite_b (fun _ => ?_) (fun _ => ?_)⟩⟩
    · refine ⟨_, rfl, _, _, rfl, rfl, hz.sm.line m3, _, rfl, _, rfl, _, rfl, p, q, l, ws, m, n + 1, rfl, hB1, by omega, hlp, b1 _ _ hlp hl, hw, hws, hm, fun H2 z2 b2 hB2 hz2 => ?_⟩
      exact ⟨_, _, rfl, rfl, (hz.sm.cat m3).line hz2.1, k _ _ (b1.trans b2) (hB2.mono (by omega)) (bind_sum hz hz2)⟩
    · refine ⟨_, rfl, _, _, rfl, rfl, hz.sm.line m3, _, rfl, _, rfl, _, rfl, p, q, l, ws, m, n + 1, rfl, hB1, by omega, hlp, b1 _ _ hlp hl, hw, hws, hm, fun H2 z2 b2 hB2 hz2 => ?_⟩
      exact ⟨_, _, rfl, rfl, (hz.sm.cat m3).line hz2.1.1, k _ _ (b1.trans b2) (hB2.mono (by omega)) (bind_term hz hz2)⟩
theorem ok_plain_row {f : Addr} {fd : FuncData} (F : Fun K "_law_plain_row" "_law_plain_row" s_plain_row f fd) (T : Top K mg) (T_draw : Cal P w K mg base 1 "_law_draw" spDraw []) (T_of : Cal P w K mg base 2 "_law_of" (spOfS K) []) (T_term : Cal P w K mg base 3 "_law_term" spTermG []) (T_binding : Cal P w K mg base 5 "_law_binding" spBindG []) : FnOk P w K mg base CX0 6 f fd ["_law_stream", "_law_words", "_law_marks"] spRowG := by
  refine F.ok sc_plain_row (fun vs H Q E h => ?_) (fun cdv A outer s H vs Q E hr h => ?_)
  · obtain ⟨p, q, l, ws, m, n, rfl, _⟩ := h
    rfl
  · obtain ⟨p, q, l, ws, m, n, rfl, hB, hn, hlp, hl, hw0, hw, hws, hm, k⟩ := h
    refine ⟨_, (pss_cons (ps_set (i := 3) sc_plain_row.nd rfl (Or.inl rfl) (pe_c T_of hr (by decide) (by rfl) (pa_cons (pv 0) (pa_cons (pv 1) pa_nil))))
(pss_cons (ps_if (pt_cmpR op_eq (pe_c T_draw hr (by decide) (by rfl) (pa_cons (pv 0) (pa_cons pe_int pa_nil))) pe_int (nomark _))
(pss_one (ps_ret (pe_c T_binding hr (by decide) (by rfl) (pa_cons (pv 0) (pa_cons (pv 3) (pa_cons (pv 1) (pa_cons (pv 2) pa_nil)))))))
pss_nil)
(pss_one (ps_ret (pe_op op_add_str (pe_op op_add_str (pv 3) (pe_c T_of hr (by decide) (by rfl) (pa_cons (pv 0) (pa_cons (pe_lst (pa_cons pe_str (pa_cons pe_str (pa_cons pe_str (pa_cons pe_str (pa_cons pe_str pa_nil)))))) pa_nil)))) (pe_c T_term hr (by decide) (by rfl) (pa_cons (pv 0) (pa_cons (pv 1) (pa_cons (pv 2) pa_nil))))))))), ?_⟩
    refine ⟨_, rfl, _, rfl, p, q, l, _, n, rfl, hB, by omega, hlp, hl, by rw [List.length_map]; exact hw0, by rw [List.length_map]; omega, fun H1 x b1 hB1 hx => ?_⟩
    obtain ⟨y, hy, rfl⟩ := List.mem_map.mp hx
    have my := hws y hy
    have hl1 := b1 _ _ hlp hl
    dsimp only [gName]
    refine ⟨_, rfl, p, q, _, n + 1, rfl, hB1, by omega, by decide, by decide, fun H2 d b2 hB2 d0 d1 => ⟨rfl, _, rfl, ite_b (fun _ => ?_) (fun _ => ?_)⟩⟩
    · refine ⟨_, rfl, _, rfl, _, rfl, _, rfl, p, q, l, y, ws, m, n + 2, rfl, hB2, by omega, hlp, b2 _ _ hlp hl1, hw, hws, my, hm, fun H3 z b3 hB3 hz => ?_⟩
      exact k _ _ _ ((b1.trans b2).trans b3) (hB3.mono (by omega)) hy hz.row
    · refine ⟨_, rfl, _, rfl, by decide, fun l1 n1 => ?_⟩
      have hlit : ∀ x ∈ [V.str " |= ", .str " |= ", .str " &= ", .str " -= ", .str " ^= "], ∃ z, x = V.str z ∧ Sm 4 z ∧ z ∈ ([" |= ", " |= ", " &= ", " -= ", " ^= "] : List Str) := fun x hx => by
        simp only [List.mem_cons, List.not_mem_nil, or_false] at hx
        rcases hx with rfl | rfl | rfl | rfl | rfl <;> exact ⟨_, rfl, sm_lit, by decide +kernel⟩
      have s1 := same_new (o := .lst [V.str " |= ", .str " |= ", .str " &= ", .str " -= ", .str " ^= "]) n1
      refine ⟨p, q, l1, _, n + 2, rfl, hB2.same s1, by omega, (hB2.ne n1).1, upd_same, by decide, by decide, fun H3 x b3 hB3 hx => ?_⟩
      obtain ⟨sg3, rfl, h3, h3m⟩ := hlit x hx
      have c3 := (bar_of s1).trans b3
      have hl3 := c3 _ _ hlp (b2 _ _ hlp hl1)
      refine ⟨_, _, rfl, rfl, my.sm.line h3, _, rfl, _, rfl, _, rfl, p, q, l, ws, m, n + 3, rfl, hB3, by omega, hlp, hl3, hw, hws, hm, fun H4 z b4 hB4 hz => ?_⟩
      exact ⟨_, _, rfl, rfl, (my.sm.cat h3).line hz.1.1, k _ _ _ (((b1.trans b2).trans c3).trans b4) (hB4.mono (by omega)) hy (row_chg h3m my hz)⟩
end
end W29

set_option Elab.async false
set_option linter.all false
set_option maxRecDepth 100000
set_option maxHeartbeats 4000000
namespace W29
open PySem L2 WB
open C8 (pe_c pe_mk pe_mt pe_mt0 Cal Mak Met)
section
variable {P : Program} {w : World} {K : PySem.W.Frag} {mg : Str → Option Value} {base : Heap}
theorem ok_one_word {f : Addr} {fd : FuncData} (F : Fun K "_law_one_word" "_law_one_word" s_one_word f fd) (T : Top K mg) (T_draw : Cal P w K mg base 1 "_law_draw" spDraw []) (T_of : Cal P w K mg base 2 "_law_of" (spOfS K) []) (T_reserved : Cal P w K mg base 1 "_law_reserved" spResv []) : FnOk P w K mg base CX0 3 f fd ["_law_stream", "_law_taken", "_law_marks", "_law_most"] spWordG := by
  refine F.ok sc_one_word (fun vs H Q E h => ?_) (fun cdv A outer s H vs Q E hr h => ?_)
  · obtain ⟨p, q, l, ws, m, mx, n, rfl, _⟩ := h
    rfl
  · obtain ⟨p, q, l, ws, m, mx, n, rfl, hB, hn, hlp, hl, hw, x1, x8, hws, hm, k⟩ := h
    refine ⟨_, (pss_cons (ps_par3 (i := 4) (j := 5) (l := 6) rfl sc_one_word.nd rfl rfl rfl (by decide) (by decide) (by decide) rfl rfl rfl (by exact (pa_cons pe_str (pa_cons (pe_c T_draw hr (by decide) (by rfl) (pa_cons (pv 0) (pa_cons pe_int pa_nil))) (pa_cons pe_str pa_nil)))) rfl)
(pss_cons (ps_if (PW.pt (pw_and (pt_cmpR op_eq (pv 5) pe_int (nomark _)) (pw_and1 (pt_cmpR (op_neD hr.units) (pv 1) (pe_lst pa_nil) (nomark _)))))
(pss_cons (ps_set (i := 6) sc_one_word.nd rfl (Or.inl rfl) (pe_c T_of hr (by decide) (by rfl) (pa_cons (pv 0) (pa_cons (pv 1) pa_nil))))
(pss_cons (ps_set (i := 7) sc_one_word.nd rfl (Or.inl rfl) (pe_c T_draw hr (by decide) (by rfl) (pa_cons (pv 0) (pa_cons (pe_callB call_len_str (by rfl) T.z_len (by decide +kernel) (pa_cons (pv 6) pa_nil)) pa_nil))))
(pss_one (ps_set (i := 6) sc_one_word.nd rfl (Or.inl rfl) (pe_op op_add_str (pe_op op_add_str (pe_slice sl_str (pv 6) po_none (po_some (pv 7))) (pe_ix ix_str (pv 4) (pe_c T_draw hr (by decide) (by rfl) (pa_cons (pv 0) (pa_cons pe_int pa_nil))) (fun _ _ => rfl))) (pe_slice sl_str (pv 6) (po_some (pe_op op_add (pv 7) pe_int)) po_none))))))
(pss_one (ps_if (pt_cmpR op_eq (pv 5) pe_int (nomark _))
(pss_one (ps_set (i := 6) sc_one_word.nd rfl (Or.inl rfl) (pe_bm0 PySem.F.plainAttrs_str PySem.F.slot_str_lower PySem.F.type_str_lower mt_lower (pe_c T_of hr (by decide) (by rfl) (pa_cons (pv 0) (pa_cons (pe_callTy (call_listS hr.hd) (by rfl) T.z_list (by decide +kernel) (pa_cons (pv 2) pa_nil)) pa_nil))))))
(pss_one (ps_for PassesOwn.never rfl (pi_range1 rfl T.z_range (pa_cons (pe_op op_add pe_int (pe_c T_draw hr (by decide) (by rfl) (pa_cons (pv 0) (pa_cons (pv 3) pa_nil)))) pa_nil)) (pg_name (i := 8) sc_one_word.nd rfl (Or.inl rfl))
(pss_one (ps_set (i := 6) sc_one_word.nd rfl (Or.inl rfl) (pe_op op_add_str (pv 6) (pe_ix ix_str (pv 4) (pe_c T_draw hr (by decide) (by rfl) (pa_cons (pv 0) (pa_cons pe_int pa_nil))) (fun _ _ => rfl))))))))))
(pss_cons (ps_while PassesOwn.never (PW.pt (pw_or (pt_cmpR op_in_seq (pv 6) (pv 1) rfl) (pw_or1 (pt_cmpR op_in_seq (pv 6) (pe_c0 T_reserved hr (by decide) (by rfl)) rfl))))
(pss_one (ps_set (i := 6) sc_one_word.nd rfl (Or.inl rfl) (pe_op op_add_str (pe_slice sl_str (pv 6) po_none (po_some (pe_un un_neg pe_int))) (pe_ix ix_str (pv 4) (pe_op op_mod (pe_callTy call_int1 (by rfl) T.z_int (by decide +kernel) (pa_cons (pe_op op_add (pe_bm PySem.F.plainAttrs_str PySem.F.slot_str_find PySem.F.type_str_find mt_find (pv 4) (pa_cons (pe_ix ix_str (pv 6) (pe_un un_neg pe_int) (fun _ _ => rfl)) pa_nil)) pe_int) pa_nil)) pe_int) (fun _ _ => rfl))))))
(pss_one (ps_ret (pv 6)))))), ?_⟩
    refine ⟨_, rfl, p, q, _, n, rfl, hB, by omega, by decide, by decide, fun H1 d b1 hB1 d0 d1 => ⟨_, _, _, rfl, ?_⟩⟩
    have hl1 := b1 _ _ hlp hl
    have lt_line : LTR.length ≤ sizeLine := by decide
    have one_line : ∀ {z : Str} {c : Nat}, z.length ≤ 20 → z.length + ((⟨#[c]⟩ : Str)).length ≤ sizeLine := fun {z c} h => Nat.le_trans (Nat.add_le_add h (Nat.le_refl 1)) (by decide)
    dsimp only
    refine seq_join (fun σ' H' => ∃ z v7 v8, σ' = [some (.ref p), some (.ref l), some (.str m), some (.int (mx : Nat)), some (.str LTR), some (.int d), some (.str z), v7, v8] ∧ WordS z ∧ Bar p H H' ∧ StrA H' p q (n + 12)) (fun nx hnx => ?_) ?_
    · have loop : ∀ (D : Ends), (∀ σ' H', (∃ z v7 v8, σ' = [some (.ref p), some (.ref l), some (.str m), some (.int (mx : Nat)), some (.str LTR), some (.int d), some (.str z), v7, v8] ∧ WordS z ∧ Bar p H H' ∧ StrA H' p q (n + 12)) → D.nx σ' H') → ∀ H2, Bar p H H2 → StrA H2 p q (n + 1) →
          tFor (iRng1 (tCons (tOp (rI0 fun i j => V.int (i + j)) (tC (V.int 1)) (tCall spDraw [] C8.E0 (tCons (tVar 0) (tCons (tVar 3) tNil)))) tNil)) (gName 8) (tAsg (tOp (fun x y H Q => ∃ i j, x = V.str i ∧ y = V.str j ∧ i.length + j.length ≤ sizeLine ∧ Q (V.str (i ++ j)) H) (tVar 6) (tOp rIxS (tVar 4) (tCall spDraw [] C8.E0 (tCons (tVar 0) (tCons (tC (V.int 26)) tNil))))) (gName 6)) D [some (.ref p), some (.ref l), some (.str m), some (.int (mx : Nat)), some (.str LTR), some (.int d), some (.str ""), none, none] H2 := fun D hD H2 b2 hB2 => by
        refine ⟨_, rfl, _, rfl, p, q, _, n + 1, rfl, hB2, by omega, by omega, by omega, fun H3 e b3 hB3 e0 e1 => ⟨_, _, rfl, rfl, _, rfl, by omega, by omega, for_it walk_range (fun i σ H' => ∃ z v8, σ = [some (.ref p), some (.ref l), some (.str m), some (.int (mx : Nat)), some (.str LTR), some (.int d), some (.str z), none, v8] ∧ z.length = i ∧ (∀ c ∈ z.cps.toList, c ∈ LETS) ∧ Bar p H H' ∧ StrA H' p q (n + 2 + i)) ⟨"", none, rfl, rfl, fun c hc => absurd hc List.not_mem_nil, b2.trans b3, hB3⟩ (fun _ _ _ _ _ => trivial) ?_ ?_⟩⟩
        · rintro i x σ H4 H4' hi ⟨z, v8, rfl, hz, hzl, b4, hB4⟩ ⟨rfl, rfl⟩
          have hi : i < 8 := by
            have : ((1 + e).toNat) ≤ 8 := by omega
            omega
          refine ⟨_, rfl, _, rfl, _, rfl, p, q, _, n + 2 + i, rfl, hB4, by omega, by decide, by decide, fun H5 g b5 hB5 g0 g1 => ?_⟩
          obtain ⟨j, rfl⟩ := Int.eq_ofNat_of_zero_le g0
          have hj : j < 26 := by omega
          refine ⟨LTR, _, _, rfl, rfl, lt_line, at26 hj, _, _, rfl, rfl, one_line (by omega), ?_⟩
          refine ⟨_, _, rfl, ?_, fun c hc => ?_, b4.trans b5, hB5⟩
          · rw [Str.length_append, hz]
            rfl
          · rw [Str.cps_append, Array.toList_append] at hc
            rcases List.mem_append.mp hc with hc | hc
            · exact hzl c hc
            · have : c = 97 + j := by simpa using hc
              rw [this]
              exact lets_mem hj
        · rintro σ H4 ⟨z, v8, rfl, hz, hzl, b4, hB4⟩
          have hz1 : z.length = (1 + e).toNat := by simpa using hz
          exact hD _ _ ⟨z, _, _, rfl, ⟨by omega, by omega, hzl⟩, b4, hB4.mono (by omega)⟩
      refine ⟨_, rfl, rfl, _, rfl, ?_⟩
      by_cases hd0 : d = 0
      · subst hd0
        refine iteT ⟨_, rfl, by decide, fun e1 n1 => ?_⟩
        have s1 := same_new (o := .lst ([] : List V)) n1
        refine ⟨_, _, .lst (SqL.of (s1 _ _ hl1)) (dp_all_strs ws), .lst (SqL.of upd_same) .nil, shaped_txs fun y hy => (hws y hy).sm.small, by decide, _, rfl, ite_b (fun hne => ?_) (fun _ => ?_)⟩
        · have h0 : 0 < ws.length := by
            cases ws with
            | nil => cases hne
            | cons a r => exact Nat.succ_pos _
          refine ⟨_, rfl, _, rfl, p, q, l, _, n + 1, rfl, hB1.same s1, by omega, hlp, s1 _ _ hl1, by rw [List.length_map]; exact h0, by rw [List.length_map]; omega, fun H2 x b2 hB2 hx => ?_⟩
          obtain ⟨y, hy, rfl⟩ := List.mem_map.mp hx
          have wy := hws y hy
          have wy1 := wy.1
          have wy8 := wy.2.1
          dsimp only [gName]
          refine ⟨_, rfl, _, rfl, y, rfl, wy.line, p, q, _, n + 2, rfl, hB2, by omega, by omega, by omega, fun H3 e b3 hB3 e0 e1 => ?_⟩
          obtain ⟨e, rfl⟩ := Int.eq_ofNat_of_zero_le e0
          dsimp only [gName]
          refine ⟨_, rfl, _, rfl, _, rfl, y, rfl, wy.line, _, rfl, _, rfl, p, q, _, n + 3, rfl, hB3, by omega, by decide, by decide, fun H4 g b4 hB4 g0 g1 => ?_⟩
          obtain ⟨j, rfl⟩ := Int.eq_ofNat_of_zero_le g0
          have hj : j < 26 := by omega
          have cp := cut_pre (z := y) (i := e)
          have wp := word_put wy (e := e) (by omega) (lets_mem hj)
          refine ⟨LTR, _, _, rfl, rfl, lt_line, at26 hj, _, _, rfl, rfl, one_line (by omega), _, rfl, _, rfl, _, _, rfl, rfl, _, rfl, y, rfl, wy.line, _, _, rfl, rfl, ?_, ?_⟩
          · rw [← Str.length_append]
            exact wp.line
          · exact hnx _ _ ⟨_, _, _, rfl, wp, ((((b1.trans (bar_of s1)).trans b2).trans b3).trans b4), hB4.mono (by omega)⟩
        · refine iteF (A := True) ?_
          refine ⟨_, rfl, rfl, _, rfl, ?_⟩
          refine iteF ?_
          exact loop _ hnx _ (b1.trans (bar_of s1)) (hB1.same s1)
      · rw [decide_eq_false (fun q => hd0 (by injection q))]
        refine iteF (iteF ⟨_, rfl, rfl, _, rfl, ite_b (fun _ => ?_) (fun _ => ?_)⟩)
        · refine ⟨_, rfl, _, rfl, m, rfl, Nat.le_trans hm.2.1 (by decide), fun l2 n2 => ?_⟩
          have s2 := same_new (o := .lst (m.cps.toList.map sg)) n2
          have ml : (m.cps.toList.map sg).length = m.length := by
            rw [List.length_map, Array.length_toList]
            rfl
          have m1 := hm.1
          have m3 := hm.2.1
          refine ⟨p, q, l2, _, n + 1, rfl, hB1.same s2, by omega, (hB1.ne n2).1, upd_same, by omega, by omega, fun H2 x b2 hB2 hx => ?_⟩
          obtain ⟨c, hc, rfl⟩ := List.mem_map.mp hx
          obtain ⟨c2, e2, hc2⟩ := lower_ok (hm.2.2 c hc)
          refine ⟨rfl, _, rfl, rfl, by show 1 ≤ 5592405; decide, ?_⟩
          rw [e2]
          refine hnx _ _ ⟨_, _, _, rfl, ⟨Nat.le_refl _, by show 1 ≤ 8; decide, fun c hc => ?_⟩, (b1.trans (bar_of s2)).trans b2, hB2.mono (by omega)⟩
          have : c = c2 := by simpa using hc
          rw [this]
          exact hc2
        · exact loop _ hnx _ b1 hB1
    · rintro σ' H2 ⟨z, v7, v8, rfl, hz, b2, hB2⟩
      obtain ⟨pre, k0, rfl, hpre, h7⟩ := hz.split
      obtain ⟨j0, hj0, hfree⟩ := vr_free (pre := pre) (k0 := k0) (fb := ws ++ RESV) (by rw [List.length_append]; exact Nat.lt_of_le_of_lt (Nat.add_le_add hw (Nat.le_refl _)) (by decide))
      have body : ∀ (D : Ends) t H3, (∀ σ' H', (∃ t', t' = t + 1 ∧ σ' = [some (.ref p), some (.ref l), some (.str m), some (.int (mx : Nat)), some (.str LTR), some (.int d), some (.str (vr pre (k0 + t'))), v7, v8] ∧ H' = H3) → D.nx σ' H') →
          tAsg (tOp (fun x y H Q => ∃ i j, x = V.str i ∧ y = V.str j ∧ i.length + j.length ≤ sizeLine ∧ Q (V.str (i ++ j)) H) (tSl rSlS (tVar 6) tNoPart (tPart (tUn (rU fun i => V.int (-i)) (tC (V.int 1))))) (tOp rIxS (tVar 4) (tOp (rI (fun x j => 0 < j) fun i j => V.int (i % j)) (tCB (fun xs H Q => (∃ i, xs = [V.int i] ∧ Q (V.int i) H) ∨ ∃ k, xs = [V.bl k] ∧ Q (V.int (if k = true then 1 else 0)) H) (tCons (tOp (rI0 fun i j => V.int (i + j)) (tBM K "str" (fun x xs H Q => ∃ a b, x = V.str a ∧ xs = [V.str b] ∧ Q (V.int (Txt.find a b)) H) (tVar 4) (tCons (tOp rIxS (tVar 6) (tUn (rU fun i => V.int (-i)) (tC (V.int 1)))) tNil)) (tC (V.int 1))) tNil)) (tC (V.int 26))))) (gName 6) D [some (.ref p), some (.ref l), some (.str m), some (.int (mx : Nat)), some (.str LTR), some (.int d), some (.str (vr pre (k0 + t))), v7, v8] H3 := fun D t H3 hD => by
        have wv := vr_word (k := k0 + t) hpre h7
        refine ⟨_, rfl, _, rfl, _, rfl, _, rfl, wv.line, ?_⟩
        have ec : cutS (vr pre (k0 + t)) none (some (-1)) = S pre := cut_init_s
        refine ⟨_, rfl, _, rfl, rfl, _, rfl, _, rfl, _, _, 97 + (k0 + t) % 26, rfl, rfl, wv.line, ?_, _, _, rfl, rfl, _, _, rfl, rfl, .inl ⟨_, rfl, _, _, rfl, rfl, (by show (0 : Int) < 26; decide), LTR, _, 97 + ((k0 + t) % 26 + 1) % 26, rfl, rfl, lt_line, ?_, _, _, rfl, rfl, ?_, ?_⟩⟩
        · unfold vr
          rw [S_list]
          exact atI_last _ _
        · have ef : Txt.find LTR ⟨#[97 + (k0 + t) % 26]⟩ = (((k0 + t) % 26 : Nat) : Int) := find_ok (Nat.mod_lt _ (by decide))
          rw [ef]
          have e26 : ((((k0 + t) % 26 : Nat) : Int) + 1) % 26 = ((((k0 + t) % 26 + 1) % 26 : Nat) : Int) := by omega
          rw [e26]
          exact at26 (Nat.mod_lt _ (by decide))
        · rw [ec]
          exact one_line (by rw [SX.S_len]; omega)
        · rw [ec, vr_next]
          exact hD _ _ ⟨t + 1, rfl, rfl, rfl⟩
      refine ⟨fun mm σ H' => ∃ t, t ≤ j0 ∧ mm = j0 - t ∧ σ = [some (.ref p), some (.ref l), some (.str m), some (.int (mx : Nat)), some (.str LTR), some (.int d), some (.str (vr pre (k0 + t))), v7, v8] ∧ Bar p H H' ∧ StrA H' p q (n + 12), ⟨_, 0, Nat.zero_le _, rfl, rfl, b2, hB2⟩, ?_⟩
      rintro mm σ H3 ⟨t, ht, rfl, rfl, b3, hB3⟩
      have more : (vr pre (k0 + t) ∈ ws ++ RESV) → t + 1 ≤ j0 := fun hin => by
        have : t ≠ j0 := fun e => hfree (e ▸ hin)
        omega
      refine ⟨_, rfl, _, rfl, l, _, rfl, .inl (SqL.of (b3 _ _ hlp hl)), rfl, WB.flat_strsW ws, ?_⟩
      show ∃ c, V.bl (inV (.str (vr pre (k0 + t))) (ws.map V.str)) = .bl c ∧ _
      rw [inV_strs]
      refine ⟨_, rfl, ?_⟩
      cases h1 : hasS ws (vr pre (k0 + t)) with
      | true =>
        have hin := more (List.mem_append_left _ (hasS_mem.mp h1))
        refine iteT (iteT ⟨fun σ' H' => ∃ t', t' = t + 1 ∧ σ' = [some (.ref p), some (.ref l), some (.str m), some (.int (mx : Nat)), some (.str LTR), some (.int d), some (.str (vr pre (k0 + t'))), v7, v8] ∧ H' = H3, ?_, body _ t H3 fun _ _ h => h⟩)
        rintro σ' H' ⟨t', rfl, rfl, rfl⟩
        exact ⟨j0 - (t + 1), by omega, t + 1, hin, rfl, rfl, b3, hB3⟩
      | false =>
        refine iteF ⟨_, rfl, (), rfl, fun H4 l2 s4 n4 h4 => ?_⟩
        refine ⟨l2, _, rfl, .inl (SqL.of h4), rfl, WB.flat_strsW RESV, ?_⟩
        show ∃ c, V.bl (inV (.str (vr pre (k0 + t))) (RESV.map V.str)) = .bl c ∧ _
        rw [inV_strs]
        refine ⟨_, rfl, ?_⟩
        cases h2 : hasS RESV (vr pre (k0 + t)) with
        | true =>
          have hin := more (List.mem_append_right _ (hasS_mem.mp h2))
          refine iteT ⟨fun σ' H' => ∃ t', t' = t + 1 ∧ σ' = [some (.ref p), some (.ref l), some (.str m), some (.int (mx : Nat)), some (.str LTR), some (.int d), some (.str (vr pre (k0 + t'))), v7, v8] ∧ H' = H4, ?_, body _ t H4 fun _ _ h => h⟩
          rintro σ' H' ⟨t', rfl, rfl, rfl⟩
          exact ⟨j0 - (t + 1), by omega, t + 1, hin, rfl, rfl, b3.trans (bar_of s4), hB3.same s4⟩
        | false =>
          exact iteF ⟨_, rfl, k _ _ (b3.trans (bar_of s4)) ((hB3.same s4).mono (by omega)) (wordB_of (vr_word hpre h7) h2) fun hm2 => by rw [hasS_mem.mpr hm2] at h1; cases h1⟩
theorem ok_drawn_words {f : Addr} {fd : FuncData} (F : Fun K "_law_drawn_words" "_law_drawn_words" s_drawn_words f fd) (T : Top K mg) (T_one_word : Cal P w K mg base 3 "_law_one_word" spWordG []) : FnOk P w K mg base CX0 4 f fd ["_law_stream", "_law_taken", "_law_marks", "_law_many", "_law_most"] spWordsG := by
  refine F.ok sc_drawn_words (fun vs H Q E h => ?_) (fun cdv A outer s H vs Q E hr h => ?_)
  · obtain ⟨p, q, l, ws, m, k, mx, n, rfl, _⟩ := h
    rfl
  · obtain ⟨p, q, l, ws, m, k, mx, n, rfl, hB, hn, hlp, hl, hw, x1, x8, hws, hnd, hm, kk⟩ := h
    refine ⟨_, (pss_cons (ps_set (i := 5) sc_drawn_words.nd rfl (Or.inl rfl) (pe_lst pa_nil))
(pss_cons (ps_for PassesOwn.never rfl (pi_range1 rfl T.z_range (pa_cons (pv 3) pa_nil)) (pg_name (i := 6) sc_drawn_words.nd rfl (Or.inl rfl))
(pss_one (ps_expr (pe_bm PySem.F.plainAttrs_list PySem.F.slot_list_append PySem.F.type_list_append mt_append (pv 5) (pa_cons (pe_c T_one_word hr (by decide) (by rfl) (pa_cons (pv 0) (pa_cons (pe_op op_cat (pv 1) (pv 5)) (pa_cons (pv 2) (pa_cons (pv 4) pa_nil))))) pa_nil)))))
(pss_one (ps_ret (pv 5))))), ?_⟩
    refine ⟨by decide, fun r nr => ?_⟩
    have s1 := same_new (o := .lst ([] : List V)) nr
    have rp := (hB.ne nr)
    have rl : l ≠ r := ne_of_none hl nr
    dsimp only [gName]
    refine ⟨_, rfl, _, rfl, by omega, by omega, for_it walk_range (fun i σ H' => ∃ (vs : List Str) (v6 : Option V), σ = [some (.ref p), some (.ref l), some (.str m), some (.int (k : Nat)), some (.int (mx : Nat)), some (.ref r), v6] ∧ H' r = some (.lst (vs.map V.str)) ∧ vs.length = i ∧ (∀ z ∈ vs, wordB z = true) ∧ (ws ++ vs).Nodup ∧ Bar p H H' ∧ StrA H' p q (n + 20 * i)) ⟨[], none, rfl, upd_same, rfl, fun _ h => absurd h List.not_mem_nil, by rw [List.append_nil]; exact hnd, bar_of s1, hB.same s1⟩ (fun _ _ _ _ _ => trivial) ?_ ?_⟩
    · rintro i x σ H1 H1' hi ⟨vs, v6, rfl, h1, hv, hvs, hnv, b1, hB1⟩ ⟨rfl, rfl⟩
      have hi : i < k := by simpa using hi
      have hl1 := b1 _ _ hlp hl
      refine ⟨_, rfl, .inl ⟨rfl, _, SqL.of h1⟩, _, rfl, _, rfl, _, rfl, l, r, _, _, rfl, rfl, hl1, h1, ?_, fun l2 n2 => ?_⟩
      · rw [List.length_map, List.length_map]
        exact Nat.le_trans (by omega : ws.length + vs.length ≤ 8) (by decide)
      have s2 := same_new (o := .lst (ws.map V.str ++ vs.map V.str)) n2
      refine ⟨_, rfl, _, rfl, p, q, l2, ws ++ vs, m, mx, n + 20 * i, rfl, hB1.same s2, by omega, (hB1.ne n2).1, by rw [upd_same, List.map_append], by rw [List.length_append]; omega, x1, x8, fun z hz => ?_, hm, fun H2 z b2 hB2 hz hzn => ?_⟩
      · rcases List.mem_append.mp hz with hz | hz
        · exact hws z hz
        · exact wordB_S (hvs z hz)
      have h2 := b2 _ _ rp.1 (s2 _ _ h1)
      refine ⟨r, _, _, rfl, rfl, h2, ?_, ?_⟩
      · rw [List.length_map]
        exact Nat.lt_of_le_of_lt (by omega : vs.length ≤ 8) (by decide)
      · refine ⟨vs ++ [z], _, rfl, by rw [upd_same, List.map_append]; rfl, by rw [List.length_append, hv]; rfl, fun y hy => ?_, (by
          rw [← List.append_assoc]
          refine List.nodup_append.mpr ⟨hnv, List.nodup_cons.mpr ⟨List.not_mem_nil, List.nodup_nil⟩, fun a ha b hb e => ?_⟩
          rw [List.mem_singleton.mp hb] at e
          exact hzn (e ▸ ha)), fun b u nb hb => ?_, (hB2.put rp.1 rp.2).mono (by omega)⟩
        · rcases List.mem_append.mp hy with hy | hy
          · exact hvs y hy
          · rw [List.mem_singleton.mp hy]
            exact hz
        · rw [upd_ne (ne_of_none hb nr)]
          exact b2 _ _ nb (s2 _ _ (b1 _ _ nb hb))
    · rintro σ H1 ⟨vs, v6, rfl, h1, hv, hvs, hnv, b1, hB1⟩
      have hv : vs.length = k := by simpa using hv
      have ek : ((k : Nat) : Int).toNat = k := by simp
      exact ⟨_, rfl, kk _ r vs b1 (hB1.mono (by omega)) nr h1 hv hvs hnv⟩
end
end W29

set_option Elab.async false
set_option linter.all false
set_option maxRecDepth 100000
set_option maxHeartbeats 4000000
namespace W29
open PySem L2 WB
open C8 (pe_c pe_mk pe_mt pe_mt0 Cal Mak Met)
section
variable {P : Program} {w : World} {K : PySem.W.Frag} {mg : Str → Option Value} {base : Heap}
theorem ok_plains {f : Addr} {fd : FuncData} (F : Fun K "_law_plains" "_law_plains" s_plains f fd) (T : Top K mg) (T_draw : Cal P w K mg base 1 "_law_draw" spDraw []) (T_binding : Cal P w K mg base 5 "_law_binding" spBindG []) (T_plain_row : Cal P w K mg base 6 "_law_plain_row" spRowG []) : FnOk P w K mg base CX0 7 f fd ["_law_stream", "_law_known", "_law_fresh", "_law_most", "_law_marks"] (spPlainsG K) := by
  refine F.ok sc_plains (fun vs H Q E h => ?_) (fun cdv A outer s H vs Q E hr h => ?_)
  · obtain ⟨p, q, l1, l2, ks, fs, m, mo, n, rfl, _⟩ := h
    rfl
  · obtain ⟨p, q, l1, l2, ks, fs, m, mo, n, rfl, hB, hn, np1, np2, hl1, hl2, hk, hf, hmo, hks, hfs, hnd, hm, k⟩ := h
    refine ⟨_, (pss_cons (ps_par3 (i := 5) (j := 1) (l := 6) rfl sc_plains.nd rfl rfl rfl (by decide) (by decide) (by decide) rfl rfl rfl (by exact (pa_cons (pe_lst pa_nil) (pa_cons (pe_callTy call_list_of (by rfl) T.z_list (by decide +kernel) (pa_cons (pv 1) pa_nil)) (pa_cons (pe_callTy call_list_of (by rfl) T.z_list (by decide +kernel) (pa_cons (pv 2) pa_nil)) pa_nil)))) rfl)
(pss_cons (ps_set (i := 7) sc_plains.nd rfl (Or.inl rfl) (pe_c T_draw hr (by decide) (by rfl) (pa_cons (pv 0) (pa_cons (pe_op op_add (pe_op op_sub (pv 3) (pe_callB call_len_seq (by rfl) T.z_len (by decide +kernel) (pa_cons (pv 2) pa_nil))) pe_int) pa_nil))))
(pss_cons (ps_for PassesOwn.never rfl (pi_range1 rfl T.z_range (pa_cons (pv 3) pa_nil)) (pg_name (i := 8) sc_plains.nd rfl (Or.inl rfl))
(pss_one (ps_if (PW.pt (pw_and (pt_cmpR (op_neD hr.units) (pv 6) (pe_lst pa_nil) (nomark _)) (pw_and1 (PW.pt (pw_or (pt_cmpR (op_eqD hr.units) (pv 1) (pe_lst pa_nil) (nomark _)) (pw_or (pt_cmpR op_eq (pv 7) pe_int (nomark _)) (pw_or1 (pt_cmpR op_eq (pe_c T_draw hr (by decide) (by rfl) (pa_cons (pv 0) (pa_cons pe_int pa_nil))) pe_int (nomark _)))))))))
(pss_cons (ps_set (i := 9) sc_plains.nd rfl (Or.inl rfl) (pe_c T_binding hr (by decide) (by rfl) (pa_cons (pv 0) (pa_cons (pe_ix ix_list (pv 6) pe_int (fun _ _ => rfl)) (pa_cons (pv 1) (pa_cons (pv 4) pa_nil))))))
(pss_cons (ps_expr (pe_bm PySem.F.plainAttrs_list PySem.F.slot_list_append PySem.F.type_list_append mt_append (pv 1) (pa_cons (pe_bm PySem.F.plainAttrs_list PySem.F.slot_list_pop PySem.F.type_list_pop mt_popAt (pv 6) (pa_cons pe_int pa_nil)) pa_nil)))
(pss_one (ps_expr (pe_bm PySem.F.plainAttrs_list PySem.F.slot_list_append PySem.F.type_list_append mt_append (pv 5) (pa_cons (pv 9) pa_nil))))))
(pss_one (ps_if (PW.pt (pw_and (pt_cmpR op_gt (pv 7) pe_int (nomark _)) (pw_and1 (pt_cmpR (op_neD hr.units) (pv 1) (pe_lst pa_nil) (nomark _)))))
(pss_cons (ps_expr (pe_bm PySem.F.plainAttrs_list PySem.F.slot_list_append PySem.F.type_list_append mt_append (pv 5) (pa_cons (pe_c T_plain_row hr (by decide) (by rfl) (pa_cons (pv 0) (pa_cons (pv 1) (pa_cons (pv 4) pa_nil)))) pa_nil)))
(pss_one (ps_set (i := 7) sc_plains.nd rfl (Or.inl rfl) (pe_op op_sub (pv 7) pe_int))))
pss_nil)))))
(pss_one (ps_ret (pv 5)))))), ?_⟩
    refine ⟨by decide, fun r nr => ?_⟩
    have s1 := same_new (o := .lst ([] : List V)) nr
    refine ⟨_, rfl, l1, _, rfl, .inl (SqL.of (s1 _ _ hl1)), fun k1 nk => ?_⟩
    have s2 := s1.trans (same_new (o := .lst (ks.map V.str)) nk)
    refine ⟨_, rfl, l2, _, rfl, .inl (SqL.of (s2 _ _ hl2)), fun g ng => ⟨_, _, _, rfl, ?_⟩⟩
    have s3 := s2.trans (same_new (o := .lst (fs.map V.str)) ng)
    have rk : r ≠ k1 := ne_of_none upd_same nk
    have kg : k1 ≠ g := ne_of_none upd_same ng
    have rg : r ≠ g := ne_of_none (same_new nk _ _ upd_same) ng
    have xr : (upd (upd (upd H r (.lst [])) k1 (.lst (ks.map V.str))) g (.lst (fs.map V.str))) r = some (.lst (([] : List Str).map V.str)) := same_new ng _ _ (same_new nk _ _ upd_same)
    have xk : (upd (upd (upd H r (.lst [])) k1 (.lst (ks.map V.str))) g (.lst (fs.map V.str))) k1 = some (.lst (ks.map V.str)) := same_new ng _ _ upd_same
    have xg : (upd (upd (upd H r (.lst [])) k1 (.lst (ks.map V.str))) g (.lst (fs.map V.str))) g = some (.lst (fs.map V.str)) := upd_same
    have nk0 : H k1 = none := s1.free nk
    have ng0 : H g = none := s2.free ng
    have pr := hB.ne nr
    have pk := hB.ne nk0
    have pg := hB.ne ng0
    generalize (upd (upd (upd H r (.lst [])) k1 (.lst (ks.map V.str))) g (.lst (fs.map V.str))) = G at *
    dsimp only
    refine ⟨_, rfl, _, rfl, _, rfl, l2, _, rfl, .inl (SqL.of (s3 _ _ hl2)), _, _, rfl, rfl, _, _, rfl, rfl, p, q, _, n, rfl, hB.same s3, by omega, by rw [List.length_map]; omega, by rw [List.length_map]; omega, fun H1 ex b1 hB1 e0 e1 => ?_⟩
    dsimp only [gName]
    rw [List.length_map] at e1
    refine ⟨_, rfl, _, rfl, by omega, by omega, for_it walk_range (fun i σ H' => ∃ (v8 v9 : Option V) (ks' fs' rs : List Str) (ex : Int), σ = [some (.ref p), some (.ref k1), some (.ref l2), some (.int (mo : Nat)), some (.str m), some (.ref r), some (.ref g), some (.int ex), v8, v9] ∧ H' r = some (.lst (rs.map V.str)) ∧ H' k1 = some (.lst (ks'.map V.str)) ∧ H' g = some (.lst (fs'.map V.str)) ∧
      (rs.length ≤ i ∧ ks'.length + fs'.length ≤ 14) ∧ (0 ≤ ex ∧ (fs' = [] ∨ (fs'.length : Int) + ex + i ≤ mo)) ∧ ks' ++ fs' = ks ++ fs ∧ bound m (rs.map V.str) 0 ks = .inr ks' ∧ (∀ z ∈ rs, Sm 30 z) ∧ (∀ z ∈ ks', WordS z) ∧ (∀ z ∈ fs', wordB z = true) ∧ Bar p H H' ∧ StrA H' p q (n + 1 + 60 * i))
      ⟨none, none, ks, fs, [], ex, rfl, b1 _ _ pr.1 xr, b1 _ _ pk.1 xk, b1 _ _ pg.1 xg, ⟨Nat.le_refl _, by omega⟩, ⟨e0, .inr (by omega)⟩, rfl, rfl, fun _ h => absurd h List.not_mem_nil, hks, hfs, (bar_of s3).trans b1, hB1⟩ (fun _ _ _ _ _ => trivial) ?_ ?_⟩
    · rintro i x σ H0 H2 hi ⟨v8, v9, ks', fs', rs, ex, rfl, yr, yk, yg, ⟨c1, c2⟩, ⟨x0, hx⟩, ekf, hbd, ar, ak, ag, b2, hB2⟩ ⟨rfl, rfl⟩
      have hi : i < mo := by simpa using hi
      refine ifs_join (fun b H' => (b = true → 0 < fs'.length) ∧ (b = false → fs' = [] ∨ (0 < ks'.length ∧ ex ≠ 0)) ∧ Bar p H2 H' ∧ StrA H' p q (n + 2 + 60 * i)) (fun Q' hQ => ?_) (fun H3 h3 => ?_) (fun H3 h3 => ?_)
      · refine ⟨_, rfl, by decide, fun e1 n1 => ?_⟩
        have t1 := same_new (o := .lst ([] : List V)) n1
        refine ⟨_, _, .lst (SqL.of (t1 _ _ yg)) (dp_all_strs fs'), .lst (SqL.of upd_same) .nil, shaped_txs fun y hy => (wordB_S (ag y hy)).sm.small, by decide, _, rfl, ite_b (fun hne => ?_) (fun hne => hQ _ _ ⟨Bool.noConfusion, fun _ => .inl (by rw [eqv_nil] at hne; cases fs' with | nil => rfl | cons a r => rw [decide_eq_false (by simp)] at hne; cases hne), bar_of t1, (hB2.same t1).mono (by omega)⟩)⟩
        rw [eqv_nil] at hne
        have f0 : 0 < fs'.length := by
          refine Nat.pos_of_ne_zero fun e => ?_
          rw [decide_eq_true e] at hne
          cases hne
        refine ⟨_, rfl, by decide, fun e2 n2 => ?_⟩
        have t2 := t1.trans (same_new (o := .lst ([] : List V)) n2)
        refine ⟨_, _, .lst (SqL.of (t2 _ _ yk)) (dp_all_strs ks'), .lst (SqL.of upd_same) .nil, shaped_txs fun y hy => (ak y hy).sm.small, by decide, _, rfl, ite_b (fun _ => hQ _ _ ⟨fun _ => f0, Bool.noConfusion, bar_of t2, (hB2.same t2).mono (by omega)⟩) (fun hk0 => ?_)⟩
        rw [eqv_nil] at hk0
        have k0 : 0 < ks'.length := by
          refine Nat.pos_of_ne_zero fun e => ?_
          rw [decide_eq_true e] at hk0
          cases hk0
        refine ⟨_, rfl, rfl, _, rfl, ite_b (fun _ => hQ _ _ ⟨fun _ => f0, Bool.noConfusion, bar_of t2, (hB2.same t2).mono (by omega)⟩) (fun hxe => ?_)⟩
        have xne : ex ≠ 0 := fun e => of_decide_eq_false hxe (by rw [e])
        exact ⟨_, rfl, p, q, _, n + 1 + 60 * i, rfl, hB2.same t2, by omega, by decide, by decide, fun H3 d b3 hB3 d0 d1 => ⟨rfl, _, rfl, hQ _ _ ⟨fun _ => f0, fun _ => .inr ⟨k0, xne⟩, (bar_of t2).trans b3, hB3.mono (by omega)⟩⟩⟩
      · obtain ⟨f0, _, b3, hB3⟩ := h3
        have f0 := f0 rfl
        obtain ⟨f, fr, rfl⟩ : ∃ f fr, fs' = f :: fr := by
          match fs', f0 with
          | f :: fr, _ => exact ⟨f, fr, rfl⟩
        have zr := b3 _ _ pr.1 yr
        have zk := b3 _ _ pk.1 yk
        have zg := b3 _ _ pg.1 yg
        have hf8 := ag f List.mem_cons_self
        have len2 : ks'.length + (fr.length + 1) ≤ 14 := c2
        have hf8 : WordS f := wordB_S hf8
        have hxx : (((f :: fr).length : Nat) : Int) + ex + i ≤ mo := hx.resolve_left (by simp)
        have hxx : ((fr.length + 1 : Nat) : Int) + ex + i ≤ mo := hxx
        have hfn := nodup_mid hnd ekf
        refine ⟨_, rfl, _, rfl, g, _, _, .str f, rfl, rfl, SqL.of zg, atI_nat (j := 0) rfl, _, rfl, _, rfl, p, q, k1, f, ks', m, n + 2 + 60 * i, rfl, hB3, by omega, pk.1, zk, by omega, ak, hf8, hm, fun H4 z b4 hB4 hz => ?_⟩
        dsimp only [gName]
        have ur := b4 _ _ pr.1 zr
        have uk := b4 _ _ pk.1 zk
        have ug := b4 _ _ pg.1 zg
        refine ⟨_, rfl, .inl ⟨rfl, _, SqL.of uk⟩, _, rfl, .inl ⟨rfl, _, SqL.of ug⟩, g, _, 0, 0, .str f, rfl, rfl, ug, by decide, by decide, PyProof.Rows.seqIndex?_zero (Nat.succ_pos _), rfl, k1, _, _, rfl, rfl, (upd_ne kg).trans uk, ?_, ?_⟩
        · rw [List.length_map]
          exact Nat.lt_of_le_of_lt (by omega : ks'.length ≤ 14) (by decide)
        refine ⟨_, rfl, .inl ⟨rfl, _, SqL.of ((upd_ne rk).trans ((upd_ne rg).trans ur))⟩, _, rfl, r, _, _, rfl, rfl, (upd_ne rk).trans ((upd_ne rg).trans ur), ?_, ?_⟩
        · rw [List.length_map]
          exact Nat.lt_of_le_of_lt (by omega : rs.length ≤ 14) (by decide)
        refine ⟨_, _, ks' ++ [f], fr, rs ++ [z], ex, rfl, ?_, ?_, ?_, ⟨?_, ?_⟩, ⟨x0, .inr (by omega)⟩, by rw [← ekf, List.append_assoc]; rfl, by rw [List.map_append]; exact bound_new hbd hz (ag f List.mem_cons_self) hfn, fun y hy => ?_, fun y hy => ?_, fun y hy => ag y (List.mem_cons_of_mem _ hy), fun b u nb hb => ?_, ?_⟩
        · rw [upd_same, List.map_append]
          rfl
        · rw [upd_ne rk.symm, upd_same, List.map_append]
          rfl
        · rw [upd_ne rg.symm, upd_ne kg.symm, upd_same]
          rfl
        · rw [List.length_append]
          exact Nat.succ_le_succ c1
        · rw [List.length_append]
          show ks'.length + 1 + fr.length ≤ 14
          omega
        · rcases List.mem_append.mp hy with hy | hy
          · exact ar y hy
          · rw [List.mem_singleton.mp hy]
            exact hz.1
        · rcases List.mem_append.mp hy with hy | hy
          · exact ak y hy
          · rw [List.mem_singleton.mp hy]
            exact hf8
        · rw [upd_ne (ne_of_none hb nr), upd_ne (ne_of_none hb nk0), upd_ne (ne_of_none hb ng0)]
          exact b4 _ _ nb (b3 _ _ nb (b2 _ _ nb hb))
        · exact (((hB4.put pg.1 pg.2).put pk.1 pk.2).put pr.1 pr.2).mono (by omega)
      · obtain ⟨_, nf, b3, hB3⟩ := h3
        have nf := nf rfl
        have zr := b3 _ _ pr.1 yr
        have zk := b3 _ _ pk.1 yk
        have zg := b3 _ _ pg.1 yg
        refine ifs_join (fun b H' => (b = true → 0 < ks'.length ∧ 0 < ex) ∧ (b = false → ks' = [] ∨ ex ≤ 0) ∧ Bar p H3 H' ∧ StrA H' p q (n + 2 + 60 * i)) (fun Q' hQ => ?_) (fun H4 h4 => ?_) (fun H4 h4 => ?_)
        · refine ⟨_, rfl, _, _, rfl, rfl, _, rfl, ite_b (fun hxp => ?_) (fun hxn => hQ _ _ ⟨Bool.noConfusion, fun _ => .inr (by have := of_decide_eq_false hxn; omega), Bar.refl _ _, hB3⟩)⟩
          have hxp := of_decide_eq_true hxp
          refine ⟨_, rfl, by decide, fun e2 n2 => ?_⟩
          have t2 := same_new (o := .lst ([] : List V)) n2
          refine ⟨_, _, .lst (SqL.of (t2 _ _ zk)) (dp_all_strs ks'), .lst (SqL.of upd_same) .nil, shaped_txs fun y hy => (ak y hy).sm.small, by decide, _, rfl, hQ _ _ ⟨fun hne => ⟨?_, hxp⟩, fun hne => .inl ?_, bar_of t2, hB3.same t2⟩⟩
          · rw [eqv_nil] at hne
            refine Nat.pos_of_ne_zero fun e => ?_
            rw [decide_eq_true e] at hne
            cases hne
          · rw [eqv_nil] at hne
            cases ks' with
            | nil => rfl
            | cons a r =>
              rw [decide_eq_false (by simp)] at hne
              cases hne
        · obtain ⟨k0, _, b4, hB4⟩ := h4
          obtain ⟨k0, xp⟩ := k0 rfl
          have ur := b4 _ _ pr.1 zr
          have uk := b4 _ _ pk.1 zk
          have ug := b4 _ _ pg.1 zg
          refine ⟨_, rfl, .inl ⟨rfl, _, SqL.of ur⟩, _, rfl, _, rfl, _, rfl, p, q, k1, ks', m, n + 2 + 60 * i, rfl, hB4, by omega, pk.1, uk, k0, by omega, ak, hm, fun H5 z y b5 hB5 hy hz => ?_⟩
          have wr := b5 _ _ pr.1 ur
          have wk := b5 _ _ pk.1 uk
          have wg := b5 _ _ pg.1 ug
          refine ⟨r, _, _, rfl, rfl, wr, ?_, ?_⟩
          · rw [List.length_map]
            exact Nat.lt_of_le_of_lt (by omega : rs.length ≤ 14) (by decide)
          refine ⟨_, rfl, _, _, rfl, rfl, ?_⟩
          refine ⟨_, _, ks', fs', rs ++ [z], _, rfl, ?_, (upd_ne rk.symm).trans wk, (upd_ne rg.symm).trans wg, ⟨?_, c2⟩, ⟨by omega, hx.imp id fun h => by omega⟩, ekf, by rw [List.map_append]; exact bound_old hbd hz hy, fun y hy => ?_, ak, ag, fun b u nb hb => ?_, (hB5.put pr.1 pr.2).mono (by omega)⟩
          · rw [upd_same, List.map_append]
            rfl
          · rw [List.length_append]
            exact Nat.succ_le_succ c1
          · rcases List.mem_append.mp hy with hy | hy
            · exact ar y hy
            · rw [List.mem_singleton.mp hy]
              exact hz.1
          · rw [upd_ne (ne_of_none hb nr)]
            exact b5 _ _ nb (b4 _ _ nb (b3 _ _ nb (b2 _ _ nb hb)))
        · obtain ⟨_, nk, b4, hB4⟩ := h4
          have nk := nk rfl
          have fe : fs' = [] := by
            rcases nf with e | ⟨a1, a2⟩
            · exact e
            · rcases nk with e | e
              · rw [e] at a1
                cases a1
              · omega
          exact ⟨_, _, ks', fs', rs, ex, rfl, b4 _ _ pr.1 zr, b4 _ _ pk.1 zk, b4 _ _ pg.1 zg, ⟨by omega, c2⟩, ⟨x0, .inl fe⟩, ekf, hbd, ar, ak, ag, (b2.trans b3).trans b4, hB4.mono (by omega)⟩
    · rintro σ H2 ⟨v8, v9, ks', fs', rs, ex, rfl, yr, yk, yg, ⟨c1, c2⟩, ⟨x0, hx⟩, ekf, hbd, ar, ak, ag, b2, hB2⟩
      have e6 : ((mo : Nat) : Int).toNat = mo := Int.toNat_natCast _
      rw [e6] at c1 hx hB2
      have fe : fs' = [] := hx.elim id fun h => List.length_eq_zero_iff.mp (by omega)
      rw [fe, List.append_nil] at ekf
      exact ⟨_, rfl, k _ r rs b2 (hB2.mono (by omega)) nr yr (by omega) ar (by rw [hbd, ekf])⟩
theorem ok_test {f : Addr} {fd : FuncData} (F : Fun K "_law_test" "_law_test" s_test f fd) (T : Top K mg) (T_draw : Cal P w K mg base 1 "_law_draw" spDraw []) (T_of : Cal P w K mg base 2 "_law_of" (spOfS K) []) (T_term : Cal P w K mg base 3 "_law_term" spTermG []) : FnOk P w K mg base CX0 4 f fd ["_law_stream", "_law_words", "_law_marks"] spTestG := by
  refine F.ok sc_test (fun vs H Q E h => ?_) (fun cdv A outer s H vs Q E hr h => ?_)
  · obtain ⟨p, q, l, ws, m, n, rfl, _⟩ := h
    rfl
  · obtain ⟨p, q, l, ws, m, n, rfl, hB, hn, hlp, hl, hw0, hw, hws, hm, k⟩ := h
    refine ⟨_, (pss_cons (ps_set (i := 3) sc_test.nd rfl (Or.inl rfl) (pe_c T_of hr (by decide) (by rfl) (pa_cons (pv 0) (pa_cons (pe_lst (pa_cons pe_str (pa_cons pe_str (pa_cons pe_str pa_nil)))) pa_nil))))
(pss_cons (ps_set (i := 4) sc_test.nd rfl (Or.inl rfl) (pe_c T_draw hr (by decide) (by rfl) (pa_cons (pv 0) (pa_cons pe_int pa_nil))))
(pss_cons (ps_if (pt_cmpR op_eq (pv 4) pe_int (nomark _))
(pss_one (ps_ret (pe_op op_add_str (pe_op op_add_str (pe_op op_add_str (pv 3) (pe_c T_of hr (by decide) (by rfl) (pa_cons (pv 0) (pa_cons (pv 1) pa_nil)))) pe_str) (pe_c T_of hr (by decide) (by rfl) (pa_cons (pv 0) (pa_cons (pv 1) pa_nil))))))
pss_nil)
(pss_cons (ps_if (pt_cmpR op_eq (pv 4) pe_int (nomark _))
(pss_one (ps_ret (pe_op op_add_str (pe_op op_add_str (pe_op op_add_str (pv 3) (pe_c T_term hr (by decide) (by rfl) (pa_cons (pv 0) (pa_cons (pv 1) (pa_cons (pv 2) pa_nil))))) pe_str) (pe_c T_term hr (by decide) (by rfl) (pa_cons (pv 0) (pa_cons (pv 1) (pa_cons (pv 2) pa_nil)))))))
pss_nil)
(pss_cons (ps_if (pt_cmpR op_eq (pv 4) pe_int (nomark _))
(pss_one (ps_ret (pe_op op_add_str (pe_op op_add_str (pe_op op_add_str (pv 3) (pe_c T_term hr (by decide) (by rfl) (pa_cons (pv 0) (pa_cons (pv 1) (pa_cons (pv 2) pa_nil))))) pe_str) (pe_c T_term hr (by decide) (by rfl) (pa_cons (pv 0) (pa_cons (pv 1) (pa_cons (pv 2) pa_nil)))))))
pss_nil)
(pss_one (ps_ret (pe_op op_add_str (pe_op op_add_str (pe_op op_add_str (pv 3) (pe_c T_of hr (by decide) (by rfl) (pa_cons (pv 0) (pa_cons (pe_callTy (call_listS hr.hd) (by rfl) T.z_list (by decide +kernel) (pa_cons (pv 2) pa_nil)) pa_nil)))) pe_str) (pe_c T_term hr (by decide) (by rfl) (pa_cons (pv 0) (pa_cons (pv 1) (pa_cons (pv 2) pa_nil)))))))))))), ?_⟩
    refine ⟨_, rfl, by decide, fun l1 n1 => ?_⟩
    have hlit : ∀ x ∈ [V.str "if ", .str "if ", .str "if not "], ∃ z, x = V.str z ∧ Sm 7 z ∧ z ∈ (["if ", "if ", "if not "] : List Str) := fun x hx => by
      simp only [List.mem_cons, List.not_mem_nil, or_false] at hx
      rcases hx with rfl | rfl | rfl <;> exact ⟨_, rfl, sm_lit, by decide +kernel⟩
    have s1 := same_new (o := .lst [V.str "if ", .str "if ", .str "if not "]) n1
    refine ⟨p, q, l1, _, n, rfl, hB.same s1, by omega, (hB.ne n1).1, upd_same, by decide, by decide, fun H1 x b1 hB1 hx => ?_⟩
    obtain ⟨sg3, rfl, h3, h3m⟩ := hlit x hx
    have hws0 : ∀ z ∈ ws, WordS z := fun z hz => (hws z hz).1
    have hwsT : ∀ z ∈ ws, z ∉ TSK := fun z hz => (hws z hz).2
    have nnot : ∀ z ∈ ws, z ≠ "not" := fun z hz e => hwsT z hz (by rw [e]; decide +kernel)
    have c1 := (bar_of (p := p) s1).trans b1
    have hl1 := c1 _ _ hlp hl
    dsimp only [gName]
    refine ⟨_, rfl, p, q, _, n + 1, rfl, hB1, by omega, by decide, by decide, fun H2 d b2 hB2 d0 d1 => ?_⟩
    have hl2 := b2 _ _ hlp hl1
    dsimp only [gName]
    have mlen : (ws.map V.str).length = ws.length := List.length_map ..
    have fin : ∀ {H' z}, Bar p H2 H' → StrA H' p q (n + 30) → TestP ws m z → Q (.str z) H' := fun b hB hz => k _ _ ((c1.trans b2).trans b) hB hz
    refine ⟨_, rfl, rfl, _, rfl, ite_b (fun _ => ?_) (fun _ => ?_)⟩
    · refine ⟨_, rfl, _, rfl, _, rfl, p, q, l, _, n + 2, rfl, hB2, by omega, hlp, hl2, by omega, by omega, fun H3 x b3 hB3 hx => ?_⟩
      obtain ⟨y, hy, rfl⟩ := List.mem_map.mp hx
      have m4 : Sm 4 (" is " : Str) := sm_lit
      have my := (hws0 y hy).sm
      refine ⟨_, _, rfl, rfl, h3.line my, _, _, rfl, rfl, (h3.cat my).line m4, _, rfl, _, rfl, p, q, l, _, n + 3, rfl, hB3, by omega, hlp, b3 _ _ hlp hl2, by omega, by omega, fun H4 x b4 hB4 hx => ?_⟩
      obtain ⟨y2, hy2, rfl⟩ := List.mem_map.mp hx
      exact ⟨_, _, rfl, rfl, ((h3.cat my).cat m4).line (hws0 y2 hy2).sm, fin (b3.trans b4) (hB4.mono (by omega)) (test_of (s := "is") h3m (by decide +kernel) (by decide +kernel) m4 (hws0 y hy).tok (hws0 y2 hy2).tok (nnot y hy) (cond_is hy hy2))⟩
    · refine ⟨_, rfl, rfl, _, rfl, ite_b (fun _ => ?_) (fun _ => ?_)⟩
      · refine ⟨_, rfl, _, rfl, _, rfl, _, rfl, p, q, l, ws, m, n + 2, rfl, hB2, by omega, hlp, hl2, hw, hws0, hm, fun H3 y b3 hB3 ty => ?_⟩
        have m4 : Sm 4 (" == " : Str) := sm_lit
        have my := ty.1.1
        refine ⟨_, _, rfl, rfl, h3.line my, _, _, rfl, rfl, (h3.cat my).line m4, _, rfl, _, rfl, _, rfl, p, q, l, ws, m, n + 7, rfl, hB3, by omega, hlp, b3 _ _ hlp hl2, hw, hws0, hm, fun H4 y2 b4 hB4 my2 => ?_⟩
        exact ⟨_, _, rfl, rfl, ((h3.cat my).cat m4).line my2.1.1, fin (b3.trans b4) (hB4.mono (by omega)) (test_of (s := "==") h3m (by decide +kernel) (by decide +kernel) m4 ty.1 my2.1 (term_not ty hwsT) (cond_cmp (.inl rfl) ty.2 my2.2))⟩
      · refine ⟨_, rfl, rfl, _, rfl, ite_b (fun _ => ?_) (fun _ => ?_)⟩
        · refine ⟨_, rfl, _, rfl, _, rfl, _, rfl, p, q, l, ws, m, n + 2, rfl, hB2, by omega, hlp, hl2, hw, hws0, hm, fun H3 y b3 hB3 ty => ?_⟩
          have m4 : Sm 4 (" <= " : Str) := sm_lit
          have my := ty.1.1
          refine ⟨_, _, rfl, rfl, h3.line my, _, _, rfl, rfl, (h3.cat my).line m4, _, rfl, _, rfl, _, rfl, p, q, l, ws, m, n + 7, rfl, hB3, by omega, hlp, b3 _ _ hlp hl2, hw, hws0, hm, fun H4 y2 b4 hB4 my2 => ?_⟩
          exact ⟨_, _, rfl, rfl, ((h3.cat my).cat m4).line my2.1.1, fin (b3.trans b4) (hB4.mono (by omega)) (test_of (s := "<=") h3m (by decide +kernel) (by decide +kernel) m4 ty.1 my2.1 (term_not ty hwsT) (cond_cmp (.inr rfl) ty.2 my2.2))⟩
        · refine ⟨_, rfl, _, rfl, _, rfl, m, rfl, Nat.le_trans hm.sm.1 (by decide), fun l2 n2 => ?_⟩
          have s2 := same_new (o := .lst (m.cps.toList.map sg)) n2
          have ml : (m.cps.toList.map sg).length = m.length := by
            rw [List.length_map, Array.length_toList]
            rfl
          have m3 := hm.sm.1
          have hm1 := hm.1.1
          refine ⟨p, q, l2, _, n + 2, rfl, hB2.same s2, by omega, (hB2.ne n2).1, upd_same, by omega, by omega, fun H3 x b3 hB3 hx => ?_⟩
          obtain ⟨c, hc, rfl⟩ := List.mem_map.mp hx
          have my : Sm 1 ⟨#[c]⟩ := ⟨Nat.le_refl _, fun e he => by
            have : e = c := by simpa using he
            rw [this]
            exact hm.sm.2 c hc⟩
          have tk : Tok 8 (⟨#[c]⟩ : Str) := ⟨my.mono (by decide), fun h => by
            have e : 32 = c := by simpa using h
            exact mk_32 c (hm.1.2.2 c hc) e.symm⟩
          have nn : (⟨#[c]⟩ : Str) ≠ "not" := fun e => by
            have := congrArg Str.length e
            exact absurd this (by show ¬ 1 = 3; decide)
          have m4 : Sm 4 (" in " : Str) := sm_lit
          have c3 := (bar_of (p := p) s2).trans b3
          refine ⟨_, _, rfl, rfl, h3.line my, _, _, rfl, rfl, (h3.cat my).line m4, _, rfl, _, rfl, _, rfl, p, q, l, ws, m, n + 3, rfl, hB3, by omega, hlp, c3 _ _ hlp hl2, hw, hws0, hm, fun H4 y2 b4 hB4 my2 => ?_⟩
          exact ⟨_, _, rfl, rfl, ((h3.cat my).cat m4).line my2.1.1, fin (c3.trans b4) (hB4.mono (by omega)) (test_of (s := "in") h3m (by decide +kernel) (by decide +kernel) m4 tk my2.1 nn (cond_in hc my2.2))⟩
theorem ok_last {f : Addr} {fd : FuncData} (F : Fun K "_law_last" "_law_last" s_last f fd) (T : Top K mg) (T_draw : Cal P w K mg base 1 "_law_draw" spDraw []) (T_term : Cal P w K mg base 3 "_law_term" spTermG []) : FnOk P w K mg base CX0 4 f fd ["_law_stream", "_law_words", "_law_marks"] spLastG := by
  refine F.ok sc_last (fun vs H Q E h => ?_) (fun cdv A outer s H vs Q E hr h => ?_)
  · obtain ⟨p, q, l, ws, m, n, rfl, _⟩ := h
    rfl
  · obtain ⟨p, q, l, ws, m, n, rfl, hB, hn, hlp, hl, hw, hws, hm, k⟩ := h
    refine ⟨_, (pss_cons (ps_set (i := 3) sc_last.nd rfl (Or.inl rfl) (pe_c T_draw hr (by decide) (by rfl) (pa_cons (pv 0) (pa_cons pe_int pa_nil))))
(pss_cons (ps_if (pt_cmpR op_eq (pv 3) pe_int (nomark _))
(pss_one (ps_ret pe_str))
pss_nil)
(pss_cons (ps_set (i := 4) sc_last.nd rfl (Or.inl rfl) (pe_op op_add_str pe_str (pe_c T_term hr (by decide) (by rfl) (pa_cons (pv 0) (pa_cons (pv 1) (pa_cons (pv 2) pa_nil))))))
(pss_one (ps_ret (pe_ifExp (pt_cmpR op_eq (pv 3) pe_int (nomark _)) (pv 4) (pe_op op_add_str (pe_op op_add_str (pv 4) pe_str) (pe_c T_term hr (by decide) (by rfl) (pa_cons (pv 0) (pa_cons (pv 1) (pa_cons (pv 2) pa_nil))))))))))), ?_⟩
    refine ⟨_, rfl, p, q, _, n, rfl, hB, by omega, by decide, by decide, fun H1 d b1 hB1 d0 d1 => ?_⟩
    have hl1 := b1 _ _ hlp hl
    dsimp only [gName]
    refine ⟨_, rfl, rfl, _, rfl, ite_b (fun _ => k _ _ b1 (hB1.mono (by omega)) last_stop) (fun _ => ?_)⟩
    have m5 : Sm 5 ("fail " : Str) := sm_lit
    refine ⟨_, rfl, _, rfl, _, rfl, p, q, l, ws, m, n + 1, rfl, hB1, by omega, hlp, hl1, hw, hws, hm, fun H2 y b2 hB2 ty => ⟨_, _, rfl, rfl, m5.line ty.1.1, ?_⟩⟩
    have my := ty.1.1
    dsimp only [gName]
    refine ⟨_, rfl, rfl, _, rfl, ite_b (fun _ => ⟨_, rfl, k _ _ (b1.trans b2) (hB2.mono (by omega)) (last_fail ty)⟩) (fun _ => ?_)⟩
    have m6 : Sm 6 (" from " : Str) := sm_lit
    refine ⟨_, rfl, _, _, rfl, rfl, (m5.cat my).line m6, _, rfl, _, rfl, _, rfl, p, q, l, ws, m, n + 6, rfl, hB2, by omega, hlp, b2 _ _ hlp hl1, hw, hws, hm, fun H3 y2 b3 hB3 my2 => ?_⟩
    exact ⟨_, _, rfl, rfl, ((m5.cat my).cat m6).line my2.1.1, k _ _ ((b1.trans b2).trans b3) (hB3.mono (by omega)) (last_from ty my2)⟩
theorem ok_work {f : Addr} {fd : FuncData} (F : Fun K "_law_work" "_law_work" s_work f fd) (T : Top K mg) (T_draw : Cal P w K mg base 1 "_law_draw" spDraw []) (T_test : Cal P w K mg base 4 "_law_test" spTestG []) (T_last : Cal P w K mg base 4 "_law_last" spLastG []) (T_plain_row : Cal P w K mg base 6 "_law_plain_row" spRowG []) : FnOk P w K mg base CX0 7 f fd ["_law_stream", "_law_words", "_law_marks", "_law_most", "_law_ends"] spWorkG := by
  refine F.ok sc_work (fun vs H Q E h => ?_) (fun cdv A outer s H vs Q E hr h => ?_)
  · obtain ⟨p, q, l, ws, m, mo, n, rfl, _⟩ := h
    rfl
  · obtain ⟨p, q, l, ws, m, mo, n, rfl, hB, hn, hlp, hl, hw0, hw, hmo, hws, hm, k⟩ := h
    have hws0 : ∀ z ∈ ws, WordS z := fun z hz => (hws z hz).1
    refine ⟨_, (pss_cons (ps_par3 (i := 5) (j := 6) (l := 7) rfl sc_work.nd rfl rfl rfl (by decide) (by decide) (by decide) rfl rfl rfl (by exact (pa_cons (pe_lst pa_nil) (pa_cons (pe_lst pa_nil) (pa_cons (pe_c T_draw hr (by decide) (by rfl) (pa_cons (pv 0) (pa_cons (pe_op op_add (pv 3) pe_int) pa_nil))) pa_nil)))) rfl)
(pss_cons (ps_for PassesOwn.never rfl (pi_range1 rfl T.z_range (pa_cons (pv 7) pa_nil)) (pg_name (i := 8) sc_work.nd rfl (Or.inl rfl))
(pss_cons (ps_par (i := 9) (j := 10) rfl sc_work.nd rfl rfl (by decide) rfl rfl (by exact (pa_cons (pe_op op_sub (pv 7) (pv 8)) (pa_cons (pe_c T_draw hr (by decide) (by rfl) (pa_cons (pv 0) (pa_cons pe_int pa_nil))) pa_nil))) rfl)
(pss_one (ps_if (PW.pt (pw_or (pt_cmpR op_le (pv 9) (pe_callB call_len_seq (by rfl) T.z_len (by decide +kernel) (pa_cons (pv 6) pa_nil)) (nomark _)) (pw_or1 (PW.pt (pw_and (pt_cmpR op_eq (pv 10) pe_int (nomark _)) (pw_and1 (pt_cmpR (op_neD hr.units) (pv 6) (pe_lst pa_nil) (nomark _))))))))
(pss_cons (ps_expr (pe_bm PySem.F.plainAttrs_list PySem.F.slot_list_append PySem.F.type_list_append mt_append (pv 5) (pa_cons pe_str pa_nil)))
(pss_one (ps_expr (pe_bm0 PySem.F.plainAttrs_list PySem.F.slot_list_pop PySem.F.type_list_pop mt_pop (pv 6)))))
(pss_one (ps_if (PW.pt (pw_and (pt_cmpR op_lt (pv 10) pe_int (nomark _)) (pw_and1 (pt_cmpR op_gt (pv 9) (pe_op op_add (pe_callB call_len_seq (by rfl) T.z_len (by decide +kernel) (pa_cons (pv 6) pa_nil)) pe_int) (nomark _)))))
(pss_cons (ps_expr (pe_bm PySem.F.plainAttrs_list PySem.F.slot_list_append PySem.F.type_list_append mt_append (pv 5) (pa_cons (pe_c T_test hr (by decide) (by rfl) (pa_cons (pv 0) (pa_cons (pv 1) (pa_cons (pv 2) pa_nil)))) pa_nil)))
(pss_one (ps_expr (pe_bm PySem.F.plainAttrs_list PySem.F.slot_list_append PySem.F.type_list_append mt_append (pv 6) (pa_cons pe_bl pa_nil)))))
(pss_one (ps_if (PW.pt (pw_and (pt_cmpR op_eq (pv 10) pe_int (nomark _)) (pw_and (pt_cmpR (op_neD hr.units) (pv 6) (pe_lst pa_nil) (nomark _)) (pw_and1 (pt_not (pt_val (pe_ix ix_list (pv 6) (pe_un un_neg pe_int) (fun _ _ => rfl))))))))
(pss_cons (ps_expr (pe_bm PySem.F.plainAttrs_list PySem.F.slot_list_append PySem.F.type_list_append mt_append (pv 5) (pa_cons pe_str pa_nil)))
(pss_one (ps_asg pe_bl (pg_sub (pv 6) (pe_un un_neg pe_int) set_list))))
(pss_one (ps_if (PW.pt (pw_and (pt_cmpR op_eq (pv 10) pe_int (nomark _)) (pw_and (pt_cmpR op_gt (pv 4) pe_int (nomark _)) (pw_and1 (PW.pt (pw_or (pt_cmpR (op_neD hr.units) (pv 6) (pe_lst pa_nil) (nomark _)) (pw_or1 (pt_cmpR op_eq (pv 9) pe_int (nomark _)))))))))
(pss_one (ps_expr (pe_bm PySem.F.plainAttrs_list PySem.F.slot_list_append PySem.F.type_list_append mt_append (pv 5) (pa_cons (pe_c T_last hr (by decide) (by rfl) (pa_cons (pv 0) (pa_cons (pv 1) (pa_cons (pv 2) pa_nil)))) pa_nil))))
(pss_one (ps_expr (pe_bm PySem.F.plainAttrs_list PySem.F.slot_list_append PySem.F.type_list_append mt_append (pv 5) (pa_cons (pe_c T_plain_row hr (by decide) (by rfl) (pa_cons (pv 0) (pa_cons (pv 1) (pa_cons (pv 2) pa_nil)))) pa_nil))))))))))))))
(pss_one (ps_ret (pv 5))))), ?_⟩
    refine ⟨by decide, fun r nr => ?_⟩
    have s1 := same_new (o := .lst ([] : List V)) nr
    refine ⟨by decide, fun o no => ?_⟩
    have s2 := s1.trans (same_new (o := .lst ([] : List V)) no)
    have ro : r ≠ o := ne_of_none upd_same no
    have xr : (upd (upd H r (.lst [])) o (.lst [])) r = some (.lst (([] : List Str).map V.str)) := same_new no _ _ upd_same
    have xo : (upd (upd H r (.lst [])) o (.lst [])) o = some (.lst (([] : List Bool).map V.bl)) := upd_same
    have no0 : H o = none := s1.free no
    have pr := hB.ne nr
    have po := hB.ne no0
    generalize (upd (upd H r (.lst [])) o (.lst [])) = G at *
    refine ⟨_, rfl, _, rfl, _, _, rfl, rfl, p, q, _, n, rfl, hB.same s2, by omega, by omega, by omega, fun H1 sz b1 hB1 z0 z1 => ⟨_, _, _, rfl, ?_⟩⟩
    dsimp only
    refine ⟨_, rfl, _, rfl, by omega, by omega, for_it walk_range (fun i σ H' => ∃ (v8 v9 v10 : Option V) (rs : List Str) (bs : List Bool), σ = [some (.ref p), some (.ref l), some (.str m), some (.int (mo : Nat)), some (.int 1), some (.ref r), some (.ref o), some (.int sz), v8, v9, v10] ∧ H' r = some (.lst (rs.map V.str)) ∧ H' o = some (.lst (bs.map V.bl)) ∧
      (rs.length ≤ i ∧ bs.length ≤ i) ∧ (bs.length : Int) + i ≤ sz ∧ taskF ws m (rs.map V.str) 0 [] = .inr (bs.map blk) ∧ (∀ z ∈ rs, Sm 30 z) ∧ Bar p H H' ∧ StrA H' p q (n + 1 + 40 * i)) ⟨none, none, none, [], [], rfl, b1 _ _ pr.1 xr, b1 _ _ po.1 xo, ⟨Nat.le_refl _, Nat.le_refl _⟩, by show (0 : Int) + 0 ≤ sz; omega, rfl, fun _ h => absurd h List.not_mem_nil, (bar_of s2).trans b1, hB1⟩ (fun _ _ _ _ _ => trivial) ?_ ?_⟩
    · rintro i x σ H0 H2 hi ⟨v8, v9, v10, rs, bs, rfl, yr, yo, ⟨c1, c2⟩, hsz, htf, ar, b2, hB2⟩ ⟨rfl, rfl⟩
      have hi16 : i < 16 := by
        have : sz.toNat ≤ 16 := by omega
        omega
      refine ⟨_, rfl, _, rfl, _, _, rfl, rfl, _, rfl, p, q, _, n + 1 + 40 * i, rfl, hB2, by omega, by decide, by decide, fun H3 d b3 hB3 d0 d1 => ⟨_, _, rfl, ?_⟩⟩
      have zr := b3 _ _ pr.1 yr
      have zo := b3 _ _ po.1 yo
      have zl := b3 _ _ hlp (b2 _ _ hlp hl)
      have olen : (bs.map V.bl).length = bs.length := List.length_map ..
      have rlen : (rs.map V.str).length < sizeLine := by
        rw [List.length_map]
        exact Nat.lt_of_le_of_lt (by omega : rs.length ≤ 16) (by decide)
      have rmap : ∀ y : Str, rs.map V.str ++ [V.str y] = (rs ++ [y]).map V.str := fun y => by
        rw [List.map_append]
        rfl
      have ar2 : ∀ y, Sm 30 y → ∀ z ∈ rs ++ [y], Sm 30 z := fun y hy z hz => by
        rcases List.mem_append.mp hz with hz | hz
        · exact ar z hz
        · rw [List.mem_singleton.mp hz]
          exact hy
      have rl2 : ∀ y : Str, (rs ++ [y]).length ≤ i + 1 := fun y => by
        rw [List.length_append]
        exact Nat.succ_le_succ c1
      have nonE : ∀ {G : Hp} {Q' : Bool → Hp → Prop}, Same H3 G → (∀ b G', (b = true → 0 < bs.length) → Same G G' → Q' b G') → tTest (tOp (rNeD K) (tVar 6) (tLst tNil)) [some (.ref p), some (.ref l), some (.str m), some (.int (mo : Nat)), some (.int 1), some (.ref r), some (.ref o), some (.int sz), some (.int (0 + (i : Int))), some (.int (sz - (0 + (i : Int)))), some (.int d)] G Q' := fun {G Q'} sG hQ => by
        refine ⟨_, rfl, by decide, fun e1 n1 => ?_⟩
        have t1 := same_new (o := .lst ([] : List V)) n1
        refine ⟨_, _, .lst (SqL.of (t1 _ _ (sG _ _ zo))) (dp_all_bools bs), .lst (SqL.of upd_same) .nil, shaped_bools bs, by decide, _, rfl, hQ _ _ (fun hne => ?_) t1⟩
        rw [eqv_nilB] at hne
        refine Nat.pos_of_ne_zero fun e => ?_
        rw [decide_eq_true e] at hne
        cases hne
      dsimp only
      refine ifs_join (fun b H' => (b = true → 0 < bs.length) ∧ (b = false → (bs.length : Int) < sz - i) ∧ Same H3 H') (fun Q' hQ => ?_) (fun H4 h4 => ?_) (fun H4 h4 => ?_)
      · refine ⟨_, rfl, _, rfl, o, _, rfl, .inl (SqL.of zo), _, _, rfl, rfl, _, rfl, ite_b (fun hle => hQ _ _ ⟨fun _ => ?_, Bool.noConfusion, Same.refl _⟩) (fun hgt => ?_)⟩
        · have hle := of_decide_eq_true hle
          rw [olen] at hle
          omega
        · have hgt := of_decide_eq_false hgt
          rw [olen] at hgt
          exact ⟨_, rfl, rfl, _, rfl, ite_b (fun _ => nonE (Same.refl _) fun b G' h s => hQ _ _ ⟨h, fun _ => by omega, s⟩) (fun _ => hQ _ _ ⟨Bool.noConfusion, fun _ => by omega, Same.refl _⟩)⟩
      · obtain ⟨h0, _, s4⟩ := h4
        obtain ⟨bb, e1, e2⟩ := atI_last' (h0 rfl)
        refine ⟨_, rfl, .inl ⟨rfl, _, SqL.of (s4 _ _ zr)⟩, r, _, _, rfl, rfl, s4 _ _ zr, rlen, ?_⟩
        refine ⟨_, rfl, .inl ⟨rfl, _, SqL.of ((upd_ne ro.symm).trans (s4 _ _ zo))⟩, o, _, _, rfl, rfl, (upd_ne ro.symm).trans (s4 _ _ zo), e2, ?_⟩
        refine ⟨_, _, _, rs ++ [("end" : Str)], bs.dropLast, rfl, ?_, ?_, ⟨rl2 _, ?_⟩, by rw [List.length_dropLast]; have := h0 rfl; omega, by rw [← rmap]; exact taskF_snoc htf taskB_end (blocks_end (h0 rfl)), ar2 _ sm_lit, fun b u nb hb => ?_, (((hB3.same s4).put pr.1 pr.2).put po.1 po.2).mono (by omega)⟩
        · rw [upd_ne ro, upd_same, rmap]
        · rw [upd_same, List.map_dropLast]
        · rw [List.length_dropLast]
          omega
        · rw [upd_ne (ne_of_none hb no0), upd_ne (ne_of_none hb nr)]
          exact s4 _ _ (b3 _ _ nb (b2 _ _ nb hb))
      · obtain ⟨_, hlt, s4⟩ := h4
        have hlt := hlt rfl
        refine ifs_join (fun b H' => (b = true → (bs.length : Int) + 1 < sz - i) ∧ H' = H4) (fun Q' hQ => ?_) (fun H5 h5 => ?_) (fun H5 h5 => ?_)
        · exact ⟨_, rfl, _, _, rfl, rfl, _, rfl, ite_b (fun _ => ⟨_, rfl, _, rfl, o, _, rfl, .inl (SqL.of (s4 _ _ zo)), _, _, rfl, rfl, _, _, rfl, rfl, _, rfl, hQ _ _ ⟨fun h => by have h := of_decide_eq_true h; rw [olen] at h; omega, rfl⟩⟩) (fun _ => hQ _ _ ⟨Bool.noConfusion, rfl⟩)⟩
        · obtain ⟨h2, rfl⟩ := h5
          have h2 := h2 rfl
          refine ⟨_, rfl, .inl ⟨rfl, _, SqL.of (s4 _ _ zr)⟩, _, rfl, _, rfl, _, rfl, p, q, l, ws, m, n + 1 + 40 * i + 1, rfl, hB3.same s4, by omega, hlp, s4 _ _ zl, hw0, hw, hws, hm, fun H6 z b6 hB6 hz => ?_⟩
          have ur := b6 _ _ pr.1 (s4 _ _ zr)
          have uo := b6 _ _ po.1 (s4 _ _ zo)
          refine ⟨r, _, _, rfl, rfl, ur, rlen, ?_⟩
          refine ⟨_, rfl, .inl ⟨rfl, _, SqL.of ((upd_ne ro.symm).trans uo)⟩, o, _, _, rfl, rfl, (upd_ne ro.symm).trans uo, ?_, ?_⟩
          · rw [olen]
            exact Nat.lt_of_le_of_lt (by omega : bs.length ≤ 16) (by decide)
          refine ⟨_, _, _, rs ++ [z], bs ++ [false], rfl, ?_, ?_, ⟨rl2 _, ?_⟩, (by rw [List.length_append]; show (((bs.length + 1 : Nat)) : Int) + ((i + 1 : Nat) : Int) ≤ sz; omega), by rw [← rmap, List.map_append]; exact taskF_snoc htf hz.2.1 (test_blocks hz _), ar2 _ hz.1, fun b u nb hb => ?_, ((hB6.put pr.1 pr.2).put po.1 po.2).mono (by omega)⟩
          · rw [upd_ne ro, upd_same, rmap]
          · rw [upd_same, List.map_append]
            rfl
          · rw [List.length_append]
            exact Nat.succ_le_succ c2
          · rw [upd_ne (ne_of_none hb no0), upd_ne (ne_of_none hb nr)]
            exact b6 _ _ nb (s4 _ _ (b3 _ _ nb (b2 _ _ nb hb)))
        · obtain ⟨_, rfl⟩ := h5
          refine ifs_join (fun b H' => (b = true → 0 < bs.length ∧ (bs.map V.bl)[(bs.map V.bl).length - 1]? = some (V.bl false)) ∧ Same H5 H') (fun Q' hQ => ?_) (fun H6 h6 => ?_) (fun H6 h6 => ?_)
          · refine ⟨_, rfl, rfl, _, rfl, ite_b (fun _ => ?_) (fun _ => hQ _ _ ⟨Bool.noConfusion, Same.refl _⟩)⟩
            refine nonE s4 fun b G' h s => ?_
            cases b with
            | false => exact iteF (hQ _ _ ⟨Bool.noConfusion, s⟩)
            | true =>
              obtain ⟨bb, e1, e2⟩ := atI_last' (h rfl)
              exact iteT ⟨_, rfl, _, rfl, o, _, _, _, rfl, rfl, SqL.of (s _ _ (s4 _ _ zo)), e1, _, rfl, hQ _ _ ⟨fun hb => ⟨h rfl, by cases bb with | false => exact e2 | true => cases hb⟩, s⟩⟩
          · obtain ⟨h0, s6⟩ := h6
            obtain ⟨h0, hls⟩ := h0 rfl
            have s5 := s4.trans s6
            refine ⟨_, rfl, .inl ⟨rfl, _, SqL.of (s5 _ _ zr)⟩, r, _, _, rfl, rfl, s5 _ _ zr, rlen, ?_⟩
            refine ⟨_, rfl, _, rfl, o, _, _, _, rfl, rfl, (upd_ne ro.symm).trans (s5 _ _ zo), ixN_last (by rw [olen]; exact h0), ?_⟩
            refine ⟨_, _, _, rs ++ [("else" : Str)], bs.set (bs.length - 1) true, rfl, ?_, ?_, ⟨rl2 _, ?_⟩, by rw [List.length_set]; omega, by rw [← rmap]; exact taskF_snoc htf taskB_else (blocks_else hls h0), ar2 _ sm_lit, fun b u nb hb => ?_, (((hB3.same s5).put pr.1 pr.2).put po.1 po.2).mono (by omega)⟩
            · rw [upd_ne ro, upd_same, rmap]
            · rw [upd_same, List.map_set, olen]
            · rw [List.length_set]
              omega
            · rw [upd_ne (ne_of_none hb no0), upd_ne (ne_of_none hb nr)]
              exact s5 _ _ (b3 _ _ nb (b2 _ _ nb hb))
          · obtain ⟨_, s6⟩ := h6
            have s5 := s4.trans s6
            refine ifs_join (fun b H' => Same H6 H') (fun Q' hQ => ?_) (fun H7 s7 => ?_) (fun H7 s7 => ?_)
            · refine ⟨_, rfl, rfl, _, rfl, ite_b (fun _ => ?_) (fun _ => hQ _ _ (Same.refl _))⟩
              refine ⟨_, rfl, _, _, rfl, rfl, _, rfl, ite_b (fun _ => ?_) (fun _ => hQ _ _ (Same.refl _))⟩
              refine nonE s5 fun b G' h s => ?_
              cases b with
              | true => exact iteT (hQ _ _ s)
              | false => exact iteF ⟨_, rfl, rfl, _, rfl, hQ _ _ s⟩
            · have s8 := s5.trans s7
              refine ⟨_, rfl, .inl ⟨rfl, _, SqL.of (s8 _ _ zr)⟩, _, rfl, _, rfl, _, rfl, p, q, l, ws, m, n + 1 + 40 * i + 1, rfl, hB3.same s8, by omega, hlp, s8 _ _ zl, hw, hws0, hm, fun H8 z b8 hB8 hz => ?_⟩
              refine ⟨r, _, _, rfl, rfl, b8 _ _ pr.1 (s8 _ _ zr), rlen, ?_⟩
              refine ⟨_, _, _, rs ++ [z], bs, rfl, ?_, (upd_ne ro.symm).trans (b8 _ _ po.1 (s8 _ _ zo)), ⟨rl2 _, by omega⟩, by omega, by rw [← rmap]; exact taskF_snoc htf hz.2.1 (last_blocks hz _), ar2 _ hz.1, fun b u nb hb => ?_, (hB8.put pr.1 pr.2).mono (by omega)⟩
              · rw [upd_same, rmap]
              · rw [upd_ne (ne_of_none hb nr)]
                exact b8 _ _ nb (s8 _ _ (b3 _ _ nb (b2 _ _ nb hb)))
            · have s8 := s5.trans s7
              refine ⟨_, rfl, .inl ⟨rfl, _, SqL.of (s8 _ _ zr)⟩, _, rfl, _, rfl, _, rfl, p, q, l, ws, m, n + 1 + 40 * i + 1, rfl, hB3.same s8, by omega, hlp, s8 _ _ zl, hw0, hw, hws0, hm, fun H8 z y b8 hB8 hy hz => ?_⟩
              obtain ⟨rt1, rt2⟩ := row_task hz hy (hws y hy).2
              refine ⟨r, _, _, rfl, rfl, b8 _ _ pr.1 (s8 _ _ zr), rlen, ?_⟩
              refine ⟨_, _, _, rs ++ [z], bs, rfl, ?_, (upd_ne ro.symm).trans (b8 _ _ po.1 (s8 _ _ zo)), ⟨rl2 _, by omega⟩, by omega, by rw [← rmap]; exact taskF_snoc htf rt1 (rt2 _), ar2 _ hz.1, fun b u nb hb => ?_, (hB8.put pr.1 pr.2).mono (by omega)⟩
              · rw [upd_same, rmap]
              · rw [upd_ne (ne_of_none hb nr)]
                exact b8 _ _ nb (s8 _ _ (b3 _ _ nb (b2 _ _ nb hb)))
    · rintro σ H2 ⟨v8, v9, v10, rs, bs, rfl, yr, yo, ⟨c1, c2⟩, hsz, htf, ar, b2, hB2⟩
      have hz16 : sz.toNat ≤ 16 := by omega
      have c1 : rs.length ≤ sz.toNat := by simpa using c1
      have be : bs = [] := List.length_eq_zero_iff.mp (by omega)
      rw [be] at htf
      refine ⟨_, rfl, k _ r rs b2 (hB2.mono ?_) nr yr (by omega) ar htf⟩
      have : (sz - 0).toNat ≤ 16 := by omega
      omega
end
end W29

set_option Elab.async false
set_option linter.all false
set_option maxRecDepth 100000
set_option maxHeartbeats 4000000
namespace W29
open PySem L2 WB
open C8 (pe_c pe_mk pe_mt pe_mt0 Cal Mak Met)
section
variable {P : Program} {w : World} {K : PySem.W.Frag} {mg : Str → Option Value} {base : Heap}
theorem ok_drawn_parts {f : Addr} {fd : FuncData} (F : Fun K "_law_drawn_parts" "_law_drawn_parts" s_drawn_parts f fd) (T : Top K mg) (T_draw : Cal P w K mg base 1 "_law_draw" spDraw []) (T_drawn_words : Cal P w K mg base 4 "_law_drawn_words" spWordsG [])
    (T_plains : Cal P w K mg base 7 "_law_plains" (spPlainsG K) []) (T_work : Cal P w K mg base 7 "_law_work" spWorkG []) : FnOk P w K mg base CX0 8 f fd ["_law_stream", "_law_marks", "_law_sizes"] spPartsG := by
  refine F.ok sc_drawn_parts (fun vs H Q E h => ?_) (fun cdv A outer s H vs Q E hr h => ?_)
  · obtain ⟨p, q, z, m, a, b, c, d, mx, n, rfl, _⟩ := h
    rfl
  · obtain ⟨p, q, z, m, a, b, c, dd, mx, n, rfl, hB, hn, zp, hz, ha, hb, hc, hdd, x1, x8, hm, k⟩ := h
    refine ⟨_, (pss_cons (ps_set (i := 3) sc_drawn_parts.nd rfl (Or.inl rfl) (pe_c T_drawn_words hr (by decide) (by rfl) (pa_cons (pv 0) (pa_cons (pe_lst pa_nil) (pa_cons (pv 1) (pa_cons (pe_c T_draw hr (by decide) (by rfl) (pa_cons (pv 0) (pa_cons (pe_op op_add (pe_ix ix_tup (pv 2) pe_int (fun _ _ => rfl)) pe_int) pa_nil))) (pa_cons (pe_ix ix_tup (pv 2) pe_int (fun _ _ => rfl)) pa_nil)))))))
(pss_cons (ps_set (i := 4) sc_drawn_parts.nd rfl (Or.inl rfl) (pe_c T_drawn_words hr (by decide) (by rfl) (pa_cons (pv 0) (pa_cons (pv 3) (pa_cons (pv 1) (pa_cons (pe_c T_draw hr (by decide) (by rfl) (pa_cons (pv 0) (pa_cons (pe_op op_add (pe_callB (call_min3Nu rfl) (by rfl) T.z_min (by decide +kernel) (pa_cons (pe_ix ix_tup (pv 2) pe_int (fun _ _ => rfl)) (pa_cons (pe_op op_sub pe_int (pe_callB call_len_seq (by rfl) T.z_len (by decide +kernel) (pa_cons (pv 3) pa_nil))) (pa_cons pe_int pa_nil)))) pe_int) pa_nil))) (pa_cons (pe_ix ix_tup (pv 2) pe_int (fun _ _ => rfl)) pa_nil)))))))
(pss_cons (ps_set (i := 5) sc_drawn_parts.nd rfl (Or.inl rfl) (pe_c T_plains hr (by decide) (by rfl) (pa_cons (pv 0) (pa_cons (pe_lst pa_nil) (pa_cons (pv 3) (pa_cons (pe_callB (call_max2 rfl) (by rfl) T.z_max (by decide +kernel) (pa_cons (pe_ix ix_tup (pv 2) pe_int (fun _ _ => rfl)) (pa_cons (pe_callB call_len_seq (by rfl) T.z_len (by decide +kernel) (pa_cons (pv 3) pa_nil)) pa_nil))) (pa_cons (pv 1) pa_nil)))))))
(pss_cons (ps_set (i := 6) sc_drawn_parts.nd rfl (Or.inl rfl) (pe_c T_plains hr (by decide) (by rfl) (pa_cons (pv 0) (pa_cons (pv 3) (pa_cons (pv 4) (pa_cons (pe_callB (call_max2 rfl) (by rfl) T.z_max (by decide +kernel) (pa_cons (pe_ix ix_tup (pv 2) pe_int (fun _ _ => rfl)) (pa_cons (pe_callB call_len_seq (by rfl) T.z_len (by decide +kernel) (pa_cons (pv 4) pa_nil)) pa_nil))) (pa_cons (pv 1) pa_nil)))))))
(pss_cons (ps_set (i := 7) sc_drawn_parts.nd rfl (Or.inl rfl) (pe_c T_work hr (by decide) (by rfl) (pa_cons (pv 0) (pa_cons (pe_op op_cat (pv 3) (pe_lst (pa_cons pe_str (pa_cons pe_str pa_nil)))) (pa_cons (pv 1) (pa_cons (pe_ix ix_tup (pv 2) pe_int (fun _ _ => rfl)) (pa_cons (pe_ix ix_tup (pv 2) pe_int (fun _ _ => rfl)) pa_nil)))))))
(pss_one (ps_ret (pe_tup (pa_cons (pv 1) (pa_cons (pv 5) (pa_cons (pv 6) (pa_cons (pv 7) (pa_cons (pe_callB cr_sortedS (by rfl) T.z_sorted (by decide +kernel) (pa_cons (pv 3) pa_nil)) (pa_cons (pe_callB cr_sortedS (by rfl) T.z_sorted (by decide +kernel) (pa_cons (pv 4) pa_nil)) pa_nil)))))))))))))), ?_⟩
    refine ⟨_, rfl, by decide, fun e1 n1 => ⟨_, rfl, _, rfl, _, rfl, z, _, _, _, rfl, rfl, SqT.of (same_new n1 _ _ hz), atI_nat (j := 0) rfl, _, _, rfl, rfl, p, q, _, n, rfl, hB.same (same_new n1), by omega, by omega, by omega, fun H1 d b1 hB1 d0 d1 => ?_⟩⟩
    have s1 := same_new (o := .lst ([] : List V)) n1
    have z1 := b1 _ _ zp (s1 _ _ hz)
    have e1p := (hB.ne n1).1
    obtain ⟨dn, rfl⟩ := Int.eq_ofNat_of_zero_le d0
    have hd : dn ≤ 3 := by omega
    have c1 := (bar_of (p := p) s1).trans b1
    refine ⟨_, rfl, z, _, _, _, rfl, rfl, SqT.of z1, atI_nat (j := 5) rfl, p, q, e1, [], m, dn, mx, n + 1, rfl, hB1, by omega, e1p, b1 _ _ e1p upd_same, by show 0 + dn ≤ 8; omega, x1, x8, fun _ h => absurd h List.not_mem_nil, List.nodup_nil, hm.1, fun H2 lw ws b2 hB2 nlw hlw wl hwB hnw => ?_⟩
    rw [List.nil_append] at hnw
    have hws : ∀ y ∈ ws, WordS y := fun y hy => wordB_S (hwB y hy)
    dsimp only [gName]
    have z2 := b2 _ _ zp z1
    have lwp := (hB1.ne nlw).1
    have c2 := c1.trans b2
    have wl3 : ((ws.map V.str).length : Int) ≤ 3 := by rw [List.length_map]; omega
    obtain ⟨mn, hmn, m1, m2, m3, m4⟩ := min3_int (b : Nat) (4 - ((ws.map V.str).length : Nat)) 2
    refine ⟨_, rfl, _, rfl, _, rfl, _, rfl, _, rfl, z, _, _, _, rfl, rfl, SqT.of z2, atI_nat (j := 1) rfl, _, rfl, lw, _, rfl, .inl (SqL.of hlw), _, _, rfl, rfl, _, _, _, _, rfl, hmn, _, _, rfl, rfl, p, q, _, n + 1 + 20 * dn, rfl, hB2, by omega, by omega, by omega, fun H3 g b3 hB3 g0 g1 => ?_⟩
    obtain ⟨gn, rfl⟩ := Int.eq_ofNat_of_zero_le g0
    have hg : gn ≤ 2 := by omega
    have z3 := b3 _ _ zp z2
    have hlw3 := b3 _ _ lwp hlw
    refine ⟨_, rfl, z, _, _, _, rfl, rfl, SqT.of z3, atI_nat (j := 5) rfl, p, q, lw, ws, m, gn, mx, _, rfl, hB3, by omega, lwp, hlw3, by omega, x1, x8, hws, hnw, hm.1, fun H4 lo os b4 hB4 nlo hlo ol hoB hno => ?_⟩
    have hos : ∀ y ∈ os, WordS y := fun y hy => wordB_S (hoB y hy)
    dsimp only [gName]
    have c4 := (c2.trans b3).trans b4
    have lop := (hB3.ne nlo).1
    have hlw4 := b4 _ _ lwp hlw3
    have z4 := b4 _ _ zp z3
    have wo4 : ws.length + os.length ≤ 4 := by rw [List.length_map] at m2; omega
    obtain ⟨mo1, em1, mo1a, mo1b⟩ := max_nat c (ws.map V.str).length
    obtain ⟨mo2, em2, mo2a, mo2b⟩ := max_nat c (os.map V.str).length
    rw [List.length_map] at mo1a mo1b mo2a mo2b
    have ol3 : ((os.map V.str).length : Int) ≤ 2 := by rw [List.length_map]; omega
    -- the module's rows
    refine ⟨_, rfl, by decide, fun e8 n8 => ?_⟩
    have t8 := same_new (o := .lst ([] : List V)) n8
    have e8p := (hB4.ne n8).1
    refine ⟨_, rfl, _, rfl, z, _, _, _, rfl, rfl, SqT.of (t8 _ _ z4), atI_nat (j := 2) rfl, _, rfl, lw, _, rfl, .inl (SqL.of (t8 _ _ hlw4)), _, _, rfl, _, rfl, ?_⟩
    refine ⟨p, q, e8, lw, [], ws, m, mo1, _, by rw [em1]; rfl, hB4.same t8, by omega, e8p, lwp, upd_same, t8 _ _ hlw4, by decide, by omega, by omega, fun _ h => absurd h List.not_mem_nil, hwB, by rw [List.nil_append]; exact hnw, hm, fun H5 lp rs b5 hB5 nlp hlp rl hrs hb1 => ?_⟩
    rw [List.nil_append] at hb1
    dsimp only [gName]
    have c5 := (c4.trans (bar_of t8)).trans b5
    have lpp := (hB4.ne (t8.free nlp)).1
    have hlw5 := b5 _ _ lwp (t8 _ _ hlw4)
    have hlo5 := b5 _ _ lop (t8 _ _ hlo)
    have z5 := b5 _ _ zp (t8 _ _ z4)
    -- the caller's rows
    refine ⟨_, rfl, _, rfl, _, rfl, _, rfl, z, _, _, _, rfl, rfl, SqT.of z5, atI_nat (j := 2) rfl, _, rfl, lo, _, rfl, .inl (SqL.of hlo5), _, _, rfl, _, rfl, ?_⟩
    refine ⟨p, q, lw, lo, ws, os, m, mo2, _, by rw [em2]; rfl, hB5, by omega, lwp, lop, hlw5, hlo5, by omega, by omega, by omega, hws, hoB, hno, hm, fun H6 lq rq b6 hB6 nlq hlq rlq hrq hb2 => ?_⟩
    dsimp only [gName]
    have c6 := c5.trans b6
    have lqp := (hB5.ne nlq).1
    have hlw6 := b6 _ _ lwp hlw5
    have hlo6 := b6 _ _ lop hlo5
    have hlp6 := b6 _ _ lpp hlp
    have z6 := b6 _ _ zp z5
    -- the words of the task
    refine ⟨_, rfl, _, rfl, by show 2 ≤ sizeLine; decide, fun e12 n12 => ⟨lw, e12, _, _, rfl, rfl, same_new n12 _ _ hlw6, upd_same, ?_, fun l10 n13 => ?_⟩⟩
    · rw [List.length_map]
      exact Nat.le_trans (by omega : ws.length + 2 ≤ 100) (by decide)
    have t12 := same_new (o := .lst [V.str "item", .str "out"]) n12
    have t13 := t12.trans (same_new (o := .lst (ws.map V.str ++ [V.str "item", .str "out"])) n13)
    have l10p := (hB6.ne (t12.free n13)).1
    have kws : ∀ y ∈ ws ++ [("item" : Str), ("out" : Str)], WordS y ∧ y ∉ TSK := fun y hy => by
      rcases List.mem_append.mp hy with hy | hy
      · exact ⟨hws y hy, wordB_T (hwB y hy)⟩
      · simp only [List.mem_cons, List.not_mem_nil, or_false] at hy
        rcases hy with rfl | rfl
        · exact ⟨⟨by decide, by decide, by decide +kernel⟩, by decide +kernel⟩
        · exact ⟨⟨by decide, by decide, by decide +kernel⟩, by decide +kernel⟩
    have kwl : (ws ++ [("item" : Str), ("out" : Str)]).length = ws.length + 2 := List.length_append
    have h10 : ∀ {X : Hp}, (upd X l10 (.lst (ws.map V.str ++ [V.str "item", .str "out"]))) l10 = some (.lst ((ws ++ [("item" : Str), ("out" : Str)]).map V.str)) := fun {X} => by
      rw [upd_same, List.map_append]
      rfl
    refine ⟨_, rfl, _, rfl, z, _, _, _, rfl, rfl, SqT.of (t13 _ _ z6), atI_nat (j := 3) rfl, _, rfl, z, _, _, _, rfl, rfl, SqT.of (t13 _ _ z6), atI_nat (j := 4) rfl, ?_⟩
    refine ⟨p, q, l10, ws ++ [("item" : Str), ("out" : Str)], m, dd, _, rfl, hB6.same t13, by omega, l10p, h10, by omega, by omega, hdd, kws, hm, fun H7 lk rk b7 hB7 nlk hlk rlk hrk ht3 => ?_⟩
    dsimp only [gName]
    have lkp := (hB6.ne (t13.free nlk)).1
    have c7 := (c6.trans (bar_of t13)).trans b7
    have hlw7 := b7 _ _ lwp (t13 _ _ hlw6)
    have hlo7 := b7 _ _ lop (t13 _ _ hlo6)
    have hlp7 := b7 _ _ lpp (t13 _ _ hlp6)
    have hlq7 := b7 _ _ lqp (t13 _ _ hlq)
    refine ⟨_, rfl, _, rfl, _, rfl, _, rfl, _, rfl, lw, ws, rfl, SqL.of hlw7, by omega, fun y1 l4 pm1 so1 n14 => ⟨_, rfl, lo, os, rfl, SqL.of (same_new n14 _ _ hlo7), by omega, fun y2 l5 pm2 so2 n15 => ⟨by show 6 ≤ sizeLine; decide, fun tt ntt => ?_⟩⟩⟩
    have t14 := same_new (o := .lst (y1.map V.str)) n14
    have t15 := t14.trans (same_new (o := .lst (y2.map V.str)) n15)
    have t16 := t15.trans (same_new (o := .tup [V.str m, .ref lp, .ref lq, .ref lk, .ref l4, .ref l5]) ntt)
    have a4 := same_new (o := .tup [V.str m, .ref lp, .ref lq, .ref lk, .ref l4, .ref l5]) ntt _ _ (same_new (o := .lst (y2.map V.str)) n15 _ _ (upd_same (H := H7) (a := l4) (o := .lst (y1.map V.str))))
    refine k _ tt lp lq lk l4 l5 rs rq rk y1 y2 ws os (c7.trans (bar_of t16)) ((hB7.same t16).mono (by omega)) (hB7.ne (t15.free ntt)).1 lpp lqp lkp (hB7.ne n14).1 (hB7.ne (t14.free n15)).1 ⟨(c4.trans (bar_of t8)).free nlp lpp, c5.free nlq lqp, (c6.trans (bar_of t13)).free nlk lkp, c7.free n14 (hB7.ne n14).1, (c7.trans (bar_of t14)).free n15 (hB7.ne (t14.free n15)).1⟩ upd_same (t16 _ _ hlp7) (t16 _ _ hlq7) (t16 _ _ hlk) a4
      (same_new (o := .tup [V.str m, .ref lp, .ref lq, .ref lk, .ref l4, .ref l5]) ntt _ _ upd_same) (by omega) (by omega) (by omega) hrs hrq hrk pm1 pm2 so1 so2 (by omega) (by omega) (fun y hy => (List.mem_append.mp hy).elim (hwB y) (hoB y)) hno ?_
    exact parts_ok hm (by rw [List.length_map]; exact rl) (by rw [List.length_map]; exact rlq) (by rw [List.length_map]; exact rlk) (by omega) (by omega) wo4 hb1 hb2 ht3 hno
end
end W29

set_option Elab.async false
set_option linter.all false
set_option maxRecDepth 100000
set_option maxHeartbeats 4000000
namespace W29
open PySem L2 WB
open C8 (pe_c pe_mk pe_mt pe_mt0 Cal Mak Met)
open PyProof.Rows (sortedS)
section
variable {P : Program} {w : World} {K : PySem.W.Frag} {mg : Str → Option Value} {base : Heap}
theorem ok_global_names {f C : Addr} {fd : FuncData} (F : Fun K "global_names" "Program.global_names" s_Program_global_names f fd) (T : Top K mg) (B : FldC K C ["marks", "module", "caller", "task", "shared", "own"]) : FnOk P w K mg base CX0 1 f fd ["self"] (spNs C fun p => p.ws) := by
  refine F.ok sc_Program_global_names (fun vs H Q E h => ?_) (fun cdv A outer s H vs Q E hr h => ?_)
  · obtain ⟨a, p, rfl, _⟩ := h
    rfl
  · obtain ⟨a, p, rfl, hP, h1, h2, k⟩ := h
    refine ⟨_, (pss_one (ps_ret (pe_callB cr_sortedT (by rfl) T.z_sorted (by decide +kernel) (pa_cons (pe_fld (pv 0) rfl) pa_nil)))), ?_⟩
    obtain ⟨dx, t1, t2, t3, t4, t5, i0, i1, i2, i3, i4, i5⟩ := hP
    refine ⟨_, rfl, a, C, dx, _, _, rfl, i0, B.cl, B.no _ (by simp), rfl, t4, p.ws, rfl, SqT.of i4, by omega, fun ys l pm so nl => k _ l ys (same_new nl) nl upd_same pm so⟩
theorem ok_own_names {f C : Addr} {fd : FuncData} (F : Fun K "own_names" "Program.own_names" s_Program_own_names f fd) (T : Top K mg) (B : FldC K C ["marks", "module", "caller", "task", "shared", "own"]) : FnOk P w K mg base CX0 1 f fd ["self"] (spNs C fun p => p.os) := by
  refine F.ok sc_Program_own_names (fun vs H Q E h => ?_) (fun cdv A outer s H vs Q E hr h => ?_)
  · obtain ⟨a, p, rfl, _⟩ := h
    rfl
  · obtain ⟨a, p, rfl, hP, h1, h2, k⟩ := h
    refine ⟨_, (pss_one (ps_ret (pe_callB cr_sortedT (by rfl) T.z_sorted (by decide +kernel) (pa_cons (pe_fld (pv 0) rfl) pa_nil)))), ?_⟩
    obtain ⟨dx, t1, t2, t3, t4, t5, i0, i1, i2, i3, i4, i5⟩ := hP
    refine ⟨_, rfl, a, C, dx, _, _, rfl, i0, B.cl, B.no _ (by simp), rfl, t5, p.os, rfl, SqT.of i5, by omega, fun ys l pm so nl => k _ l ys (same_new nl) nl upd_same pm so⟩
theorem ok_names {f C : Addr} {fd : FuncData} (F : Fun K "names" "Program.names" s_Program_names f fd) (T : Top K mg) (B : FldC K C ["marks", "module", "caller", "task", "shared", "own"]) : FnOk P w K mg base CX0 1 f fd ["self"] (spNs C fun p => p.ws ++ p.os) := by
  refine F.ok sc_Program_names (fun vs H Q E h => ?_) (fun cdv A outer s H vs Q E hr h => ?_)
  · obtain ⟨a, p, rfl, _⟩ := h
    rfl
  · obtain ⟨a, p, rfl, hP, h1, h2, k⟩ := h
    refine ⟨_, (pss_one (ps_ret (pe_callB cr_sortedT (by rfl) T.z_sorted (by decide +kernel) (pa_cons (pe_op op_catA (pe_fld (pv 0) rfl) (pe_fld (pv 0) rfl)) pa_nil)))), ?_⟩
    obtain ⟨dx, t1, t2, t3, t4, t5, i0, i1, i2, i3, i4, i5⟩ := hP
    have ln : (p.ws ++ p.os).length < 64 := by rw [List.length_append]; omega
    refine ⟨_, rfl, a, C, dx, _, _, rfl, i0, B.cl, B.no _ (by simp), rfl, _, rfl, a, C, dx, _, _, rfl, i0, B.cl, B.no _ (by simp), rfl, t4, t5, _, _, rfl, rfl, SqT.of i4, SqT.of i5, ?_, fun e => ?_, fun _ e => ?_, fun _ _ q nq => ?_⟩
    · rw [List.length_map, List.length_map]
      exact Nat.le_trans (by omega : p.ws.length + p.os.length ≤ 1000) (by decide)
    · have e : p.ws = [] := List.map_eq_nil_iff.mp e
      exact ⟨t5, p.os, rfl, SqT.of i5, by omega, fun ys l pm so nl => k _ l ys (same_new nl) nl upd_same (by show ys.Perm (p.ws ++ p.os); rw [e]; exact pm) so⟩
    · have e : p.os = [] := List.map_eq_nil_iff.mp e
      exact ⟨t4, p.ws, rfl, SqT.of i4, by omega, fun ys l pm so nl => k _ l ys (same_new nl) nl upd_same (by show ys.Perm (p.ws ++ p.os); rw [e, List.append_nil]; exact pm) so⟩
    · refine ⟨q, p.ws ++ p.os, rfl, SqT.of (by rw [upd_same, List.map_append]), ln, fun ys l pm so nl => ?_⟩
      have s1 := same_new (o := .tup (p.ws.map V.str ++ p.os.map V.str)) nq
      exact k _ l ys (s1.trans (same_new nl)) (s1.free nl) upd_same pm so
theorem ok_letters {f C : Addr} {fd : FuncData} (F : Fun K "letters" "Program.letters" s_Program_letters f fd) (T : Top K mg) (B : FldC K C ["marks", "module", "caller", "task", "shared", "own"]) (T_plain_marks : Cal P w K mg base 1 "plain_marks" spPlains []) (T_Program_own_names : Met P w K mg base 1 C "own_names" (spNs C fun p => p.os) []) : FnOk P w K mg base CX0 2 f fd ["self"] (spLtrs K C) := by
  refine F.ok sc_Program_letters (fun vs H Q E h => ?_) (fun cdv A outer s H vs Q E hr h => ?_)
  · obtain ⟨a, p, rfl, _⟩ := h
    rfl
  · obtain ⟨a, p, rfl, hP, h1, h2, hm, k⟩ := h
    refine ⟨_, (pss_cons (ps_set (i := 1) sc_Program_letters.nd rfl (Or.inl rfl) (pe_lst (pa_cons pe_str pa_nil)))
(pss_cons (ps_for PassesOwn.never rfl (pi_list (pe_c T_plain_marks hr (by decide) (by rfl) (pa_cons (pe_fld (pv 0) rfl) pa_nil))) (pg_name (i := 2) sc_Program_letters.nd rfl (Or.inr rfl))
(pss_one (ps_set (i := 1) sc_Program_letters.nd rfl (Or.inl rfl) (pe_op op_cat (pv 1) (pe_lc (own := [("contents", 4)]) rfl sc_Program_letters.nd (pi_list (pv 1)) (blkOk_by (own := [("contents", 4)]) (N := n_Program_letters) (sc := defScope s_Program_letters) (by decide +kernel)) (fun _ _ _ _ _ => (pg_name (i := 4) sc_Program_letters.nd rfl (Or.inl rfl))) (fun _ _ _ _ _ => pts_nil) (fun _ _ _ _ _ => (pe_op op_add_str (pv 4) (pv 2))))))))
(pss_cons (ps_setLc (i := 3) (own := [("contents", 4)]) rfl sc_Program_letters.nd rfl rfl (sw_true rfl rfl rfl (by decide +kernel)) (pi_list (pe_callB cr_sortedS (by rfl) T.z_sorted (by decide +kernel) (pa_cons (pv 1) pa_nil))) (blkOk_by (own := [("contents", 4)]) (N := n_Program_letters) (sc := defScope s_Program_letters) (by decide +kernel)) (fun _ _ _ _ _ => (pg_name (i := 4) sc_Program_letters.nd rfl (Or.inl rfl))) (fun _ _ _ _ _ => pts_nil) (fun _ _ _ _ _ => (pe_tup (pa_cons pe_str (pa_cons (pv 4) pa_nil)))))
(pss_one (ps_ret (pe_op op_cat (pv 3) (pe_lc (own := [("name", 5)]) rfl sc_Program_letters.nd (pi_list (pe_mt0 T_Program_own_names hr (by decide) (pv 0))) (blkOk_by (own := [("name", 5)]) (N := n_Program_letters) (sc := defScope s_Program_letters) (by decide +kernel)) (fun _ _ _ _ _ => (pg_name (i := 5) sc_Program_letters.nd rfl (Or.inl rfl))) (fun _ _ _ _ _ => pts_nil) (fun _ _ _ _ _ => (pe_tup (pa_cons pe_str (pa_cons (pv 5) pa_nil))))))))))), ?_⟩
    have hP0 := hP
    obtain ⟨dx, t1, t2, t3, t4, t5, i0, i1, i2, i3, i4, i5⟩ := hP
    refine ⟨by decide, fun e0 n0 => ?_⟩
    have s0 := same_new (o := .lst [V.str ""]) n0
    dsimp only [gName]
    have m3 := marks_three hm
    have p2 := plains_two hm
    have two : 2 ≤ sizeLine := by decide
    have big : ∀ {n : Nat}, n ≤ 1000 → n ≤ sizeLine := fun h => Nat.le_trans h (by decide)
    refine ⟨_, rfl, a, C, dx, _, _, rfl, s0 _ _ i0, B.cl, B.no _ (by simp), rfl, p.m, rfl, by omega, fun H1 L s1 nL hL => ⟨L, rfl, ⟨_, SqL.of hL⟩, ?_⟩⟩
    have s01 := s0.trans s1
    refine for_it (walk_list (xs := (plains p.m).map sg)) (fun i σ H' => ∃ (F : Addr) (v2 : Option V), σ = [some (.ref a), some (.ref F), v2, none, none, none] ∧ Same H1 H' ∧ H F = none ∧ H' F = some (.lst ((fnd ((plains p.m).take i)).map V.str)))
      ⟨e0, none, rfl, Same.refl _, n0, s1 _ _ upd_same⟩ (fun _ _ _ _ ⟨_, _, _, s, _⟩ => SqL.of (s _ _ hL)) ?_ ?_
    · rintro i x σ H2 H2' hi ⟨F, v2, rfl, s2, nF, hF⟩ ⟨rfl, hx⟩
      obtain ⟨c, hc, rfl⟩ : ∃ c, (plains p.m)[i]? = some c ∧ sg c = x := by
        have hx : ((plains p.m).map sg)[i]? = some x := hx
        rw [List.getElem?_map] at hx
        exact Option.map_eq_some_iff.mp hx
      have hi2 : i < (plains p.m).length := (List.getElem?_eq_some_iff.mp hc).1
      obtain ⟨T0, hT0⟩ : ∃ T0, T0 = (plains p.m).take i := ⟨_, rfl⟩
      have tl : T0.length = i := by rw [hT0]; exact List.length_take_of_le (by omega)
      obtain ⟨fl, fz⟩ := fnd_len i T0 tl
      have f4 : (fnd T0).length ≤ 4 := by
        rw [fl]
        have : i ≤ 1 := by omega
        calc 2 ^ i ≤ 2 ^ 1 := Nat.pow_le_pow_right (by decide) this
          _ ≤ 4 := by decide
      rw [← hT0] at hF
      refine ⟨_, rfl, _, rfl, F, rfl, ⟨_, SqL.of hF⟩, fun D hD => ?_⟩
      have FD : F ≠ D := ne_of_none hF hD
      refine lc_it (walk_list (xs := (fnd T0).map V.str)) (fun j H' => H' = upd H2' D (.lst (((fnd T0).take j).map fun z => V.str (z ++ (⟨#[c]⟩ : Str))))) rfl (fun _ _ _ h => by rw [h]; exact SqL.of ((upd_ne FD).trans hF)) ?_ ?_
      · rintro j y H3 H3' hj rfl ⟨rfl, hy⟩
        obtain ⟨z, hz, rfl⟩ : ∃ z, (fnd T0)[j]? = some z ∧ V.str z = y := by
          have hy : ((fnd T0).map V.str)[j]? = some y := hy
          rw [List.getElem?_map] at hy
          exact Option.map_eq_some_iff.mp hy
        have zl := (fz z (List.mem_of_getElem? hz)).1
        refine ⟨rfl, lc_yes ⟨_, rfl, _, rfl, _, _, rfl, rfl, ?_, _, upd_same, ?_, ?_⟩⟩
        · exact big (by show z.length + 1 ≤ 1000; omega)
        · rw [List.length_map, List.length_take]
          exact Nat.lt_of_le_of_lt (Nat.min_le_right _ _) (Nat.lt_of_le_of_lt f4 (by decide))
        · rw [upd_upd, take_get hz, List.map_append]
          rfl
      rintro H3 rfl
      rw [List.take_of_length_le (show (fnd T0).length ≤ ((fnd T0).map V.str).length by rw [List.length_map]; exact Nat.le_refl _)]
      refine ⟨F, D, _, _, rfl, rfl, (upd_ne FD).trans hF, upd_same, ?_, fun F2 n2 => ?_⟩
      · rw [List.length_map, List.length_map]
        exact big (by omega)
      have sD := same_new (o := .lst ((fnd T0).map fun z => V.str (z ++ (⟨#[c]⟩ : Str)))) hD
      have sE := sD.trans (same_new (o := .lst ((fnd T0).map V.str ++ (fnd T0).map fun z => V.str (z ++ (⟨#[c]⟩ : Str)))) n2)
      refine ⟨F2, _, rfl, s2.trans sE, (s01.trans s2).free (sD.free n2), ?_⟩
      rw [upd_same, take_get hc, ← hT0, fnd_snoc, List.map_append, List.map_map]
      rfl
    rintro σ H2 ⟨F, v2, rfl, s2, nF, hF⟩
    rw [List.take_of_length_le (show (plains p.m).length ≤ ((plains p.m).map sg).length by rw [List.length_map]; exact Nat.le_refl _)] at hF
    obtain ⟨fl, fz⟩ := fnd_len _ (plains p.m) rfl
    have f4 : (fnd (plains p.m)).length ≤ 4 := by
      rw [fl]
      calc 2 ^ (plains p.m).length ≤ 2 ^ 2 := Nat.pow_le_pow_right (by decide) p2
        _ ≤ 4 := by decide
    have s02 := s01.trans s2
    dsimp only
    refine ⟨_, rfl, F, _, rfl, SqL.of hF, by omega, fun ys S pm so nS => ⟨S, rfl, ⟨_, SqL.of upd_same⟩, fun D hD => ?_⟩⟩
    have y4 : ys.length ≤ 4 := by rw [pm.length_eq]; exact f4
    have sS := same_new (o := .lst (ys.map V.str)) nS
    have hS : (upd H2 S (.lst (ys.map V.str))) S = some (.lst (ys.map V.str)) := upd_same
    have s03 := s02.trans sS
    generalize (upd H2 S (.lst (ys.map V.str))) = H3 at *
    refine lc_it (walk_list (xs := ys.map V.str)) (fun j H' => ∃ ts : List Addr, H' D = some (.lst (ts.map V.ref)) ∧ Prs H' "box" ts (ys.take j) ∧ Same H3 H') ⟨[], upd_same, trivial, same_new hD⟩ (fun _ _ _ ⟨_, _, _, s⟩ => SqL.of (s _ _ hS)) ?_ ?_
    · rintro j y H4 H4' hj ⟨ts, hD4, hp, s4⟩ ⟨rfl, hy⟩
      obtain ⟨z, hz, rfl⟩ : ∃ z, ys[j]? = some z ∧ V.str z = y := by
        have hy : (ys.map V.str)[j]? = some y := hy
        rw [List.getElem?_map] at hy
        exact Option.map_eq_some_iff.mp hy
      have tl := prs_len hp
      refine ⟨rfl, lc_yes ⟨_, rfl, two, fun t nt => ⟨_, same_new nt _ _ hD4, ?_, ts ++ [t], ?_, ?_, fun b u e => ?_⟩⟩⟩
      · rw [List.length_map, tl, List.length_take]
        exact Nat.lt_of_le_of_lt (Nat.min_le_right _ _) (Nat.lt_of_le_of_lt y4 (by decide))
      · rw [upd_same, List.map_append]
        rfl
      · rw [take_get hz]
        exact prs_put (same_new nt _ _ hD4) (prs_snoc upd_same (prs_same (same_new nt) hp))
      · rw [upd_ne (ne_of_none e hD)]
        exact same_new nt _ _ (s4 _ _ e)
    rintro H4 ⟨ts, hD4, hp, s4⟩
    rw [List.take_of_length_le (show ys.length ≤ (ys.map V.str).length by rw [List.length_map]; exact Nat.le_refl _)] at hp
    have nD0 : H D = none := s03.free hD
    have s04 := s03.trans s4
    have tl := prs_len hp
    dsimp only [gName]
    refine ⟨_, rfl, _, rfl, a, dx, _, rfl, s04 _ _ i0, rfl, a, p, rfl, hP0.same s04, h1, by omega, fun H5 O ns s5 nO hO pmn son => ⟨O, rfl, ⟨_, SqL.of hO⟩, fun D2 hD2 => ?_⟩⟩
    have n2 : ns.length ≤ 2 := by rw [pmn.length_eq]; exact h2
    have s05 := s04.trans s5
    have hD5 := s5 _ _ hD4
    have hp5 := prs_same s5 hp
    refine lc_it (walk_list (xs := ns.map V.str)) (fun j H' => ∃ us : List Addr, H' D2 = some (.lst (us.map V.ref)) ∧ Prs H' "name" us (ns.take j) ∧ Same H5 H') ⟨[], upd_same, trivial, same_new hD2⟩ (fun _ _ _ ⟨_, _, _, s⟩ => SqL.of (s _ _ hO)) ?_ ?_
    · rintro j y H6 H6' hj ⟨us, hD6, hp6, s6⟩ ⟨rfl, hy⟩
      obtain ⟨z, hz, rfl⟩ : ∃ z, ns[j]? = some z ∧ V.str z = y := by
        have hy : (ns.map V.str)[j]? = some y := hy
        rw [List.getElem?_map] at hy
        exact Option.map_eq_some_iff.mp hy
      have tl6 := prs_len hp6
      refine ⟨rfl, lc_yes ⟨_, rfl, two, fun t nt => ⟨_, same_new nt _ _ hD6, ?_, us ++ [t], ?_, ?_, fun b u e => ?_⟩⟩⟩
      · rw [List.length_map, tl6, List.length_take]
        exact Nat.lt_of_le_of_lt (Nat.min_le_right _ _) (Nat.lt_of_le_of_lt n2 (by decide))
      · rw [upd_same, List.map_append]
        rfl
      · rw [take_get hz]
        exact prs_put (same_new nt _ _ hD6) (prs_snoc upd_same (prs_same (same_new nt) hp6))
      · rw [upd_ne (ne_of_none e hD2)]
        exact same_new nt _ _ (s6 _ _ e)
    rintro H6 ⟨us, hD6, hp6, s6⟩
    rw [List.take_of_length_le (show ns.length ≤ (ns.map V.str).length by rw [List.length_map]; exact Nat.le_refl _)] at hp6
    have tl6 := prs_len hp6
    refine ⟨D, D2, _, _, rfl, rfl, s6 _ _ hD5, hD6, ?_, fun R nR => ?_⟩
    · rw [List.length_map, List.length_map]
      exact big (by omega)
    have sR := same_new (o := .lst (ts.map V.ref ++ us.map V.ref)) nR
    have s06 := s05.trans s6
    refine k _ R _ ys ns (s06.trans sR) (s06.free nR) upd_same (dpall_app (prs_dp (prs_same (s6.trans sR) hp5)) (prs_dp (prs_same sR hp6))) ?_ pm so pmn son
    rw [List.length_append, List.length_map, List.length_map]
    omega
end
end W29

set_option Elab.async false
set_option linter.all false
set_option maxRecDepth 100000
set_option maxHeartbeats 4000000
namespace W29
open PySem L2 WB
open C8 (pe_c pe_mk pe_mt pe_mt0 Cal Mak Met)
open PyProof.Rows (sortedS)
section
variable {P : Program} {w : World} {K : PySem.W.Frag} {mg : Str → Option Value} {base : Heap}
theorem ok_lwletters {f : Addr} {fd : FuncData} (F : Fun K "_law_letters" "_law_letters" s_lwletters f fd) (T : Top K mg) : FnOk P w K mg base CX0 2 f fd ["_law_parts"] (spLL K) := by
  refine F.ok sc_lwletters (fun vs H Q E h => ?_) (fun cdv A outer s H vs Q E hr h => ?_)
  · obtain ⟨t, m, r1, r2, r3, gs, os, rfl, _⟩ := h
    rfl
  · obtain ⟨t, m, r1, r2, r3, gs, os, rfl, hP, hm, ho, k⟩ := h
    refine ⟨_, (pss_cons (ps_set (i := 1) sc_lwletters.nd rfl (Or.inl rfl) (pe_lst (pa_cons pe_str pa_nil)))
(pss_cons (ps_for PassesOwn.never rfl (pi_str (pe_ix ix_tup (pv 0) pe_int (fun _ _ => rfl))) (pg_name (i := 2) sc_lwletters.nd rfl (Or.inr rfl))
(pss_one (ps_if (pt_val (pe_bm0 PySem.F.plainAttrs_str PySem.F.slot_str_islower PySem.F.type_str_islower mt_islower (pv 2)))
(pss_one (ps_set (i := 1) sc_lwletters.nd rfl (Or.inl rfl) (pe_op op_cat (pv 1) (pe_lc (own := [("_law_contents", 3)]) rfl sc_lwletters.nd (pi_list (pv 1)) (blkOk_by (own := [("_law_contents", 3)]) (N := n_lwletters) (sc := defScope s_lwletters) (by decide +kernel)) (fun _ _ _ _ _ => (pg_name (i := 3) sc_lwletters.nd rfl (Or.inl rfl))) (fun _ _ _ _ _ => pts_nil) (fun _ _ _ _ _ => (pe_op op_add_str (pv 3) (pv 2)))))))
pss_nil)))
(pss_one (ps_ret (pe_op op_cat (pe_lc (own := [("_law_contents", 3)]) rfl sc_lwletters.nd (pi_list (pe_callB cr_sortedS (by rfl) T.z_sorted (by decide +kernel) (pa_cons (pv 1) pa_nil))) (blkOk_by (own := [("_law_contents", 3)]) (N := n_lwletters) (sc := defScope s_lwletters) (by decide +kernel)) (fun _ _ _ _ _ => (pg_name (i := 3) sc_lwletters.nd rfl (Or.inl rfl))) (fun _ _ _ _ _ => pts_nil) (fun _ _ _ _ _ => (pe_tup (pa_cons pe_str (pa_cons (pv 3) pa_nil))))) (pe_lc (own := [("_law_name", 4)]) rfl sc_lwletters.nd (pi_list (pe_ix ix_tup (pv 0) pe_int (fun _ _ => rfl))) (blkOk_by (own := [("_law_name", 4)]) (N := n_lwletters) (sc := defScope s_lwletters) (by decide +kernel)) (fun _ _ _ _ _ => (pg_name (i := 4) sc_lwletters.nd rfl (Or.inl rfl))) (fun _ _ _ _ _ => pts_nil) (fun _ _ _ _ _ => (pe_tup (pa_cons pe_str (pa_cons (pv 4) pa_nil)))))))))), ?_⟩
    obtain ⟨l1, l2, l3, l4, l5, i0, i1, i2, i3, i4, i5⟩ := hP
    refine ⟨by decide, fun e0 n0 => ?_⟩
    have s0 := same_new (o := .lst [V.str ""]) n0
    have he0 : (upd H e0 (.lst [V.str ""])) e0 = some (.lst ((fnd []).map V.str)) := upd_same
    generalize (upd H e0 (.lst [V.str ""])) = H1 at *
    dsimp only [gName]
    have m3 := marks_three hm
    have p2 := plains_two hm
    have two : 2 ≤ sizeLine := by decide
    have big : ∀ {n : Nat}, n ≤ 1000 → n ≤ sizeLine := fun h => Nat.le_trans h (by decide)
    have pl : ∀ i, (m.cps.toList.take i).filter (fun c => Txt.islower ⟨#[c]⟩) = [] ∨ True := fun _ => .inr trivial
    have low : ∀ i, ((m.cps.toList.take i).filter (fun c => Txt.islower (⟨#[c]⟩ : Str))).length ≤ 2 := fun i => Nat.le_trans (List.Sublist.length_le ((List.take_sublist i _).filter _)) p2
    refine ⟨_, rfl, t, _, _, _, rfl, rfl, SqT.of (s0 _ _ i0), atI_nat (j := 0) rfl, m, rfl, for_it walk_str (fun i σ H' => ∃ (F : Addr) (v2 : Option V), σ = [some (.ref t), some (.ref F), v2, none, none] ∧ Same H1 H' ∧ H F = none ∧ H' F = some (.lst ((fnd ((m.cps.toList.take i).filter (fun c => Txt.islower (⟨#[c]⟩ : Str)))).map V.str)))
      ⟨e0, none, rfl, Same.refl _, n0, he0⟩ (fun _ _ _ _ _ => trivial) ?_ ?_⟩
    · rintro i x σ H2 H2' hi ⟨F, v2, rfl, s2, nF, hF⟩ ⟨rfl, c, hc, rfl⟩
      have hc := arr_at hc
      obtain ⟨T0, hT0⟩ : ∃ T0, T0 = (m.cps.toList.take i).filter (fun c => Txt.islower (⟨#[c]⟩ : Str)) := ⟨_, rfl⟩
      have l2 := low i
      rw [← hT0] at hF l2
      obtain ⟨fl, fz⟩ := fnd_len _ T0 rfl
      have f4 : (fnd T0).length ≤ 4 := by
        rw [fl]
        calc 2 ^ T0.length ≤ 2 ^ 2 := Nat.pow_le_pow_right (by decide) l2
          _ ≤ 4 := by decide
      have nxt : (m.cps.toList.take (i + 1)).filter (fun c => Txt.islower (⟨#[c]⟩ : Str)) = T0 ++ (if Txt.islower (⟨#[c]⟩ : Str) = true then [c] else []) := by
        rw [take_get hc, List.filter_append, ← hT0, List.filter_cons, List.filter_nil]
      dsimp only [gName]
      refine ⟨_, rfl, rfl, _, rfl, rfl, trivial, _, rfl, ite_b (fun hlow => ?_) (fun hlow => ⟨F, _, rfl, s2, nF, by rw [nxt, hlow, if_neg Bool.noConfusion, List.append_nil]; exact hF⟩)⟩
      refine ⟨_, rfl, _, rfl, F, rfl, ⟨_, SqL.of hF⟩, fun D hD => ?_⟩
      have FD : F ≠ D := ne_of_none hF hD
      refine lc_it (walk_list (xs := (fnd T0).map V.str)) (fun j H' => H' = upd H2' D (.lst (((fnd T0).take j).map fun z => V.str (z ++ (⟨#[c]⟩ : Str))))) rfl (fun _ _ _ h => by rw [h]; exact SqL.of ((upd_ne FD).trans hF)) ?_ ?_
      · rintro j y H3 H3' hj rfl ⟨rfl, hy⟩
        obtain ⟨z, hz, rfl⟩ : ∃ z, (fnd T0)[j]? = some z ∧ V.str z = y := by
          have hy : ((fnd T0).map V.str)[j]? = some y := hy
          rw [List.getElem?_map] at hy
          exact Option.map_eq_some_iff.mp hy
        have zl := (fz z (List.mem_of_getElem? hz)).1
        refine ⟨rfl, lc_yes ⟨_, rfl, _, rfl, _, _, rfl, rfl, ?_, _, upd_same, ?_, ?_⟩⟩
        · exact big (by show z.length + 1 ≤ 1000; omega)
        · rw [List.length_map, List.length_take]
          exact Nat.lt_of_le_of_lt (Nat.min_le_right _ _) (Nat.lt_of_le_of_lt f4 (by decide))
        · rw [upd_upd, take_get hz, List.map_append]
          rfl
      rintro H3 rfl
      rw [List.take_of_length_le (show (fnd T0).length ≤ ((fnd T0).map V.str).length by rw [List.length_map]; exact Nat.le_refl _)]
      refine ⟨F, D, _, _, rfl, rfl, (upd_ne FD).trans hF, upd_same, ?_, fun F2 n2 => ?_⟩
      · rw [List.length_map, List.length_map]
        exact big (by omega)
      have sD := same_new (o := .lst ((fnd T0).map fun z => V.str (z ++ (⟨#[c]⟩ : Str)))) hD
      have sE := sD.trans (same_new (o := .lst ((fnd T0).map V.str ++ (fnd T0).map fun z => V.str (z ++ (⟨#[c]⟩ : Str)))) n2)
      refine ⟨F2, _, rfl, s2.trans sE, (s0.trans s2).free (sD.free n2), ?_⟩
      rw [upd_same, nxt, hlow, if_pos rfl, fnd_snoc, List.map_append, List.map_map]
      rfl
    rintro σ H2 ⟨F, v2, rfl, s2, nF, hF⟩
    have hms : m.cps.size ≤ 3 := m3
    have ez : (m.cps.toList.take m.cps.size).filter (fun c => Txt.islower (⟨#[c]⟩ : Str)) = plains m := by
      unfold plains
      rw [List.take_of_length_le (by rw [Array.length_toList]; exact Nat.le_refl _)]
    rw [ez] at hF
    obtain ⟨fl, fz⟩ := fnd_len _ (plains m) rfl
    have f4 : (fnd (plains m)).length ≤ 4 := by
      rw [fl]
      calc 2 ^ (plains m).length ≤ 2 ^ 2 := Nat.pow_le_pow_right (by decide) p2
        _ ≤ 4 := by decide
    have s02 := s0.trans s2
    dsimp only
    refine ⟨_, rfl, F, _, rfl, SqL.of hF, by omega, fun ys S pm so nS => ⟨S, rfl, ⟨_, SqL.of upd_same⟩, fun D hD => ?_⟩⟩
    have y4 : ys.length ≤ 4 := by rw [pm.length_eq]; exact f4
    have sS := same_new (o := .lst (ys.map V.str)) nS
    have hS : (upd H2 S (.lst (ys.map V.str))) S = some (.lst (ys.map V.str)) := upd_same
    have s03 := s02.trans sS
    generalize (upd H2 S (.lst (ys.map V.str))) = H3 at *
    refine lc_it (walk_list (xs := ys.map V.str)) (fun j H' => ∃ ts : List Addr, H' D = some (.lst (ts.map V.ref)) ∧ Prs H' "box" ts (ys.take j) ∧ Same H3 H') ⟨[], upd_same, trivial, same_new hD⟩ (fun _ _ _ ⟨_, _, _, s⟩ => SqL.of (s _ _ hS)) ?_ ?_
    · rintro j y H4 H4' hj ⟨ts, hD4, hp, s4⟩ ⟨rfl, hy⟩
      obtain ⟨z, hz, rfl⟩ : ∃ z, ys[j]? = some z ∧ V.str z = y := by
        have hy : (ys.map V.str)[j]? = some y := hy
        rw [List.getElem?_map] at hy
        exact Option.map_eq_some_iff.mp hy
      have tl := prs_len hp
      refine ⟨rfl, lc_yes ⟨_, rfl, two, fun t nt => ⟨_, same_new nt _ _ hD4, ?_, ts ++ [t], ?_, ?_, fun b u e => ?_⟩⟩⟩
      · rw [List.length_map, tl, List.length_take]
        exact Nat.lt_of_le_of_lt (Nat.min_le_right _ _) (Nat.lt_of_le_of_lt y4 (by decide))
      · rw [upd_same, List.map_append]
        rfl
      · rw [take_get hz]
        exact prs_put (same_new nt _ _ hD4) (prs_snoc upd_same (prs_same (same_new nt) hp))
      · rw [upd_ne (ne_of_none e hD)]
        exact same_new nt _ _ (s4 _ _ e)
    rintro H4 ⟨ts, hD4, hp, s4⟩
    rw [List.take_of_length_le (show ys.length ≤ (ys.map V.str).length by rw [List.length_map]; exact Nat.le_refl _)] at hp
    have nD0 : H D = none := s03.free hD
    have s04 := s03.trans s4
    have tl := prs_len hp
    have i5' := s04 _ _ i5
    refine ⟨_, rfl, t, _, _, _, rfl, rfl, SqT.of (s04 _ _ i0), atI_nat (j := 5) rfl, l5, rfl, ⟨_, SqL.of i5'⟩, fun D2 hD2 => ?_⟩
    refine lc_it (walk_list (xs := os.map V.str)) (fun j H' => ∃ us : List Addr, H' D2 = some (.lst (us.map V.ref)) ∧ Prs H' "name" us (os.take j) ∧ Same H4 H') ⟨[], upd_same, trivial, same_new hD2⟩ (fun _ _ _ ⟨_, _, _, s⟩ => SqL.of (s _ _ i5')) ?_ ?_
    · rintro j y H6 H6' hj ⟨us, hD6, hp6, s6⟩ ⟨rfl, hy⟩
      obtain ⟨z, hz, rfl⟩ : ∃ z, os[j]? = some z ∧ V.str z = y := by
        have hy : (os.map V.str)[j]? = some y := hy
        rw [List.getElem?_map] at hy
        exact Option.map_eq_some_iff.mp hy
      have tl6 := prs_len hp6
      refine ⟨rfl, lc_yes ⟨_, rfl, two, fun t nt => ⟨_, same_new nt _ _ hD6, ?_, us ++ [t], ?_, ?_, fun b u e => ?_⟩⟩⟩
      · rw [List.length_map, tl6, List.length_take]
        exact Nat.lt_of_le_of_lt (Nat.min_le_right _ _) (Nat.lt_of_le_of_lt ho (by decide))
      · rw [upd_same, List.map_append]
        rfl
      · rw [take_get hz]
        exact prs_put (same_new nt _ _ hD6) (prs_snoc upd_same (prs_same (same_new nt) hp6))
      · rw [upd_ne (ne_of_none e hD2)]
        exact same_new nt _ _ (s6 _ _ e)
    rintro H6 ⟨us, hD6, hp6, s6⟩
    rw [List.take_of_length_le (show os.length ≤ (os.map V.str).length by rw [List.length_map]; exact Nat.le_refl _)] at hp6
    have tl6 := prs_len hp6
    refine ⟨D, D2, _, _, rfl, rfl, s6 _ _ hD4, hD6, ?_, fun R nR => ?_⟩
    · rw [List.length_map, List.length_map]
      exact big (by omega)
    have sR := same_new (o := .lst (ts.map V.ref ++ us.map V.ref)) nR
    have s06 := s04.trans s6
    refine k _ R _ ys (s06.trans sR) (s06.free nR) upd_same (dpall_app (prs_dp (prs_same (s6.trans sR) hp)) (prs_dp (prs_same sR hp6))) ?_ pm so
    rw [List.length_append, List.length_map, List.length_map]
    omega
end
end W29

set_option Elab.async false
set_option linter.all false
set_option maxRecDepth 100000
set_option maxHeartbeats 4000000
namespace W29
open PySem L2 WB
open C8 (pe_c pe_mk pe_mt pe_mt0 Cal Mak Met)
section
variable {P : Program} {w : World} {K : PySem.W.Frag} {mg : Str → Option Value} {base : Heap}
theorem ok_ini_BadText {f C : Addr} {fd : FuncData} (F : Fun K "__init__" "BadText.__init__" s_BadText__init f fd) {B newId initId : String} {bmB : List Value} (T : OexB K C B newId initId bmB) (no0 : PySem.W.findIn K (.ref C) "at" = some none) : FnOk P w K mg base CX0 1 f fd ["self", "at"] (spG C ["at"]) := by
  refine F.ok sc_BadText__init (fun vs H Q E h => ?_) (fun cdv A outer s H vs Q E hr h => ?_)
  · obtain ⟨a, ys, rfl, hl, _⟩ := h
    show ys.length + 1 = _
    rw [hl]
    rfl
  · obtain ⟨a, ys, rfl, hl, ha, k⟩ := h
    obtain ⟨y0, rfl⟩ : ∃ y0, ys = [y0] := by
      match ys, hl with
      | [y0], _ => exact ⟨_, rfl⟩
    refine ⟨_, (pss_one (ps_ostB T no0 (pv 0) (pv 1))), ?_⟩
    refine ⟨_, rfl, _, rfl, a, rfl, .inl ⟨ha, fun dx nd ne => k _ dx _ (ini_bar nd) nd ne upd_same ((upd_ne ne).trans upd_same) fun g v h => ?_⟩⟩
    simp only [List.zip_cons_cons, List.zip_nil_right, List.mem_cons, List.not_mem_nil, or_false, Prod.mk.injEq] at h
    rcases h with h <;> (cases h.1; cases h.2; rfl)

end
end W29

set_option Elab.async false
set_option linter.all false
set_option maxRecDepth 100000
set_option maxHeartbeats 4000000
namespace W29
open PySem L2 WB
open C8 (pe_c pe_mk pe_mt pe_mt0 Cal Mak Met)
section
variable {P : Program} {w : World} {K : PySem.W.Frag} {mg : Str → Option Value} {base : Heap}
theorem ok_place_of {f CX : Addr} {fd : FuncData} (F : Fun K "place_of" "place_of" s_place_of f fd) (T : Top K mg) (EX : ErY P w K mg base CX "BadText" ["at"] ["at"]) : FnOk P w K mg base (L2.CX P w) 3 f fd ["line", "lines", "start"] (spPlace K CX) := by
  refine F.okX sc_place_of (fun vs H Q E h => ?_) (fun cdv A outer s H vs Q E hr h => ?_)
  · obtain ⟨z, l, ls, st, rfl, _⟩ := h
    rfl
  · obtain ⟨z, l, ls, st, rfl, hl, hn, hs, ky, kn⟩ := h
    refine ⟨_, (pss_cons (ps_for (passes_of rfl) rfl (pi_range2 rfl T.z_range (pa_cons (pv 2) (pa_cons (pe_callB call_len_seq (by rfl) T.z_len (by decide +kernel) (pa_cons (pv 1) pa_nil)) pa_nil))) (pg_name (i := 3) sc_place_of.nd rfl (Or.inl rfl))
(pss_one (ps_if (pt_cmpR op_eq (pe_ix ix_list (pv 1) (pv 3) (fun _ _ => rfl)) (pv 0) (nomark _))
(pss_one (ps_ret (pv 3)))
pss_nil)))
(pss_one (ps_raise rfl (takes_of (E := E) rfl rfl rfl rfl) (pmk_ery EX hr (by decide) (by rfl) (pa_cons (pe_callB call_len_seq (by rfl) T.z_len (by decide +kernel) (pa_cons (pv 1) pa_nil)) pa_nil))))), ?_⟩
    have elen : (ls.map V.str).length = ls.length := List.length_map _
    refine ⟨_, rfl, _, rfl, l, _, rfl, .inl hl, _, _, rfl, ⟨Int.le_trans (by decide : (-2 ^ 62 : Int) ≤ 0) (by omega), Int.lt_trans (by omega : ((st : Nat) : Int) < 2000) (by decide), Int.le_trans (by decide : (-2 ^ 62 : Int) ≤ 0) (by omega), Int.lt_trans (by omega : (((ls.map V.str).length : Nat) : Int) < 2000) (by decide)⟩, ?_⟩
    refine for_it walk_range (fun k σ H' => ∃ v3, σ = [some (.str z), some (.ref l), some (.int (st : Nat)), v3] ∧ H' = H ∧ ∀ j, st ≤ j → j < st + k → ls[j]? ≠ some z)
      ⟨none, rfl, rfl, fun j a b => absurd b (by omega)⟩ (fun _ _ _ _ _ => trivial) ?_ ?_
    · rintro k x σ H1 H1' hk ⟨v3, rfl, rfl, hno⟩ ⟨rfl, rfl⟩
      have hk2 : st + k < ls.length := by omega
      obtain ⟨y, hy⟩ : ∃ y, ls[st + k]? = some y := ⟨_, List.getElem?_eq_getElem hk2⟩
      refine ⟨_, rfl, _, rfl, l, _, _, V.str y, rfl, rfl, hl, (by rw [← Int.natCast_add]; exact atI_nat (map_at hy)), _, rfl, rfl, _, rfl, ite_b (fun hd => ?_) (fun hd => ?_)⟩
      · have e : y = z := V.str.inj (of_decide_eq_true hd)
        refine ⟨_, rfl, ?_⟩
        have := ky (st + k) ⟨by omega, by rw [hy, e], fun j a b => hno j a b⟩
        rw [Int.natCast_add] at this
        exact this
      · refine ⟨_, rfl, rfl, fun j a b => ?_⟩
        by_cases q : j < st + k
        · exact hno j a q
        · have e : j = st + k := by omega
          rw [e, hy]
          intro c
          exact of_decide_eq_false hd (congrArg V.str (Option.some.inj c))
    · rintro σ H1 ⟨v3, rfl, rfl, hno⟩
      have none : NoneAt z ls st := fun j a b => by
        have hj := (List.getElem?_eq_some_iff.mp b).1
        exact hno j a (by omega) b
      refine ⟨_, rfl, l, _, rfl, .inl hl, by show 1 ≤ 1000; decide, fun a na => ery_ok rfl na fun H' d s4 nd xd => ?_⟩
      rw [elen] at xd
      exact kn none H' d s4 nd xd
end
end W29

set_option Elab.async false
set_option linter.all false
set_option maxRecDepth 100000
set_option maxHeartbeats 4000000
namespace W29
open PySem L2 WB
open C8 (pe_c pe_mk pe_mt pe_mt0 Cal Mak Met)
section
variable {P : Program} {w : World} {K : PySem.W.Frag} {mg : Str → Option Value} {base : Heap}
theorem ok_read_p {f C CB CT CX : Addr} {fd : FuncData} (F : Fun K "read" "Program.read" s_Program_read f fd) (T : Top K mg) (EX : ErY P w K mg base CX "BadText" ["at"] ["at"])
    (T_place_of : CalX P w K mg base 3 "place_of" (spPlace K CX)) (T_Program : MakP P w K mg base 8 "Program" C (spInitP K C CB CT)) : FnOk P w K mg base (L2.CX P w) 10 f fd ["text"] (spPRead K C CB CT CX) := by
  refine F.okX sc_Program_read (fun vs H Q E h => ?_) (fun cdv A outer s H vs Q E hr h => ?_)
  · obtain ⟨x, rfl, _⟩ := h
    rfl
  · obtain ⟨x, rfl, hx, kn, ky⟩ := h
    refine ⟨_, (pss_cons (ps_if (pt_not (pt_val (pe_callB call_isi (by rfl) T.z_isinstance (by decide +kernel) (pa_cons (pv 0) (pa_cons (pe_bltn (v := .ty "str") (u := .type "str") (by rfl) T.z_str (by decide +kernel) rfl) pa_nil)))))
(pss_one (ps_raise rfl (takes_of (E := E) rfl rfl rfl rfl) (pmk_ery EX hr (by decide) (by rfl) (pa_cons (pe_un un_neg pe_int) pa_nil))))
pss_nil)
(pss_cons (ps_set (i := 1) sc_Program_read.nd rfl (Or.inl rfl) (pe_bm PySem.F.plainAttrs_str PySem.F.slot_str_split PySem.F.type_str_split mt_split (pv 0) (pa_cons pe_str pa_nil)))
(pss_cons (ps_if (pt_not (pt_val (pe_bm PySem.F.plainAttrs_str PySem.F.slot_str_startswith PySem.F.type_str_startswith mt_startswith (pe_ix ix_list (pv 1) pe_int (fun _ _ => rfl)) (pa_cons pe_str pa_nil))))
(pss_one (ps_raise rfl (takes_of (E := E) rfl rfl rfl rfl) (pmk_ery EX hr (by decide) (by rfl) (pa_cons pe_int pa_nil))))
pss_nil)
(pss_cons (ps_if (PW.pt (pw_and (pt_cmpR op_gt (pe_callB call_len_seq (by rfl) T.z_len (by decide +kernel) (pa_cons (pv 1) pa_nil)) pe_int (nomark _)) (pw_and1 (pt_cmpR op_ne (pe_ix ix_list (pv 1) pe_int (fun _ _ => rfl)) pe_str (nomark _)))))
(pss_one (ps_raise rfl (takes_of (E := E) rfl rfl rfl rfl) (pmk_ery EX hr (by decide) (by rfl) (pa_cons pe_int pa_nil))))
pss_nil)
(pss_cons (ps_set (i := 2) sc_Program_read.nd rfl (Or.inl rfl) (pe_cX T_place_of (E := E) (takes_of rfl rfl rfl rfl) hr (by decide) (by rfl) (pa_cons pe_str (pa_cons (pv 1) (pa_cons pe_int pa_nil)))))
(pss_cons (ps_set (i := 3) sc_Program_read.nd rfl (Or.inl rfl) (pe_cX T_place_of (E := E) (takes_of rfl rfl rfl rfl) hr (by decide) (by rfl) (pa_cons pe_str (pa_cons (pv 1) (pa_cons (pe_op op_add (pv 2) pe_int) pa_nil)))))
(pss_one (ps_ret (pe_mkP T_Program (takes_of (E := E) rfl rfl rfl rfl) hr (by decide) (by rfl) (pa_cons (pe_bm PySem.F.plainAttrs_str PySem.F.slot_str_removeprefix PySem.F.type_str_removeprefix mt_removeprefix (pe_ix ix_list (pv 1) pe_int (fun _ _ => rfl)) (pa_cons pe_str pa_nil)) (pa_cons (pe_slice sl_list (pv 1) (po_some pe_int) (po_some (pv 2))) (pa_cons (pe_slice sl_list (pv 1) (po_some (pe_op op_add (pv 2) pe_int)) (po_some (pv 3))) (pa_cons (pe_slice sl_list (pv 1) (po_some (pe_op op_add (pv 3) pe_int)) po_none) pa_nil))))))))))))), ?_⟩
    rcases hx H (Same.refl H) with ⟨z, rfl⟩ | ⟨t, hty, hkk⟩
    rotate_left
    · have hn : ∀ z, x ≠ .str z := fun z e => by
        subst e
        cases hty with
        | base h => cases h; exact absurd hkk (by decide +kernel)
      exact ⟨_, rfl, _, _, _, _, false, rfl, .ty "str", hty, kit_ty hkk, false, rfl, iteT ⟨_, rfl, by show 1 ≤ 1000; decide, fun a na => ery_ok rfl na fun H' d s4 nd xd => kn hn H' d s4 nd xd⟩⟩
    obtain ⟨hz, hy, hlen, ke, kp⟩ := ky z rfl
    have npos : 0 < (Txt.split z "\n").length := PyProof.Rows.split_pos z "\n"
    refine ⟨_, rfl, _, _, _, _, true, rfl, .ty "str", .base (.str z), kit_ty (by decide +kernel), true, rfl, iteF ?_⟩
    refine ⟨_, rfl, rfl, z, _, rfl, rfl, by decide +kernel, Nat.le_trans (Nat.add_le_add_right hz 2) (by decide), fun pl npl => ?_⟩
    dsimp only [gName]
    have s1 := same_new (o := .lst ((Txt.split z "\n").map V.str)) npl
    have hp : (upd H pl (.lst ((Txt.split z "\n").map V.str))) pl = some (.lst ((Txt.split z "\n").map V.str)) := upd_same
    show tSeq _ _ _ _ (upd H pl (.lst ((Txt.split z "\n").map V.str)))
    generalize (upd H pl (.lst ((Txt.split z "\n").map V.str))) = H1 at *
    generalize (Txt.split z "\n") = ls at *
    have h0 : ls[0]? = some (hd0 ls) := by
      cases ls with
      | nil => cases npos
      | cons a r => rfl
    have i0 := map_at (f := V.str) h0
    refine ⟨_, rfl, pl, _, _, _, rfl, rfl, SqL.of hp, atI_nat (j := 0) i0, rfl, _, _, rfl, rfl, _, rfl, ?_⟩
    cases sw : Txt.startswith (hd0 ls) "marks " with
    | false => exact iteT ⟨by show 1 ≤ 1000; decide, fun a na => ery_ok rfl na fun H' d s4 nd xd => ke (.text 0) (readF0 sw) H' d (s1.trans s4) (s1.free nd) xd⟩
    | true =>
    refine iteF ?_
    dsimp only [tNext]
    have elen : (ls.map V.str).length = ls.length := List.length_map _
    refine seq_join (fun σ' H' => σ' = [some (.str z), some (.ref pl), none, none] ∧ H' = H1 ∧ (ls.length = 1 ∨ ls[1]? = some ("module" : Str))) (fun nx hnx => ?_) ?_
    · refine ⟨_, rfl, pl, _, rfl, .inl (SqL.of hp), _, _, rfl, rfl, _, rfl, ?_⟩
      by_cases l1 : 1 < ls.length
      · obtain ⟨y, hy1⟩ : ∃ y, ls[1]? = some y := ⟨_, List.getElem?_eq_getElem l1⟩
        rw [decide_eq_true (by rw [elen]; omega : (1 : Int) < (((ls.map V.str).length : Nat) : Int))]
        refine iteT ⟨_, rfl, pl, _, _, V.str y, rfl, rfl, SqL.of hp, atI_nat (j := 1) (map_at hy1), rfl, _, rfl, ?_⟩
        by_cases e : y = ("module" : Str)
        · rw [decide_eq_true (congrArg V.str e)]
          exact iteF (hnx _ _ ⟨rfl, rfl, .inr (by rw [hy1, e])⟩)
        · rw [decide_eq_false (fun h => e (V.str.inj h))]
          refine iteT ⟨by show 1 ≤ 1000; decide, fun a na => ery_ok rfl na fun H' d s4 nd xd => ke (.text 1) (readF1 sw fun h => e ?_) H' d (s1.trans s4) (s1.free nd) xd⟩
          rw [hy1] at h
          exact Option.some.inj h
      · have e1 : ls.length = 1 := by omega
        rw [decide_eq_false (by rw [elen]; omega : ¬ (1 : Int) < (((ls.map V.str).length : Nat) : Int))]
        exact iteF (iteF (hnx _ _ ⟨rfl, rfl, .inl e1⟩))
    rintro σ' H2 ⟨rfl, rfl, hm⟩
    refine ⟨_, rfl, "caller", pl, ls, 2, rfl, SqL.of hp, by omega, by decide, fun c hc => ?_, fun nn H' d s4 nd xd => ?_⟩
    rotate_left
    · rcases hm with e | e
      · refine ke (.text 1) (readF1 sw fun h => ?_) H' d (s1.trans s4) (s1.free nd) (by rw [e] at xd; exact xd)
        have := (List.getElem?_eq_some_iff.mp h).1
        omega
      · exact ke (.text (ls.length : Nat)) (readF2 sw e nn) H' d (s1.trans s4) (s1.free nd) xd
    have cb := hc.lt
    have em : ls[1]? = some ("module" : Str) := hm.resolve_left (by omega)
    dsimp only [gName]
    refine ⟨_, rfl, _, rfl, _, _, rfl, rfl, "task", pl, ls, c + 1, rfl, SqL.of hp, by omega, by omega, fun t ht => ?_, fun nn H' d s4 nd xd => ke (.text (ls.length : Nat)) (readF3 sw em hc nn) H' d (s1.trans s4) (s1.free nd) xd⟩
    have tb := ht.lt
    dsimp only [gName]
    have h0m : hd0 ls ∈ ls := List.mem_of_getElem? h0
    have h0y := hy _ h0m
    refine ⟨_, rfl, pl, _, _, _, rfl, rfl, SqL.of hp, atI_nat (j := 0) i0, rfl, _, _, rfl, rfl, Nat.le_trans h0y.1 (by decide), ?_⟩
    rw [pre_cut sw]
    have ec : cutV (ls.map V.str) (some 2) (some (c : Int)) = ((ls.take c).drop 2).map V.str := by
      rw [show (2 : Int) = ((2 : Nat) : Int) from rfl, cut_mid _ cb.1 (by rw [elen]; omega), List.map_drop, List.map_take]
    have et : cutV (ls.map V.str) (some ((c : Int) + 1)) (some (t : Int)) = ((ls.take t).drop (c + 1)).map V.str := by
      rw [show ((c : Int) + 1) = ((c + 1 : Nat) : Int) from rfl, cut_mid _ tb.1 (by rw [elen]; omega), List.map_drop, List.map_take]
    have ez : cutV (ls.map V.str) (some ((t : Int) + 1)) none = (ls.drop (t + 1)).map V.str := by
      rw [show ((t : Int) + 1) = ((t + 1 : Nat) : Int) from rfl, cut_drop, List.map_drop]
    refine ⟨_, rfl, _, rfl, _, rfl, _, rfl, pl, _, rfl, SqL.of hp, fun y1 m1 => ?_⟩
    rw [ec]
    have k1 := same_new (o := .lst (((ls.take c).drop 2).map V.str)) m1
    refine ⟨_, rfl, _, rfl, _, _, rfl, rfl, _, rfl, _, rfl, _, rfl, pl, _, rfl, SqL.of (k1 _ _ hp), fun y2 m2 => ?_⟩
    rw [et]
    have k2 := k1.trans (same_new (o := .lst (((ls.take t).drop (c + 1)).map V.str)) m2)
    refine ⟨_, rfl, _, rfl, _, _, rfl, rfl, _, rfl, pl, _, rfl, SqL.of (k2 _ _ hp), fun y3 m3 => ?_⟩
    rw [ez]
    have k3 := k2.trans (same_new (o := .lst ((ls.drop (t + 1)).map V.str)) m3)
    have hmy : (cutS (hd0 ls) (some 6) none).length ≤ 1000 := cut_len h0y.1
    refine fun ap dx na ndx nda => ?_
    have sM : Same _ (upd (upd _ dx (.own ap)) ap (.ins C dx [])) := same_made na ndx (Bar.refl _ _)
    have a3 := sM _ _ (upd_same (a := y3) (o := .lst ((ls.drop (t + 1)).map V.str)))
    have a2 := sM _ _ ((same_new (o := .lst ((ls.drop (t + 1)).map V.str)) m3) _ _ (upd_same (a := y2) (o := .lst (((ls.take t).drop (c + 1)).map V.str))))
    have a1 := sM _ _ (((same_new (o := .lst (((ls.take t).drop (c + 1)).map V.str)) m2).trans (same_new (o := .lst ((ls.drop (t + 1)).map V.str)) m3)) _ _ (upd_same (H := H2) (a := y1) (o := .lst (((ls.take c).drop 2).map V.str))))
    have s3M := s1.trans (k3.trans sM)
    refine ⟨ap, dx, .str _, .ref y1, .ref y2, .ref y3, _, _, _, rfl, upd_same, .inl ⟨_, rfl, hmy⟩, fun y e => by cases e; exact hmy, argV_strs a1 ?_ ?_, argV_strs a2 ?_ ?_, argV_strs a3 ?_ ?_, fun e he H' d s4 nd xd => ?_, fun r hr' H' b hP => ⟨rfl, ?_⟩⟩
    · rw [List.length_drop, List.length_take]; omega
    · exact fun y h => hy y (List.mem_of_mem_take (List.mem_of_mem_drop h))
    · rw [List.length_drop, List.length_take]; omega
    · exact fun y h => hy y (List.mem_of_mem_take (List.mem_of_mem_drop h))
    · rw [List.length_drop]; omega
    · exact fun y h => hy y (List.mem_of_mem_drop h)
    · exact ke (.er e) (by rw [readF4 sw em hc ht]; unfold progL; rw [he]; rfl) H' d (s3M.trans s4) (s3M.free nd) xd
    · exact kp r (by rw [readF4 sw em hc ht]; unfold progL; rw [hr']; rfl) H' ap (s1.trans (k3.trans (same_made na ndx b))) hP
end
end W29

set_option Elab.async false
set_option linter.all false
set_option maxRecDepth 100000
set_option maxHeartbeats 4000000
namespace W29
open PySem L2 WB
open C8 (pe_c pe_mk pe_mt pe_mt0 Cal Mak Met)
open PyProof.Rows (sortedS)
section
variable {P : Program} {w : World} {K : PySem.W.Frag} {mg : Str → Option Value} {base : Heap}
theorem ok_str {f C : Addr} {fd : FuncData} (F : Fun K "__str__" "Program.__str__" s_Program__str f fd) (T : Top K mg) (B : FldC K C ["marks", "module", "caller", "task", "shared", "own"]) : FnOk P w K mg base CX0 1 f fd ["self"] (spStrP C) := by
  refine F.ok sc_Program__str (fun vs H Q E h => ?_) (fun cdv A outer s H vs Q E hr h => ?_)
  · obtain ⟨a, m, r1, r2, r3, ws, ns, rfl, _⟩ := h
    rfl
  · obtain ⟨a, m, r1, r2, r3, ws, ns, rfl, hP, hR, k⟩ := h
    refine ⟨_, (pss_one (ps_ret (pe_join pe_str (pe_lst (pa_cons (pe_joined (.cons pe_str (.cons (pe_fmt (pe_fld (pv 0) rfl)) .nil))) (pa_cons pe_str (StX.pa_star (pe_fld (pv 0) rfl) (pa_cons pe_str (StX.pa_star (pe_fld (pv 0) rfl) (pa_cons pe_str (StX.pa_star (pe_fld (pv 0) rfl) pa_nil))))))))))), ?_⟩
    obtain ⟨dx, t1, t2, t3, t4, t5, i0, i1, i2, i3, i4, i5⟩ := hP
    have m6 : Sm 6 ("marks " : Str) := sm_lit
    have e1 : Str.empty ++ ("marks " : Str) = "marks " := by decide +kernel
    have big : ∀ {n : Nat}, n ≤ 1000 → n ≤ sizeLine := fun h => Nat.le_trans h (by decide)
    have hl := hR.len
    have m3 := hR.m3.1
    have l0 : Str.empty.length = 0 := rfl
    have l6 : ("marks " : Str).length = 6 := rfl
    refine ⟨⟨_, rfl⟩, _, rfl, big (by rw [Str.length_append, l0, l6]; omega), _, rfl, a, C, dx, _, _, rfl, i0, B.cl, B.no _ (by simp), rfl, .inl ⟨m, rfl, big (by omega), _, rfl, big (by rw [Str.length_append, Str.length_append, l0, l6]; omega), ?_⟩⟩
    rw [e1]
    refine ⟨_, rfl, a, C, dx, _, _, rfl, i0, B.cl, B.no _ (by simp), rfl, t1, _, rfl, .inl (SqT.of i1), _, rfl, a, C, dx, _, _, rfl, i0, B.cl, B.no _ (by simp), rfl, t2, _, rfl, .inl (SqT.of i2), _, rfl, a, C, dx, _, _, rfl, i0, B.cl, B.no _ (by simp), rfl, t3, _, rfl, .inl (SqT.of i3), ?_⟩
    have em : (V.str (("marks " : Str) ++ m)) :: (V.str "module") :: (r1.map V.str ++ ((V.str "caller") :: (r2.map V.str ++ ((V.str "task") :: (r3.map V.str ++ []))))) = (linesP m r1 r2 r3).map V.str := by
      unfold linesP
      rw [List.append_nil, List.map_cons, List.map_cons, List.map_append, List.map_cons, List.map_append, List.map_cons]
    show (_ :: _ :: _).length ≤ sizeLine ∧ _
    rw [em]
    refine ⟨big (by rw [List.length_map]; omega), fun L nL => ⟨_, L, linesP m r1 r2 r3, rfl, rfl, .inl (SqL.of upd_same), ?_, k _ (same_new nL)⟩⟩
    have h1 := wt_sum (linesP m r1 r2 r3)
    have h2 := wt_le (k := 30) (ts := linesP m r1 r2 r3) fun z hz => (hR.lines z hz).1
    show ((linesP m r1 r2 r3).map (·.length)).sum + (linesP m r1 r2 r3).length * 1 ≤ _
    omega
theorem ok_make {f C CB CT : Addr} {fd : FuncData} (F : Fun K "_law_make" "_law_make" s_make f fd) (T : Top K mg) (T_Program : MakP P w K mg base 8 "Program" C (spInitP K C CB CT)) : FnOk P w K mg base CX0 10 f fd ["_law_parts"] (spMakeG C) := by
  refine F.ok sc_make (fun vs H Q E h => ?_) (fun cdv A outer s H vs Q E hr h => ?_)
  · obtain ⟨t, m, r1, r2, r3, gs, os, ws, ns, rfl, _⟩ := h
    rfl
  · obtain ⟨t, m, r1, r2, r3, gs, os, ws, ns, rfl, hA, hR, hpe, k⟩ := h
    refine ⟨_, (pss_one (ps_ret (pe_mkP T_Program (W := fun _ _ _ _ => False) takes0 hr (by decide) (by rfl) (pa_cons (pe_ix ix_tup (pv 0) pe_int (fun _ _ => rfl)) (pa_cons (pe_callTy call_list_of (by rfl) T.z_list (by decide +kernel) (pa_cons (pe_ix ix_tup (pv 0) pe_int (fun _ _ => rfl)) pa_nil)) (pa_cons (pe_callTy call_list_of (by rfl) T.z_list (by decide +kernel) (pa_cons (pe_ix ix_tup (pv 0) pe_int (fun _ _ => rfl)) pa_nil)) (pa_cons (pe_callTy call_list_of (by rfl) T.z_list (by decide +kernel) (pa_cons (pe_ix ix_tup (pv 0) pe_int (fun _ _ => rfl)) pa_nil)) pa_nil))))))), ?_⟩
    obtain ⟨l1, l2, l3, l4, l5, ht, h1, h2, h3, h4, h5⟩ := hA
    refine ⟨_, rfl, t, _, _, _, rfl, rfl, SqT.of ht, atI_nat (j := 0) rfl, _, rfl, t, _, _, _, rfl, rfl, SqT.of ht, atI_nat (j := 1) rfl, l1, _, rfl, .inl (SqL.of h1), fun y1 m1 => ?_⟩
    have g1 := same_new (o := .lst (r1.map V.str)) m1
    refine ⟨_, rfl, t, _, _, _, rfl, rfl, SqT.of (g1 _ _ ht), atI_nat (j := 2) rfl, l2, _, rfl, .inl (SqL.of (g1 _ _ h2)), fun y2 m2 => ?_⟩
    have g2 := g1.trans (same_new (o := .lst (r2.map V.str)) m2)
    refine ⟨_, rfl, t, _, _, _, rfl, rfl, SqT.of (g2 _ _ ht), atI_nat (j := 3) rfl, l3, _, rfl, .inl (SqL.of (g2 _ _ h3)), fun y3 m3 => ?_⟩
    have g3 := g2.trans (same_new (o := .lst (r3.map V.str)) m3)
    have a1 := ((same_new (o := .lst (r2.map V.str)) m2).trans (same_new (o := .lst (r3.map V.str)) m3)) _ _ (upd_same (H := H) (a := y1) (o := .lst (r1.map V.str)))
    have a2 := (same_new (o := .lst (r3.map V.str)) m3) _ _ (upd_same (a := y2) (o := .lst (r2.map V.str)))
    have a3 := upd_same (H := upd (upd H y1 (.lst (r1.map V.str))) y2 (.lst (r2.map V.str))) (a := y3) (o := .lst (r3.map V.str))
    generalize (upd (upd (upd H y1 (.lst (r1.map V.str))) y2 (.lst (r2.map V.str))) y3 (.lst (r3.map V.str))) = G3 at *
    have l1' := hR.l1
    have l2' := hR.l2
    have A1 := argF_strs (K := K) a1 (by omega) (row30 hR.w1)
    have A2 := argF_strs (K := K) a2 (by omega) (row30 hR.w2)
    have A3 := argF_strs (K := K) a3 hR.l3 (row30 hR.w3)
    have ml : m.length ≤ 1000 := Nat.le_trans hR.m3.1 (by decide)
    obtain ⟨M1, M2⟩ := mark_str (K := K) (H := G3) ml
    have noE : ∀ e, progE (.str m) (some (r1.map V.str)) (some (r2.map V.str)) (some (r3.map V.str)) ≠ .error e := fun e he => by
      rw [hpe] at he
      cases he
    refine fun ap dx na ndx nda => ?_
    have sM : Same G3 (upd (upd G3 dx (.own ap)) ap (.ins C dx [])) := same_made na ndx (Bar.refl _ _)
    refine ⟨ap, dx, .str m, .ref y1, .ref y2, .ref y3, _, _, _, rfl, upd_same, M1 _ sM, M2, (A1.same sM).arg, (A2.same sM).arg, (A3.same sM).arg, fun e he => absurd he (noE e), fun r hr' H3 b1' hP => ⟨rfl, ?_⟩⟩
    rw [hpe] at hr'
    cases hr'
    exact k _ ap (g3.trans (same_made na ndx b1')) hP
theorem ok_text {f : Addr} {fd : FuncData} (F : Fun K "_law_text" "_law_text" s_text f fd) (T : Top K mg) : FnOk P w K mg base CX0 1 f fd ["_law_parts"] spTextL := by
  refine F.ok sc_text (fun vs H Q E h => ?_) (fun cdv A outer s H vs Q E hr h => ?_)
  · obtain ⟨t, m, r1, r2, r3, gs, os, rfl, _⟩ := h
    rfl
  · obtain ⟨t, m, r1, r2, r3, gs, os, rfl, hA, hR, k⟩ := h
    refine ⟨_, (pss_one (ps_ret (pe_join pe_str (pe_op op_cat (pe_op op_cat (pe_op op_cat (pe_op op_cat (pe_op op_cat (pe_lst (pa_cons (pe_op op_add_str pe_str (pe_ix ix_tup (pv 0) pe_int (fun _ _ => rfl))) (pa_cons pe_str pa_nil))) (pe_ix ix_tup (pv 0) pe_int (fun _ _ => rfl))) (pe_lst (pa_cons pe_str pa_nil))) (pe_ix ix_tup (pv 0) pe_int (fun _ _ => rfl))) (pe_lst (pa_cons pe_str pa_nil))) (pe_ix ix_tup (pv 0) pe_int (fun _ _ => rfl)))))), ?_⟩
    obtain ⟨l1, l2, l3, l4, l5, ht, h1, h2, h3, h4, h5⟩ := hA
    have m6 : Sm 6 ("marks " : Str) := sm_lit
    have big : ∀ {n : Nat}, n ≤ 1000 → n ≤ sizeLine := fun h => Nat.le_trans h (by decide)
    have q1 := hR.l1
    have q2 := hR.l2
    have q3 := hR.l3
    have e1 : (r1.map V.str).length = r1.length := List.length_map _
    have e2 : (r2.map V.str).length = r2.length := List.length_map _
    have e3 : (r3.map V.str).length = r3.length := List.length_map _
    refine ⟨⟨_, rfl⟩, _, rfl, t, _, _, _, rfl, rfl, SqT.of ht, atI_nat (j := 0) rfl, _, _, rfl, rfl, m6.line hR.m3, big (by show 2 ≤ 1000; decide), fun y1 n1 => ?_⟩
    have k1 := same_new (o := .lst [V.str (("marks " : Str) ++ m), .str "module"]) n1
    refine ⟨_, rfl, t, _, _, _, rfl, rfl, SqT.of (k1 _ _ ht), atI_nat (j := 1) rfl, y1, l1, _, _, rfl, rfl, upd_same, k1 _ _ h1, big (by show 2 + _ ≤ 1000; omega), fun y2 n2 => ?_⟩
    have k2 := k1.trans (same_new (o := .lst ([V.str (("marks " : Str) ++ m), .str "module"] ++ r1.map V.str)) n2)
    have L2 : ([V.str (("marks " : Str) ++ m), .str "module"] ++ r1.map V.str).length = 2 + r1.length := by rw [List.length_append, e1]; rfl
    refine ⟨big (by decide), fun y3 n3 => ⟨y2, y3, _, _, rfl, rfl, same_new n3 _ _ upd_same, upd_same, big (by rw [L2]; show _ + 1 ≤ 1000; omega), fun y4 n4 => ?_⟩⟩
    have k3 := k2.trans (same_new (o := .lst [V.str "caller"]) n3)
    have k4 := k3.trans (same_new (o := .lst (([V.str (("marks " : Str) ++ m), .str "module"] ++ r1.map V.str) ++ [V.str "caller"])) n4)
    have L4 : (([V.str (("marks " : Str) ++ m), .str "module"] ++ r1.map V.str) ++ [V.str "caller"]).length = 3 + r1.length := by rw [List.length_append, L2]; show _ + 1 = _; omega
    refine ⟨_, rfl, t, _, _, _, rfl, rfl, SqT.of (k4 _ _ ht), atI_nat (j := 2) rfl, y4, l2, _, _, rfl, rfl, upd_same, k4 _ _ h2, big (by rw [L4, e2]; omega), fun y5 n5 => ?_⟩
    have k5 := k4.trans (same_new (o := .lst ((([V.str (("marks " : Str) ++ m), .str "module"] ++ r1.map V.str) ++ [V.str "caller"]) ++ r2.map V.str)) n5)
    have L5 : ((([V.str (("marks " : Str) ++ m), .str "module"] ++ r1.map V.str) ++ [V.str "caller"]) ++ r2.map V.str).length = 3 + r1.length + r2.length := by rw [List.length_append, L4, e2]
    refine ⟨big (by decide), fun y6 n6 => ⟨y5, y6, _, _, rfl, rfl, same_new n6 _ _ upd_same, upd_same, big (by rw [L5]; show _ + 1 ≤ 1000; omega), fun y7 n7 => ?_⟩⟩
    have k6 := k5.trans (same_new (o := .lst [V.str "task"]) n6)
    have k7 := k6.trans (same_new (o := .lst (((([V.str (("marks " : Str) ++ m), .str "module"] ++ r1.map V.str) ++ [V.str "caller"]) ++ r2.map V.str) ++ [V.str "task"])) n7)
    have L7 : (((([V.str (("marks " : Str) ++ m), .str "module"] ++ r1.map V.str) ++ [V.str "caller"]) ++ r2.map V.str) ++ [V.str "task"]).length = 4 + r1.length + r2.length := by rw [List.length_append, L5]; show _ + 1 = _; omega
    refine ⟨_, rfl, t, _, _, _, rfl, rfl, SqT.of (k7 _ _ ht), atI_nat (j := 3) rfl, y7, l3, _, _, rfl, rfl, upd_same, k7 _ _ h3, big (by rw [L7, e3]; omega), fun y8 n8 => ?_⟩
    have k8 := k7.trans (same_new (o := .lst ((((([V.str (("marks " : Str) ++ m), .str "module"] ++ r1.map V.str) ++ [V.str "caller"]) ++ r2.map V.str) ++ [V.str "task"]) ++ r3.map V.str)) n8)
    have emap : (((([V.str (("marks " : Str) ++ m), .str "module"] ++ r1.map V.str) ++ [V.str "caller"]) ++ r2.map V.str) ++ [V.str "task"]) ++ r3.map V.str = (linesP m r1 r2 r3).map V.str := by
      rw [← lines_split, List.map_append, List.map_append, List.map_append, List.map_append, List.map_append]
      rfl
    refine ⟨_, y8, linesP m r1 r2 r3, rfl, rfl, .inl (SqL.of (by rw [upd_same, emap])), ?_, k _ k8⟩
    have hl := hR.len
    have h1' := wt_sum (linesP m r1 r2 r3)
    have h2' := wt_le (k := 30) (ts := linesP m r1 r2 r3) fun z hz => (hR.lines z hz).1
    show ((linesP m r1 r2 r3).map (·.length)).sum + (linesP m r1 r2 r3).length * 1 ≤ _
    omega
theorem ok_right {f C : Addr} {fd : FuncData} (F : Fun K "_law_right" "_law_right" s_right f fd) (T : Top K mg) (B : FldC K C ["marks", "module", "caller", "task", "shared", "own"]) (O_str : Own P w K mg base 1 C "__str__" (spStrP C)) (T_Program_global_names : Met P w K mg base 1 C "global_names" (spNs C fun p => p.ws) []) (T_Program_own_names : Met P w K mg base 1 C "own_names" (spNs C fun p => p.os) []) (T_Program_names : Met P w K mg base 1 C "names" (spNs C fun p => p.ws ++ p.os) []) (T_Program_letters : Met P w K mg base 2 C "letters" (spLtrs K C) []) (T_lwletters : Cal P w K mg base 2 "_law_letters" (spLL K) []) (T_same : CalG P w K mg base 5 "_law_same" (spSameD K)) :
    FnG P w K mg base C8.CX0 6 f fd ["_law_program", "_law_parts", "_law_text_here"] (spRightQ C) := by
  refine fn_g F sc_right (fun vs H Q E h => ?_) (fun cdv A outer s H vs Q E gd hr h => ?_)
  · obtain ⟨a, t, m, r1, r2, r3, gs, os, ws, ns, rfl, _⟩ := h
    rfl
  · obtain ⟨a, t, m, r1, r2, r3, gs, os, ws, ns, rfl, hP, hA, hR, hF, k⟩ := h
    refine ⟨_, (pss_cons (ps_set (i := 3) sc_right.nd rfl (Or.inl rfl) (pe_lst (pa_cons (pe_callTy (call_strO O_str hr (by decide)) (by rfl) T.z_str (by decide +kernel) (pa_cons (pv 0) pa_nil)) (pa_cons (pe_fld (pv 0) rfl) (pa_cons (pe_fld (pv 0) rfl) (pa_cons (pe_fld (pv 0) rfl) (pa_cons (pe_fld (pv 0) rfl) (pa_cons (pe_mt0 T_Program_global_names hr (by decide) (pv 0)) pa_nil))))))))
(pss_cons (ps_set (i := 4) sc_right.nd rfl (Or.inl rfl) (pe_lst (pa_cons (pv 2) (pa_cons (pe_ix ix_tup (pv 1) pe_int (fun _ _ => rfl)) (pa_cons (pe_callTy call_tuple_of (by rfl) T.z_tuple (by decide +kernel) (pa_cons (pe_ix ix_tup (pv 1) pe_int (fun _ _ => rfl)) pa_nil)) (pa_cons (pe_callTy call_tuple_of (by rfl) T.z_tuple (by decide +kernel) (pa_cons (pe_ix ix_tup (pv 1) pe_int (fun _ _ => rfl)) pa_nil)) (pa_cons (pe_callTy call_tuple_of (by rfl) T.z_tuple (by decide +kernel) (pa_cons (pe_ix ix_tup (pv 1) pe_int (fun _ _ => rfl)) pa_nil)) (pa_cons (pe_ix ix_tup (pv 1) pe_int (fun _ _ => rfl)) pa_nil))))))))
(pss_cons (ps_set (i := 3) sc_right.nd rfl (Or.inl rfl) (pe_op op_cat (pv 3) (pe_lst (pa_cons (pe_mt0 T_Program_own_names hr (by decide) (pv 0)) (pa_cons (pe_mt0 T_Program_names hr (by decide) (pv 0)) (pa_cons (pe_mt0 T_Program_letters hr (by decide) (pv 0)) pa_nil))))))
(pss_one (ps_ret (pe_cG T_same gd hr (by decide) (by rfl) (pa_cons (pv 3) (pa_cons (pe_op op_cat (pv 4) (pe_lst (pa_cons (pe_ix ix_tup (pv 1) pe_int (fun _ _ => rfl)) (pa_cons (pe_callB cr_sortedS (by rfl) T.z_sorted (by decide +kernel) (pa_cons (pe_op op_cat (pe_ix ix_tup (pv 1) pe_int (fun _ _ => rfl)) (pe_ix ix_tup (pv 1) pe_int (fun _ _ => rfl))) pa_nil)) (pa_cons (pe_c T_lwletters hr (by decide) (by rfl) (pa_cons (pv 1) pa_nil)) pa_nil))))) pa_nil)))))))), ?_⟩
    have hP0 := hP
    have hA0 := hA
    obtain ⟨dx, t1, t2, t3, t4, t5, i0, i1, i2, i3, i4, i5⟩ := hP
    obtain ⟨l1, l2, l3, l4, l5, j0, j1, j2, j3, j4, j5⟩ := hA
    have big : ∀ {n : Nat}, n ≤ 1000 → n ≤ sizeLine := fun h => Nat.le_trans h (by decide)
    have two : 2 ≤ sizeLine := by decide
    have lg : gs.length ≤ 3 := by rw [hF.pg.length_eq]; exact hF.lw
    have lo : os.length ≤ 2 := by rw [hF.po.length_eq]; exact hF.ln
    have lw := hF.lw
    have ln := hF.ln
    refine ⟨_, rfl, a, dx, _, rfl, i0, a, m, r1, r2, r3, ws, ns, rfl, hP0, hR, fun H1 s1 => ⟨⟨_, rfl⟩, ?_⟩⟩
    refine ⟨_, rfl, a, C, dx, _, _, rfl, s1 _ _ i0, B.cl, B.no _ (by simp), rfl, _, rfl, a, C, dx, _, _, rfl, s1 _ _ i0, B.cl, B.no _ (by simp), rfl, _, rfl, a, C, dx, _, _, rfl, s1 _ _ i0, B.cl, B.no _ (by simp), rfl, _, rfl, a, C, dx, _, _, rfl, s1 _ _ i0, B.cl, B.no _ (by simp), rfl, ?_⟩
    refine ⟨_, rfl, a, dx, _, rfl, s1 _ _ i0, rfl, a, _, rfl, hP0.same s1, by show ws.length ≤ 20; omega, by show ns.length ≤ 20; omega, fun H2 g gs' s2 ng hg pg sg1 => ⟨big (by show 6 ≤ 1000; decide), fun e ne => ?_⟩⟩
    have s12 := s1.trans s2
    have s3 := same_new (o := .lst [V.str (textOf m r1 r2 r3), .str m, .ref t1, .ref t2, .ref t3, .ref g]) ne
    have he : (upd H2 e (.lst [V.str (textOf m r1 r2 r3), .str m, .ref t1, .ref t2, .ref t3, .ref g])) e = some (.lst [V.str (textOf m r1 r2 r3), .str m, .ref t1, .ref t2, .ref t3, .ref g]) := upd_same
    have hg3 := s3 _ _ hg
    have s03 := s12.trans s3
    generalize (upd H2 e (.lst [V.str (textOf m r1 r2 r3), .str m, .ref t1, .ref t2, .ref t3, .ref g])) = H3 at *
    dsimp only [gName]
    refine ⟨_, rfl, _, rfl, t, _, _, _, rfl, rfl, SqT.of (s03 _ _ j0), atI_nat (j := 0) rfl, _, rfl, t, _, _, _, rfl, rfl, SqT.of (s03 _ _ j0), atI_nat (j := 1) rfl, l1, _, rfl, .inl ⟨SqL.of (s03 _ _ j1), fun y1 n1 => ?_⟩⟩
    have u1 := s03.trans (same_new (o := .tup (r1.map V.str)) n1)
    refine ⟨_, rfl, t, _, _, _, rfl, rfl, SqT.of (u1 _ _ j0), atI_nat (j := 2) rfl, l2, _, rfl, .inl ⟨SqL.of (u1 _ _ j2), fun y2 n2 => ?_⟩⟩
    have u2 := u1.trans (same_new (o := .tup (r2.map V.str)) n2)
    refine ⟨_, rfl, t, _, _, _, rfl, rfl, SqT.of (u2 _ _ j0), atI_nat (j := 3) rfl, l3, _, rfl, .inl ⟨SqL.of (u2 _ _ j3), fun y3 n3 => ?_⟩⟩
    have v1 := same_new (o := .tup (r1.map V.str)) n1
    have v2 := same_new (o := .tup (r2.map V.str)) n2
    have v3 := same_new (o := .tup (r3.map V.str)) n3
    have s34 := v1.trans (v2.trans v3)
    have a1 := v3 _ _ (v2 _ _ (upd_same (H := H3) (a := y1) (o := .tup (r1.map V.str))))
    have a2 := v3 _ _ (upd_same (a := y2) (o := .tup (r2.map V.str)))
    have a3 := upd_same (H := upd (upd H3 y1 (.tup (r1.map V.str))) y2 (.tup (r2.map V.str))) (a := y3) (o := .tup (r3.map V.str))
    generalize (upd (upd (upd H3 y1 (.tup (r1.map V.str))) y2 (.tup (r2.map V.str))) y3 (.tup (r3.map V.str))) = H4 at *
    have s04 := s03.trans s34
    refine ⟨_, rfl, t, _, _, _, rfl, rfl, SqT.of (s04 _ _ j0), atI_nat (j := 4) rfl, big (by show 6 ≤ 1000; decide), fun c nc => ?_⟩
    have s45 := same_new (o := .lst [V.str (textOf m r1 r2 r3), .str m, .ref y1, .ref y2, .ref y3, .ref l4]) nc
    have hc : (upd H4 c (.lst [V.str (textOf m r1 r2 r3), .str m, .ref y1, .ref y2, .ref y3, .ref l4])) c = some (.lst [V.str (textOf m r1 r2 r3), .str m, .ref y1, .ref y2, .ref y3, .ref l4]) := upd_same
    have b1 := s45 _ _ a1
    have b2 := s45 _ _ a2
    have b3 := s45 _ _ a3
    have s05 := s04.trans s45
    have s35 := s34.trans s45
    generalize (upd H4 c (.lst [V.str (textOf m r1 r2 r3), .str m, .ref y1, .ref y2, .ref y3, .ref l4])) = H5 at *
    dsimp only [gName]
    refine ⟨_, rfl, _, rfl, a, dx, _, rfl, s05 _ _ i0, rfl, a, _, rfl, hP0.same s05, by show ws.length ≤ 20; omega, by show ns.length ≤ 20; omega, fun H6 o os1 s6 no ho po so1 => ?_⟩
    have s06 := s05.trans s6
    refine ⟨_, rfl, a, dx, _, rfl, s06 _ _ i0, rfl, a, _, rfl, hP0.same s06, by show ws.length ≤ 20; omega, by show ns.length ≤ 20; omega, fun H7 n nm1 s7 nn hn' pn sn1 => ?_⟩
    have s07 := s06.trans s7
    refine ⟨_, rfl, a, dx, _, rfl, s07 _ _ i0, rfl, a, _, rfl, hP0.same s07, by show ws.length ≤ 20; omega, by show ns.length ≤ 2; omega, hF.mm, fun H8 q xs ys1 os2 s8 nq hq dq lq pm so pm2 so2 => ⟨big (by show 3 ≤ 1000; decide), fun z nz => ?_⟩⟩
    have e2 : os2 = os1 := sorted_one (pm2.trans po.symm) so2 so1
    subst e2
    have s08 := s07.trans s8
    have s9 := same_new (o := .lst [V.ref o, .ref n, .ref q]) nz
    have s58 := s6.trans (s7.trans s8)
    refine ⟨e, z, _, _, rfl, rfl, s9 _ _ (s58 _ _ (s35 _ _ he)), upd_same, big (by show 6 + 3 ≤ 1000; decide), fun R nR => ?_⟩
    have s10 := s9.trans (same_new (o := .lst ([V.str (textOf m r1 r2 r3), .str m, .ref t1, .ref t2, .ref t3, .ref g] ++ [V.ref o, .ref n, .ref q])) nR)
    have hR10 : (upd (upd H8 z (.lst [V.ref o, .ref n, .ref q])) R (.lst ([V.str (textOf m r1 r2 r3), .str m, .ref t1, .ref t2, .ref t3, .ref g] ++ [V.ref o, .ref n, .ref q]))) R = some (.lst ([V.str (textOf m r1 r2 r3), .str m, .ref t1, .ref t2, .ref t3, .ref g] ++ [V.ref o, .ref n, .ref q])) := upd_same
    have go : gs' = gs := sorted_one (pg.trans hF.pg.symm) sg1 hF.sg
    have oo : os2 = os := sorted_one (po.trans hF.po.symm) so1 hF.so
    subst go oo
    have s010 := s08.trans s10
    have dF : DpAll K _ ([V.str (textOf m r1 r2 r3), .str m, .ref t1, .ref t2, .ref t3, .ref g] ++ [V.ref o, .ref n, .ref q]) (rightD m r1 r2 r3 gs' os2 nm1 ys1) :=
      .cons (.str _) (.cons (.str _) (.cons (.tup (SqT.of (s010 _ _ i1)) (dp_all_strs r1)) (.cons (.tup (SqT.of (s010 _ _ i2)) (dp_all_strs r2)) (.cons (.tup (SqT.of (s010 _ _ i3)) (dp_all_strs r3)) (.cons (.lst (SqL.of (s10 _ _ (s58 _ _ (s35 _ _ hg3)))) (dp_all_strs gs')) (.cons (.lst (SqL.of (s10 _ _ (s8 _ _ (s7 _ _ ho)))) (dp_all_strs os2)) (.cons (.lst (SqL.of (s10 _ _ (s8 _ _ hn'))) (dp_all_strs nm1)) (.cons (.lst (SqL.of (s10 _ _ hq)) (dpall_grow s10 _ _ dq)) .nil))))))))
    have c10 := s10 _ _ (s58 _ _ hc)
    have b110 := s10 _ _ (s58 _ _ b1)
    have b210 := s10 _ _ (s58 _ _ b2)
    have b310 := s10 _ _ (s58 _ _ b3)
    generalize (upd (upd H8 z (.lst [V.ref o, .ref n, .ref q])) R (.lst ([V.str (textOf m r1 r2 r3), .str m, .ref t1, .ref t2, .ref t3, .ref g] ++ [V.ref o, .ref n, .ref q]))) = H10 at *
    dsimp only [gName]
    refine ⟨_, rfl, _, rfl, _, rfl, t, _, _, _, rfl, rfl, SqT.of (s010 _ _ j0), atI_nat (j := 5) rfl, _, rfl, t, _, _, _, rfl, rfl, SqT.of (s010 _ _ j0), atI_nat (j := 4) rfl, _, rfl, t, _, _, _, rfl, rfl, SqT.of (s010 _ _ j0), atI_nat (j := 5) rfl, l4, l5, _, _, rfl, rfl, s010 _ _ j4, s010 _ _ j5, ?_, fun d nd => ?_⟩
    · rw [List.length_map, List.length_map]
      exact big (by omega)
    have s11 := same_new (o := .lst (gs'.map V.str ++ os2.map V.str)) nd
    refine ⟨d, gs' ++ os2, rfl, SqL.of (by rw [upd_same, List.map_append]), by rw [List.length_append]; omega, fun nm y pmn son ny => ?_⟩
    have s12' := s11.trans (same_new (o := .lst (nm.map V.str)) ny)
    refine ⟨_, rfl, t, m, r1, r2, r3, gs', os2, rfl, hA0.same (s010.trans s12'), hF.mm, lo, fun H13 q2 xs2 ys s13 nq2 hq2 dq2 lq2 pm' so' => ⟨big (by show 3 ≤ 1000; decide), fun z2 nz2 => ?_⟩⟩
    have hy := s13 _ _ (upd_same (a := y) (o := .lst (nm.map V.str)))
    have s1013 := s12'.trans s13
    have s14 := same_new (o := .lst [V.ref l5, .ref y, .ref q2]) nz2
    refine ⟨c, z2, _, _, rfl, rfl, s14 _ _ (s1013 _ _ c10), upd_same, big (by show 6 + 3 ≤ 1000; decide), fun R2 nR2 => ?_⟩
    have s15 := s14.trans (same_new (o := .lst ([V.str (textOf m r1 r2 r3), .str m, .ref y1, .ref y2, .ref y3, .ref l4] ++ [V.ref l5, .ref y, .ref q2])) nR2)
    have s1015 := s1013.trans s15
    have s015 := s010.trans s1015
    have en : nm1 = nm := sorted_one (pn.trans ((hF.pg.symm.append hF.po.symm).trans pmn.symm)) sn1 son
    have ey : ys1 = ys := sorted_one (pm.trans pm'.symm) so so'
    subst en ey
    refine ⟨.ref R, .ref R2, .list (rightD m r1 r2 r3 gs' os2 nm1 ys1), rfl, .lst (SqL.of (s1015 _ _ hR10)) (dpall_grow s1015 _ _ dF), .lst (SqL.of upd_same) ?_, right_ok hR hF pmn pm', k _ s015⟩
    exact .cons (.str _) (.cons (.str _) (.cons (.tup (SqT.of (s1015 _ _ b110)) (dp_all_strs r1)) (.cons (.tup (SqT.of (s1015 _ _ b210)) (dp_all_strs r2)) (.cons (.tup (SqT.of (s1015 _ _ b310)) (dp_all_strs r3)) (.cons (.lst (SqL.of (s015 _ _ j4)) (dp_all_strs gs')) (.cons (.lst (SqL.of (s015 _ _ j5)) (dp_all_strs os2)) (.cons (.lst (SqL.of (s15 _ _ hy)) (dp_all_strs nm1)) (.cons (.lst (SqL.of (s15 _ _ hq2)) (dpall_grow s15 _ _ dq2)) .nil))))))))
end
end W29

set_option Elab.async false
set_option linter.all false
set_option maxRecDepth 100000
set_option maxHeartbeats 4000000
namespace W29
open PySem L2 WB
open C8 (pe_c pe_mk pe_mt pe_mt0 Cal Mak Met)
section
variable {P : Program} {w : World} {K : PySem.W.Frag} {mg : Str → Option Value} {base : Heap}
theorem ok_sameD {f : Addr} {fd : FuncData} (F : Fun K "_law_same" "_law_same" s_same f fd) (T : Top K mg) : FnG P w K mg base CX0 5 f fd ["_law_found", "_law_due"] (spSameD K) := by
  refine fn_g F sc_same (fun vs H Q E h => ?_) (fun cdv A outer s H vs Q E gd hr h => ?_)
  · obtain ⟨x, y, d, rfl, _⟩ := h
    rfl
  · obtain ⟨x, y, d, rfl, d1, d2, ⟨o1, o2, o3⟩, k⟩ := h
    refine ⟨_, (pss_one (ps_ret (pe_and (pe_cmpR (op_eqD hr.units) (pv 0) (pv 1) (nomark _)) (pe_one (pe_cmpR op_eq (pe_callB (call_reprD gd (room70 hr)) (by rfl) T.z_repr (by decide +kernel) (pa_cons (pv 0) pa_nil)) (pe_callB (call_reprD gd (room70 hr)) (by rfl) T.z_repr (by decide +kernel) (pa_cons (pv 1) pa_nil)) (nomark _)))))), ?_⟩
    refine ⟨_, rfl, _, rfl, _, _, d1, d2, o2, o2, ?_⟩
    rw [o3]
    refine ⟨_, rfl, iteT ⟨_, rfl, x, _, rfl, d1, o1, _, rfl, y, _, rfl, d2, o1, rfl, ?_⟩⟩
    show Q (V.bl (decide (V.str _ = V.str _))) H
    rw [decide_eq_true rfl]
    exact k
end
end W29

set_option Elab.async false
set_option linter.all false
set_option maxRecDepth 100000
set_option maxHeartbeats 4000000
namespace W29
open PySem L2 WB
open C8 (pe_c pe_mk pe_mt pe_mt0 Cal Mak Met)
open PyProof.Rows (sortedS)
section
variable {P : Program} {w : World} {K : PySem.W.Frag} {mg : Str → Option Value} {base : Heap}
theorem ok_law {f : Addr} {fd : FuncData} (F : Fun K "law" "law" s_law f fd) (T : Top K mg) {C CB CT CX : Addr}
    (T_numbers : Cal P w K mg base 1 "_law_numbers" (spNums K) []) (T_draw : Cal P w K mg base 1 "_law_draw" spDraw []) (T_drawn_marks : Cal P w K mg base 3 "_law_drawn_marks" spMarksW []) (T_drawn_parts : Cal P w K mg base 8 "_law_drawn_parts" spPartsG [])
    (T_text : Cal P w K mg base 1 "_law_text" spTextL []) (T_make : Cal P w K mg base 10 "_law_make" (spMakeG C) []) (O_str : Own P w K mg base 1 C "__str__" (spStrP C)) (T_PRead : StaX P w K mg base 10 "Program" C "read" (spPRead K C CB CT CX)) (T_right : CalG P w K mg base 6 "_law_right" (spRightQ C)) :
    FnG P w K mg base C8.CX0 12 f fd ["_law_script"] (spLaw K) := by
  refine fn_g F sc_law (fun vs H Q E h => ?_) (fun cdv A outer s H vs Q E gd hr h => ?_)
  · obtain ⟨a, ns, rfl, _⟩ := h
    rfl
  · obtain ⟨a, ns, rfl, hS, hlen, k⟩ := h
    refine ⟨_, (pss_cons (ps_for PassesOwn.never rfl (pi_range1 rfl T.z_range (pa_cons (pe_callB (call_max2 rfl) (by rfl) T.z_max (by decide +kernel) (pa_cons pe_int (pa_cons (pe_callB (call_min2 rfl) (by rfl) T.z_min (by decide +kernel) (pa_cons pe_int (pa_cons (pe_callB call_len_seq (by rfl) T.z_len (by decide +kernel) (pa_cons (pv 0) pa_nil)) pa_nil))) pa_nil))) pa_nil)) (pg_name (i := 1) sc_law.nd rfl (Or.inl rfl))
(pss_cons (ps_par (i := 2) (j := 3) rfl sc_law.nd rfl rfl (by decide) rfl rfl (by exact (pa_cons (pe_c T_numbers hr (by decide) (by rfl) (pa_cons (pv 0) (pa_cons (pv 1) pa_nil))) (pa_cons (pe_lst pa_nil) pa_nil))) rfl)
(pss_cons (ps_for PassesOwn.never rfl (pi_range1 rfl T.z_range (pa_cons pe_int pa_nil)) (pg_name (i := 4) sc_law.nd rfl (Or.inl rfl))
(pss_cons (ps_set (i := 5) sc_law.nd rfl (Or.inl rfl) (pe_tup (pa_cons (pe_c T_draw hr (by decide) (by rfl) (pa_cons (pv 2) (pa_cons pe_int pa_nil))) (pa_cons (pe_c T_draw hr (by decide) (by rfl) (pa_cons (pv 2) (pa_cons pe_int pa_nil))) (pa_cons (pe_c T_draw hr (by decide) (by rfl) (pa_cons (pv 2) (pa_cons pe_int pa_nil))) (pa_cons (pe_c T_draw hr (by decide) (by rfl) (pa_cons (pv 2) (pa_cons pe_int pa_nil))) (pa_cons pe_int (pa_cons pe_int pa_nil))))))))
(pss_cons (ps_set (i := 6) sc_law.nd rfl (Or.inl rfl) (pe_c T_drawn_parts hr (by decide) (by rfl) (pa_cons (pv 2) (pa_cons (pe_c T_drawn_marks hr (by decide) (by rfl) (pa_cons (pv 2) (pa_cons pe_int (pa_cons pe_int pa_nil)))) (pa_cons (pv 5) pa_nil)))))
(pss_cons (ps_set (i := 7) sc_law.nd rfl (Or.inl rfl) (pe_c T_text hr (by decide) (by rfl) (pa_cons (pv 6) pa_nil)))
(pss_cons (ps_if (pt_cmpR op_ne (pe_callTy (call_strO O_str hr (by decide)) (by rfl) T.z_str (by decide +kernel) (pa_cons (pe_c T_make hr (by decide) (by rfl) (pa_cons (pv 6) pa_nil)) pa_nil)) (pv 7) (nomark _))
(pss_one (ps_ret pe_bl))
pss_nil)
(pss_cons (ps_expr (pe_bm PySem.F.plainAttrs_list PySem.F.slot_list_append PySem.F.type_list_append mt_append (pv 3) (pa_cons (pe_tup (pa_cons (pe_statX T_PRead (W := fun _ _ _ _ => False) takes0 hr (by decide) (by rfl) (by exact (pa_cons (pv 7) pa_nil))) (pa_cons (pv 6) (pa_cons (pv 7) pa_nil)))) pa_nil)))
(pss_one (ps_if (pt_not (pt_val (pe_cG T_right gd hr (by decide) (by rfl) (pa_cons (pe_ix ix_tup (pe_ix ix_list (pv 3) (pe_un un_neg pe_int) (fun _ _ => rfl)) pe_int (fun _ _ => rfl)) (pa_cons (pv 6) (pa_cons (pv 7) pa_nil))))))
(pss_one (ps_ret pe_bl))
pss_nil))))))))
(pss_one (ps_for PassesOwn.never rfl (pi_list (pv 3)) (pg_tup rfl (pgs_cons (pg_name (i := 8) sc_law.nd rfl (Or.inl rfl)) (pgs_cons (pg_name (i := 6) sc_law.nd rfl (Or.inl rfl)) (pgs_cons (pg_name (i := 7) sc_law.nd rfl (Or.inl rfl)) pgs_nil))))
(pss_cons (ps_set (i := 9) sc_law.nd rfl (Or.inl rfl) (pe_statX T_PRead (W := fun _ _ _ _ => False) takes0 hr (by decide) (by rfl) (by exact (pa_cons (pe_callTy (call_strO O_str hr (by decide)) (by rfl) T.z_str (by decide +kernel) (pa_cons (pv 8) pa_nil)) pa_nil))))
(pss_one (ps_if (PW.pt (pw_or (pt_not (pt_val (pe_cG T_right gd hr (by decide) (by rfl) (pa_cons (pv 8) (pa_cons (pv 6) (pa_cons (pv 7) pa_nil)))))) (pw_or1 (pt_not (pt_val (pe_cG T_right gd hr (by decide) (by rfl) (pa_cons (pv 9) (pa_cons (pv 6) (pa_cons (pv 7) pa_nil)))))))))
(pss_one (ps_ret pe_bl))
pss_nil))))))))
(pss_one (ps_ret pe_bl))), ?_⟩
    refine ⟨_, rfl, a, _, rfl, .inl hS, _, _, rfl, _, _, rfl, _, rfl, ?_, ?_, for_it walk_range (fun i σ H' => ∃ v1 v2 v3 v4 v5 v6 v7 v8 v9, σ = [some (.ref a), v1, v2, v3, v4, v5, v6, v7, v8, v9] ∧ Same H H')
      ⟨none, none, none, none, none, none, none, none, none, rfl, Same.refl H⟩ (fun _ _ _ _ _ => trivial) ?_ ?_⟩
    · split <;> split <;> omega
    · split <;> split <;> omega
    rotate_left
    · rintro σ H' ⟨v1, v2, v3, v4, v5, v6, v7, v8, v9, rfl, s1⟩
      exact k H'
    rintro i x σ H1 H1' hi ⟨v1, v2, v3, v4, v5, v6, v7, v8, v9, rfl, s1⟩ ⟨rfl, rfl⟩
    have hi2 : i < 63 := by
      revert hi
      split <;> split <;> omega
    have big : ∀ {m : Nat}, m ≤ 1000 → m ≤ sizeLine := fun h => Nat.le_trans h (by decide)
    refine ⟨_, rfl, _, rfl, a, ns, i, by show [V.ref a, V.int (0 + (i : Int))] = _; rw [Int.zero_add], s1.seq hS, hlen, hi2, fun H2 p q s2 np nq hB => ⟨Nat.zero_le _, fun D nD => ⟨_, _, rfl, ?_⟩⟩⟩
    have nHp : H p = none := s1.free np
    have s12 := s1.trans s2
    have Dp := hB.ne nD
    have kD := same_new (o := .lst ([] : List V)) nD
    have hD0 : (upd H2 D (.lst [])) D = some (.lst (([] : List Addr).map V.ref)) := upd_same
    have nHD : H D = none := s12.free nD
    dsimp only
    refine ⟨_, rfl, by decide, by decide, for_it walk_range (fun j σ H' => ∃ v4 v5 v6 v7 v8 v9, ∃ es : List Addr, σ = [some (.ref a), some (.int (0 + (i : Int))), some (.ref p), some (.ref D), v4, v5, v6, v7, v8, v9] ∧ (∀ b u, b ≠ p → H2 b = some u → H' b = some u) ∧ StrA H' p q (200 + 5000 * j) ∧ H' D = some (.lst (es.map V.ref)) ∧ es.length = j ∧ ∀ e ∈ es, EntR C p D H' e)
      ⟨_, _, _, _, _, _, [], rfl, fun b u _ e => kD _ _ e, hB.same kD, hD0, rfl, fun e he => absurd he List.not_mem_nil⟩ (fun _ _ _ _ _ => trivial) ?_ ?_⟩
    · rintro j x σ G G0 hj ⟨v4, v5, v6, v7, v8, v9, es, rfl, b0, hB0, hD, le, hes⟩ ⟨rfl, rfl⟩
      have hj : j < 3 := by simpa using hj
      obtain ⟨N, hN⟩ : ∃ N, N = 200 + 5000 * j := ⟨_, rfl⟩
      rw [← hN] at hB0
      have N0 : N ≤ 25000 := by omega
      refine ⟨_, rfl, p, q, _, N, rfl, hB0, by omega, by decide, by decide, fun Ga d1 ba hBa a0 a1 => ?_⟩
      obtain ⟨da, rfl⟩ := Int.eq_ofNat_of_zero_le a0
      refine ⟨_, rfl, p, q, _, N + 1, rfl, hBa, by omega, by decide, by decide, fun Gb d2 bb hBb c0 c1 => ?_⟩
      obtain ⟨db, rfl⟩ := Int.eq_ofNat_of_zero_le c0
      refine ⟨_, rfl, p, q, _, N + 2, rfl, hBb, by omega, by decide, by decide, fun Gc d3 bc hBc e0 e1 => ?_⟩
      obtain ⟨dc, rfl⟩ := Int.eq_ofNat_of_zero_le e0
      refine ⟨_, rfl, p, q, _, N + 3, rfl, hBc, by omega, by decide, by decide, fun Gd d4 bd hBd g0 g1 => ⟨(by decide : 6 ≤ sizeLine), fun z nz => ?_⟩⟩
      obtain ⟨dd, rfl⟩ := Int.eq_ofNat_of_zero_le g0
      have kz := same_new (o := .tup [V.int (da : Nat), .int (db : Nat), .int (dc : Nat), .int (dd : Nat), .int 1, .int 8]) nz
      have hz : (upd Gd z (.tup [V.int (da : Nat), .int (db : Nat), .int (dc : Nat), .int (dd : Nat), .int 1, .int 8])) z = some (.tup [V.int (da : Nat), .int (db : Nat), .int (dc : Nat), .int (dd : Nat), .int 1, .int ((8 : Nat) : Int)]) := upd_same
      have zp := (hBd.ne nz).1
      have hBe := hBd.same kz
      have cz : Bar p G0 _ := (((ba.trans bb).trans bc).trans bd).trans (bar_of (p := p) kz)
      generalize (upd Gd z (.tup [V.int (da : Nat), .int (db : Nat), .int (dc : Nat), .int (dd : Nat), .int 1, .int 8])) = Ge at *
      dsimp only [gName]
      refine ⟨_, rfl, _, rfl, p, q, N + 4, rfl, hBe, by omega, fun G1 m b1 hB1 hm hmm => ⟨_, rfl, ?_⟩⟩
      have hz1 := b1 _ _ zp hz
      have cz1 := cz.trans b1
      refine ⟨p, q, z, m, da, db, dc, dd, 8, N + 114, rfl, hB1, by omega, zp, hz1, by omega, by omega, by omega, by omega, by decide, by decide, ⟨hm, hmm⟩, fun G2 t l1 l2 l3 l4 l5 r1 r2 r3 gs os ws ns' b2 hB2 tp l1p l2p l3p l4p l5p hfr ht h1 h2 h3 h4 h5 q1 q2 q3 w1 w2 w3 pg po sg so lws lns hwB hnd hpe => ?_⟩
      dsimp only [gName]
      have c2 : Bar p G0 G2 := cz1.trans b2
      have f1 : G0 l1 = none := cz1.free hfr.1 l1p
      have f2 : G0 l2 = none := cz1.free hfr.2.1 l2p
      have f3 : G0 l3 = none := cz1.free hfr.2.2.1 l3p
      have f4 : G0 l4 = none := cz1.free hfr.2.2.2.1 l4p
      have f5 : G0 l5 = none := cz1.free hfr.2.2.2.2 l5p
      clear hfr b1 b2 hB1 cz cz1 hz1 hz zp kz nz ba bb bc bd hBa hBb hBc hBd hBe
      have hm3 : Sm 3 m := ⟨hm.2.1, fun c hc => mk_sm c (hm.2.2 c hc)⟩
      have hR : RowsS m r1 r2 r3 := ⟨hm3, w1, w2, w3, q1, q2, q3⟩
      have hF : PartsF m r1 r2 r3 gs os ws ns' := ⟨pg, po, sg, so, lws, lns, hmm, fun y hy => (w1 y hy).small, fun y hy => (w2 y hy).small, fun y hy => (w3 y hy).small, by omega, by omega, q3, fun y hy => (wordB_S (hwB y hy)).sm.small⟩
      have hA : PartsAt G2 t m r1 r2 r3 gs os := ⟨l1, l2, l3, l4, l5, ht, h1, h2, h3, h4, h5⟩
      have hD2 := c2 _ _ Dp.1 hD
      refine ⟨_, rfl, t, m, r1, r2, r3, gs, os, rfl, hA, hR, fun G3 s3 => ?_⟩
      dsimp only [gName]
      refine ⟨_, rfl, t, m, r1, r2, r3, gs, os, ws, ns', rfl, hA.same s3, hR, hpe, fun G4 pa s4 hPa => ?_⟩
      have hPa0 := hPa
      obtain ⟨dxa, _, _, _, _, _, ia, _⟩ := hPa
      refine ⟨pa, dxa, _, rfl, ia, pa, m, r1, r2, r3, ws, ns', rfl, hPa0, hR, fun G5 s5 => ⟨⟨_, rfl⟩, ?_⟩⟩
      have s35 := s3.trans (s4.trans s5)
      refine ⟨_, rfl, rfl, _, rfl, ?_⟩
      have ene : (!decide (V.str (textOf m r1 r2 r3) = V.str (textOf m r1 r2 r3))) = false := by rw [decide_eq_true rfl]; rfl
      rw [ene]
      refine iteF (A := True) ?_
      have hD5 := s35 _ _ hD2
      refine ⟨_, rfl, .inl ⟨rfl, _, SqL.of hD5⟩, _, rfl, .str (textOf m r1 r2 r3), rfl, fun _ _ => .inl ⟨_, rfl⟩, fun h => absurd rfl (h _), fun z hz => ?_⟩
      have hz := V.str.inj hz
      subst hz
      have rdl := hR.read
      have bk := hR.back
      have lnl := hR.len
      rw [bk] at rdl
      have hro := read_ok hpe
      have noE : ∀ e, readF (linesP m r1 r2 r3) ≠ .error e := fun e he => by
        rw [hro] at he
        cases he
      rw [bk]
      refine ⟨Nat.le_trans hR.text.1 (by decide), rdl, by omega, fun e he => absurd he (noE e), fun pp hpp G6 b s6 hPb => ?_⟩
      rw [hro] at hpp
      cases hpp
      refine ⟨_, rfl, _, rfl, (by decide : 3 ≤ sizeLine), fun en nen => ?_⟩
      have sE := s35.trans (s6.trans (same_new (o := .tup [V.ref b, .ref t, .str (textOf m r1 r2 r3)]) nen))
      have sE6 := same_new (o := .tup [V.ref b, .ref t, .str (textOf m r1 r2 r3)]) nen
      have hE : (upd G6 en (.tup [V.ref b, .ref t, .str (textOf m r1 r2 r3)])) en = some (.tup [V.ref b, .ref t, .str (textOf m r1 r2 r3)]) := upd_same
      have hPE := hPb.same sE6
      have Den : en ≠ D := (ne_of_none (s6 _ _ hD5) nen).symm
      generalize (upd G6 en (.tup [V.ref b, .ref t, .str (textOf m r1 r2 r3)])) = G7 at *
      have hD7 := sE _ _ hD2
      refine ⟨D, es.map V.ref, _, rfl, rfl, hD7, ?_, ?_⟩
      · rw [List.length_map]
        exact Nat.lt_of_le_of_lt (by omega : es.length ≤ 3) (by decide)
      have ne0 : ∀ {X : Hp} {u v : Addr} {o : HO}, X u = some o → X v = none → u ≠ v := fun {X u v o} hu hv e => by
        rw [e, hv] at hu
        cases hu
      have Dl1 : l1 ≠ D := (ne0 hD f1).symm
      have Dl2 : l2 ≠ D := (ne0 hD f2).symm
      have Dl3 : l3 ≠ D := (ne0 hD f3).symm
      have Dl4 : l4 ≠ D := (ne0 hD f4).symm
      have Dl5 : l5 ≠ D := (ne0 hD f5).symm
      have tD : t ≠ D := fun e => by rw [e, hD2] at ht; cases ht
      have hP8 := hPE.put (o := .lst (es.map V.ref ++ [V.ref en])) hD7
      have nD8 : ∀ {b : Addr} {u : HO}, b ≠ D → G7 b = some u → (upd G7 D (.lst (es.map V.ref ++ [V.ref en]))) b = some u := fun nb e => (upd_ne nb).trans e
      have hE8 := nD8 Den hE
      have ht8 := nD8 tD (sE _ _ ht)
      have h18 := nD8 Dl1 (sE _ _ h1)
      have h28 := nD8 Dl2 (sE _ _ h2)
      have h38 := nD8 Dl3 (sE _ _ h3)
      have h48 := nD8 Dl4 (sE _ _ h4)
      have h58 := nD8 Dl5 (sE _ _ h5)
      have hD8 := upd_same (H := G7) (a := D) (o := .lst (es.map V.ref ++ [V.ref en]))
      have hB8 : StrA (upd G7 D (.lst (es.map V.ref ++ [V.ref en]))) p q (N + 4114) := (hB2.same sE).put Dp.1 Dp.2
      have bar8 : ∀ b u, b ≠ p → b ≠ D → G0 b = some u → (upd G7 D (.lst (es.map V.ref ++ [V.ref en]))) b = some u := fun b u nb nd e => nD8 nd (sE _ _ (c2 _ _ nb e))
      generalize (upd G7 D (.lst (es.map V.ref ++ [V.ref en]))) = G8 at *
      have hA8 : PartsAt G8 t m r1 r2 r3 gs os := ⟨l1, l2, l3, l4, l5, ht8, h18, h28, h38, h48, h58⟩
      refine ⟨_, rfl, _, rfl, D, _, _, _, rfl, rfl, SqL.of hD8, atI_last _ _, en, _, _, _, rfl, rfl, SqT.of hE8, atI_nat (j := 0) rfl, _, rfl, _, rfl, b, t, m, r1, r2, r3, gs, os, ws, ns', rfl, hP8, hA8, hR, hF, fun G9 s9 => ⟨true, rfl, iteF (A := True) ?_⟩⟩
      have em : es.map V.ref ++ [V.ref en] = (es ++ [en]).map V.ref := by rw [List.map_append]; rfl
      rw [em] at hD8
      have bar9 : ∀ b u, b ≠ p → b ≠ D → G0 b = some u → G9 b = some u := fun b u nb nd e => s9 _ _ (bar8 b u nb nd e)
      have hp0 : ∃ xs, G0 p = some (.lst xs) := by
        obtain ⟨c, z, u, nz, hp, _⟩ := hB0
        exact ⟨_, hp⟩
      obtain ⟨xp, hp0⟩ := hp0
      refine ⟨_, _, _, _, _, _, es ++ [en], rfl, fun b u nb e => bar9 b u nb (ne_of_none e nD) (b0 b u nb e), (hB8.same s9).mono (by omega), s9 _ _ hD8, by rw [List.length_append, le]; rfl, fun e he => ?_⟩
      rcases List.mem_append.mp he with he | he
      · exact entr_bar2 hp0 hD bar9 (hes e he)
      · rw [List.mem_singleton.mp he]
        refine ⟨b, t, m, r1, r2, r3, gs, os, ws, ns', l1, l2, l3, l4, l5, s9 _ _ hE8, hP8.same s9, ⟨s9 _ _ ht8, s9 _ _ h18, s9 _ _ h28, s9 _ _ h38, s9 _ _ h48, s9 _ _ h58⟩, fun l hl => ?_, hF, hR, hpe⟩
        simp only [List.mem_cons, List.not_mem_nil, or_false] at hl
        rcases hl with rfl | rfl | rfl | rfl | rfl
        · exact ⟨l1p, Dl1⟩
        · exact ⟨l2p, Dl2⟩
        · exact ⟨l3p, Dl3⟩
        · exact ⟨l4p, Dl4⟩
        · exact ⟨l5p, Dl5⟩
    rintro σ G ⟨v4, v5, v6, v7, v8, v9, es, rfl, b0, hB0, hD, le, hes⟩
    have sG : Same H G := fun b u e => b0 b u (fun q => by rw [q, nHp] at e; cases e) (s12 _ _ e)
    dsimp only
    refine ⟨_, rfl, D, rfl, ⟨_, SqL.of hD⟩, ?_⟩
    refine for_it (walk_list (xs := es.map V.ref)) (fun k σ H' => ∃ v4 v5 v6 v7 v8 v9, σ = [some (.ref a), some (.int (0 + (i : Int))), some (.ref p), some (.ref D), v4, v5, v6, v7, v8, v9] ∧ Same G H') ⟨_, _, _, _, _, _, rfl, Same.refl _⟩ (fun _ _ _ _ ⟨_, _, _, _, _, _, _, s⟩ => SqL.of (s _ _ hD)) ?_ ?_
    rotate_left
    · rintro σ H7 ⟨v4, v5, v6, v7, v8, v9, rfl, s7⟩
      exact ⟨_, _, _, _, _, _, _, _, _, rfl, sG.trans s7⟩
    rintro k' x σ H7 H7' hk ⟨v4, v5, v6, v7, v8, v9, rfl, s7⟩ ⟨rfl, hx⟩
    obtain ⟨e, he, rfl⟩ : ∃ e, e ∈ es ∧ V.ref e = x := by
      have hx : (es.map V.ref)[k']? = some x := hx
      rw [List.getElem?_map] at hx
      obtain ⟨e, h1, h2⟩ := Option.map_eq_some_iff.mp hx
      exact ⟨e, List.mem_of_getElem? h1, h2⟩
    obtain ⟨pr, t, m, r1, r2, r3, gs, os, ws, ns', l1, l2, l3, l4, l5, hE, hP, ⟨h0, h1, h2, h3, h4, h5⟩, hl, hF, hR, hpe⟩ := hes e he
    have hP7 := hP.same s7
    have hA7 : PartsAt H7' t m r1 r2 r3 gs os := ⟨l1, l2, l3, l4, l5, s7 _ _ h0, s7 _ _ h1, s7 _ _ h2, s7 _ _ h3, s7 _ _ h4, s7 _ _ h5⟩
    refine ⟨e, _, rfl, SqT.of (s7 _ _ hE), rfl, _, _, rfl, _, _, rfl, _, _, rfl, rfl, ?_⟩
    have hP70 := hP7
    obtain ⟨dxa, _, _, _, _, _, ia, _⟩ := hP70
    refine ⟨_, rfl, pr, dxa, _, rfl, ia, pr, m, r1, r2, r3, ws, ns', rfl, hP7, hR, fun G8 s8 => ⟨⟨_, rfl⟩, ?_⟩⟩
    refine ⟨.str (textOf m r1 r2 r3), rfl, fun _ _ => .inl ⟨_, rfl⟩, fun h => absurd rfl (h _), fun z hz => ?_⟩
    have hz := V.str.inj hz
    subst hz
    have rdl := hR.read
    have bk := hR.back
    have lnl := hR.len
    rw [bk] at rdl
    have hro := read_ok hpe
    have noE : ∀ e, readF (linesP m r1 r2 r3) ≠ .error e := fun e he => by
      rw [hro] at he
      cases he
    rw [bk]
    refine ⟨Nat.le_trans hR.text.1 (by decide), rdl, by omega, fun e he => absurd he (noE e), fun pp hpp G9 b s9 hPb => ?_⟩
    rw [hro] at hpp
    cases hpp
    dsimp only [gName]
    have s89 := s8.trans s9
    refine ⟨_, rfl, _, rfl, _, rfl, pr, t, m, r1, r2, r3, gs, os, ws, ns', rfl, hP7.same s89, hA7.same s89, hR, hF, fun G10 s10 => ⟨true, rfl, iteF (A := True) ?_⟩⟩
    refine ⟨_, rfl, _, rfl, _, rfl, b, t, m, r1, r2, r3, gs, os, ws, ns', rfl, hPb.same s10, hA7.same (s89.trans s10), hR, hF, fun G11 s11 => ⟨true, rfl, iteF (A := True) ?_⟩⟩
    exact ⟨_, _, _, _, _, _, rfl, s7.trans (s89.trans (s10.trans s11))⟩
end
end W29

set_option Elab.async false
set_option linter.all false
set_option maxRecDepth 100000
set_option maxHeartbeats 4000000
namespace W29
open PySem L2 WB
open C8 (pe_c pe_mk pe_mt pe_mt0 Cal Mak Met)
theorem all_mk {l : PySem.W.OpenLaw} {w : World} {K : PySem.W.Frag} {h : Heap} {mg : Str → Option Value} {fa C_Program C_BadProgram C_TooMany C_BadText f_either f_are_contents f_is_word f_is_mark f_is_set f_inside f_are_terms f_first_part f_plain_form f_is_plain f_is_condition f_is_failing f_is_task_row f_plain_marks f_check_marks f_check_rows f_bound_behind f_blocks_behind f_check_task f_place_of f_numbers f_draw f_of f_pick f_drawn_marks f_drawn_contents f_reserved f_one_word f_drawn_words f_term f_sum f_binding f_plain_row f_plains f_test f_last f_work f_drawn_parts f_make f_same f_lwletters f_text f_right f_law f_Program__init f_Program__str f_Program_global_names f_Program_own_names f_Program_names f_Program_letters f_Program_read f_BadProgram__init f_TooMany__init f_BadText__init : Addr} (X : K.In h) (G : h.Ns mainGlobals mg) (hfa : mg "law" = some (.ref fa))
    {od_either an_either od_are_contents an_are_contents od_is_word an_is_word od_is_mark an_is_mark od_is_set an_is_set od_inside an_inside od_are_terms an_are_terms od_first_part an_first_part od_plain_form an_plain_form od_is_plain an_is_plain od_is_condition an_is_condition od_is_failing an_is_failing od_is_task_row an_is_task_row od_plain_marks an_plain_marks od_check_marks an_check_marks od_check_rows an_check_rows od_bound_behind an_bound_behind od_blocks_behind an_blocks_behind od_check_task an_check_task od_place_of an_place_of od_numbers an_numbers od_draw an_draw od_of an_of od_pick an_pick od_drawn_marks an_drawn_marks od_drawn_contents an_drawn_contents od_reserved an_reserved od_one_word an_one_word od_drawn_words an_drawn_words od_term an_term od_sum an_sum od_binding an_binding od_plain_row an_plain_row od_plains an_plains od_test an_test od_last an_last od_work an_work od_drawn_parts an_drawn_parts od_make an_make od_same an_same od_lwletters an_lwletters od_text an_text od_right an_right od_law an_law od_Program__init an_Program__init od_Program__str an_Program__str od_Program_global_names an_Program_global_names od_Program_own_names an_Program_own_names od_Program_names an_Program_names od_Program_letters an_Program_letters od_Program_read an_Program_read od_BadProgram__init an_BadProgram__init od_TooMany__init an_TooMany__init od_BadText__init an_BadText__init : Option Addr} {sl_either sl_are_contents sl_is_word sl_is_mark sl_is_set sl_inside sl_are_terms sl_first_part sl_plain_form sl_is_plain sl_is_condition sl_is_failing sl_is_task_row sl_plain_marks sl_check_marks sl_check_rows sl_bound_behind sl_blocks_behind sl_check_task sl_place_of sl_numbers sl_draw sl_of sl_pick sl_drawn_marks sl_drawn_contents sl_reserved sl_one_word sl_drawn_words sl_term sl_sum sl_binding sl_plain_row sl_plains sl_test sl_last sl_work sl_drawn_parts sl_make sl_same sl_lwletters sl_text sl_right sl_law sl_Program__init sl_Program__str sl_Program_global_names sl_Program_own_names sl_Program_names sl_Program_letters sl_Program_read sl_BadProgram__init sl_TooMany__init sl_BadText__init : Array (Option Value)} {oc_either kV_either dc_either pm_either cd_either ct_either oc_are_contents kV_are_contents dc_are_contents pm_are_contents cd_are_contents ct_are_contents oc_is_word kV_is_word dc_is_word pm_is_word cd_is_word ct_is_word oc_is_mark kV_is_mark dc_is_mark pm_is_mark cd_is_mark ct_is_mark oc_is_set kV_is_set dc_is_set pm_is_set cd_is_set ct_is_set oc_inside kV_inside dc_inside pm_inside cd_inside ct_inside oc_are_terms kV_are_terms dc_are_terms pm_are_terms cd_are_terms ct_are_terms oc_first_part kV_first_part dc_first_part pm_first_part cd_first_part ct_first_part oc_plain_form kV_plain_form dc_plain_form pm_plain_form cd_plain_form ct_plain_form oc_is_plain kV_is_plain dc_is_plain pm_is_plain cd_is_plain ct_is_plain oc_is_condition kV_is_condition dc_is_condition pm_is_condition cd_is_condition ct_is_condition oc_is_failing kV_is_failing dc_is_failing pm_is_failing cd_is_failing ct_is_failing oc_is_task_row kV_is_task_row dc_is_task_row pm_is_task_row cd_is_task_row ct_is_task_row oc_plain_marks kV_plain_marks dc_plain_marks pm_plain_marks cd_plain_marks ct_plain_marks oc_check_marks kV_check_marks dc_check_marks pm_check_marks cd_check_marks ct_check_marks oc_check_rows kV_check_rows dc_check_rows pm_check_rows cd_check_rows ct_check_rows oc_bound_behind kV_bound_behind dc_bound_behind pm_bound_behind cd_bound_behind ct_bound_behind oc_blocks_behind kV_blocks_behind dc_blocks_behind pm_blocks_behind cd_blocks_behind ct_blocks_behind oc_check_task kV_check_task dc_check_task pm_check_task cd_check_task ct_check_task oc_place_of kV_place_of dc_place_of pm_place_of cd_place_of ct_place_of oc_numbers kV_numbers dc_numbers pm_numbers cd_numbers ct_numbers oc_draw kV_draw dc_draw pm_draw cd_draw ct_draw oc_of kV_of dc_of pm_of cd_of ct_of oc_pick kV_pick dc_pick pm_pick cd_pick ct_pick oc_drawn_marks kV_drawn_marks dc_drawn_marks pm_drawn_marks cd_drawn_marks ct_drawn_marks oc_drawn_contents kV_drawn_contents dc_drawn_contents pm_drawn_contents cd_drawn_contents ct_drawn_contents oc_reserved kV_reserved dc_reserved pm_reserved cd_reserved ct_reserved oc_one_word kV_one_word dc_one_word pm_one_word cd_one_word ct_one_word oc_drawn_words kV_drawn_words dc_drawn_words pm_drawn_words cd_drawn_words ct_drawn_words oc_term kV_term dc_term pm_term cd_term ct_term oc_sum kV_sum dc_sum pm_sum cd_sum ct_sum oc_binding kV_binding dc_binding pm_binding cd_binding ct_binding oc_plain_row kV_plain_row dc_plain_row pm_plain_row cd_plain_row ct_plain_row oc_plains kV_plains dc_plains pm_plains cd_plains ct_plains oc_test kV_test dc_test pm_test cd_test ct_test oc_last kV_last dc_last pm_last cd_last ct_last oc_work kV_work dc_work pm_work cd_work ct_work oc_drawn_parts kV_drawn_parts dc_drawn_parts pm_drawn_parts cd_drawn_parts ct_drawn_parts oc_make kV_make dc_make pm_make cd_make ct_make oc_same kV_same dc_same pm_same cd_same ct_same oc_lwletters kV_lwletters dc_lwletters pm_lwletters cd_lwletters ct_lwletters oc_text kV_text dc_text pm_text cd_text ct_text oc_right kV_right dc_right pm_right cd_right ct_right oc_law kV_law dc_law pm_law cd_law ct_law oc_Program__init kV_Program__init dc_Program__init pm_Program__init cd_Program__init ct_Program__init oc_Program__str kV_Program__str dc_Program__str pm_Program__str cd_Program__str ct_Program__str oc_Program_global_names kV_Program_global_names dc_Program_global_names pm_Program_global_names cd_Program_global_names ct_Program_global_names oc_Program_own_names kV_Program_own_names dc_Program_own_names pm_Program_own_names cd_Program_own_names ct_Program_own_names oc_Program_names kV_Program_names dc_Program_names pm_Program_names cd_Program_names ct_Program_names oc_Program_letters kV_Program_letters dc_Program_letters pm_Program_letters cd_Program_letters ct_Program_letters oc_Program_read kV_Program_read dc_Program_read pm_Program_read cd_Program_read ct_Program_read oc_BadProgram__init kV_BadProgram__init dc_BadProgram__init pm_BadProgram__init cd_BadProgram__init ct_BadProgram__init oc_TooMany__init kV_TooMany__init dc_TooMany__init pm_TooMany__init cd_TooMany__init ct_TooMany__init oc_BadText__init kV_BadText__init dc_BadText__init pm_BadText__init cd_BadText__init ct_BadText__init : Value}  {C_WE atR atS atC : Addr} {ddR ddS ddC : Option Addr} {nnR nnS nnC : Nat} {ssR ssS ssC : Array (Option Value)} {tkM tkLETTERS tkLONGEST_WORD tkMOST_MARKS tkMOST_PLAIN_MARKS tkMOST_PLAIN_ROWS tkMOST_TASK_ROWS tkMOST_GLOBALS tkMOST_OWN_NAMES tkMOST_NAMES tkR0 tkR1 tkR2 tkR3 tkR4 tkR5 tkR6 tkR7 tkR8 tkR9 tkR10 tkR11 tkR12 tkR13 tkR14 tkR15 tkR16 tkS0 tkS1 tkS2 tkS3 tkC0 tkC1 tkC2 tkC3 : Tok} {nmBadProgram qxBadProgram : Str} {NSBadProgram : Addr} {bsBadProgram : List Value} {snBadProgram : List Str} {subBadProgram : List Value} {abBadProgram : Bool} {colBadProgram : Option Bool} {ddBadProgram : Option Addr} {k0BadProgram k1BadProgram k2BadProgram k3BadProgram k5BadProgram : Option Value} {nmTooMany qxTooMany : Str} {NSTooMany : Addr} {bsTooMany : List Value} {snTooMany : List Str} {subTooMany : List Value} {abTooMany : Bool} {colTooMany : Option Bool} {ddTooMany : Option Addr} {k0TooMany k1TooMany k2TooMany k3TooMany k5TooMany : Option Value} {nmBadText qxBadText : Str} {NSBadText : Addr} {bsBadText : List Value} {snBadText : List Str} {subBadText : List Value} {abBadText : Bool} {colBadText : Option Bool} {ddBadText : Option Addr} {k0BadText k1BadText k2BadText k3BadText k5BadText : Option Value} {pR : Addr} {restR : List Value}
    (aC_Program : PySem.W.nsIn K mainGlobals "Program" = some (some (.ref C_Program)))
    (aC_BadProgram : PySem.W.nsIn K mainGlobals "BadProgram" = some (some (.ref C_BadProgram)))
    (aC_TooMany : PySem.W.nsIn K mainGlobals "TooMany" = some (some (.ref C_TooMany)))
    (aC_BadText : PySem.W.nsIn K mainGlobals "BadText" = some (some (.ref C_BadText)))
    (a_either : PySem.W.nsIn K mainGlobals "either" = some (some (.ref f_either)))
    (l_either : K.lookup f_either = some ⟨oc_either, od_either, .func (PySem.W.fnOf "either" "either" (defArgs s_either) (defBody s_either) (defScope s_either) .none kV_either dc_either pm_either an_either cd_either ct_either), sl_either⟩)
    (c_either : PySem.W.codeIn K cd_either "either" = true)
    (k_either : PySem.W.keepIn K (.ref f_either) = true)
    (a_are_contents : PySem.W.nsIn K mainGlobals "are_contents" = some (some (.ref f_are_contents)))
    (l_are_contents : K.lookup f_are_contents = some ⟨oc_are_contents, od_are_contents, .func (PySem.W.fnOf "are_contents" "are_contents" (defArgs s_are_contents) (defBody s_are_contents) (defScope s_are_contents) .none kV_are_contents dc_are_contents pm_are_contents an_are_contents cd_are_contents ct_are_contents), sl_are_contents⟩)
    (c_are_contents : PySem.W.codeIn K cd_are_contents "are_contents" = true)
    (k_are_contents : PySem.W.keepIn K (.ref f_are_contents) = true)
    (a_is_word : PySem.W.nsIn K mainGlobals "is_word" = some (some (.ref f_is_word)))
    (l_is_word : K.lookup f_is_word = some ⟨oc_is_word, od_is_word, .func (PySem.W.fnOf "is_word" "is_word" (defArgs s_is_word) (defBody s_is_word) (defScope s_is_word) .none kV_is_word dc_is_word pm_is_word an_is_word cd_is_word ct_is_word), sl_is_word⟩)
    (c_is_word : PySem.W.codeIn K cd_is_word "is_word" = true)
    (k_is_word : PySem.W.keepIn K (.ref f_is_word) = true)
    (a_is_mark : PySem.W.nsIn K mainGlobals "is_mark" = some (some (.ref f_is_mark)))
    (l_is_mark : K.lookup f_is_mark = some ⟨oc_is_mark, od_is_mark, .func (PySem.W.fnOf "is_mark" "is_mark" (defArgs s_is_mark) (defBody s_is_mark) (defScope s_is_mark) .none kV_is_mark dc_is_mark pm_is_mark an_is_mark cd_is_mark ct_is_mark), sl_is_mark⟩)
    (c_is_mark : PySem.W.codeIn K cd_is_mark "is_mark" = true)
    (k_is_mark : PySem.W.keepIn K (.ref f_is_mark) = true)
    (a_is_set : PySem.W.nsIn K mainGlobals "is_set" = some (some (.ref f_is_set)))
    (l_is_set : K.lookup f_is_set = some ⟨oc_is_set, od_is_set, .func (PySem.W.fnOf "is_set" "is_set" (defArgs s_is_set) (defBody s_is_set) (defScope s_is_set) .none kV_is_set dc_is_set pm_is_set an_is_set cd_is_set ct_is_set), sl_is_set⟩)
    (c_is_set : PySem.W.codeIn K cd_is_set "is_set" = true)
    (k_is_set : PySem.W.keepIn K (.ref f_is_set) = true)
    (a_inside : PySem.W.nsIn K mainGlobals "inside" = some (some (.ref f_inside)))
    (l_inside : K.lookup f_inside = some ⟨oc_inside, od_inside, .func (PySem.W.fnOf "inside" "inside" (defArgs s_inside) (defBody s_inside) (defScope s_inside) .none kV_inside dc_inside pm_inside an_inside cd_inside ct_inside), sl_inside⟩)
    (c_inside : PySem.W.codeIn K cd_inside "inside" = true)
    (k_inside : PySem.W.keepIn K (.ref f_inside) = true)
    (a_are_terms : PySem.W.nsIn K mainGlobals "are_terms" = some (some (.ref f_are_terms)))
    (l_are_terms : K.lookup f_are_terms = some ⟨oc_are_terms, od_are_terms, .func (PySem.W.fnOf "are_terms" "are_terms" (defArgs s_are_terms) (defBody s_are_terms) (defScope s_are_terms) .none kV_are_terms dc_are_terms pm_are_terms an_are_terms cd_are_terms ct_are_terms), sl_are_terms⟩)
    (c_are_terms : PySem.W.codeIn K cd_are_terms "are_terms" = true)
    (k_are_terms : PySem.W.keepIn K (.ref f_are_terms) = true)
    (a_first_part : PySem.W.nsIn K mainGlobals "first_part" = some (some (.ref f_first_part)))
    (l_first_part : K.lookup f_first_part = some ⟨oc_first_part, od_first_part, .func (PySem.W.fnOf "first_part" "first_part" (defArgs s_first_part) (defBody s_first_part) (defScope s_first_part) .none kV_first_part dc_first_part pm_first_part an_first_part cd_first_part ct_first_part), sl_first_part⟩)
    (c_first_part : PySem.W.codeIn K cd_first_part "first_part" = true)
    (k_first_part : PySem.W.keepIn K (.ref f_first_part) = true)
    (a_plain_form : PySem.W.nsIn K mainGlobals "plain_form" = some (some (.ref f_plain_form)))
    (l_plain_form : K.lookup f_plain_form = some ⟨oc_plain_form, od_plain_form, .func (PySem.W.fnOf "plain_form" "plain_form" (defArgs s_plain_form) (defBody s_plain_form) (defScope s_plain_form) .none kV_plain_form dc_plain_form pm_plain_form an_plain_form cd_plain_form ct_plain_form), sl_plain_form⟩)
    (c_plain_form : PySem.W.codeIn K cd_plain_form "plain_form" = true)
    (k_plain_form : PySem.W.keepIn K (.ref f_plain_form) = true)
    (a_is_plain : PySem.W.nsIn K mainGlobals "is_plain" = some (some (.ref f_is_plain)))
    (l_is_plain : K.lookup f_is_plain = some ⟨oc_is_plain, od_is_plain, .func (PySem.W.fnOf "is_plain" "is_plain" (defArgs s_is_plain) (defBody s_is_plain) (defScope s_is_plain) .none kV_is_plain dc_is_plain pm_is_plain an_is_plain cd_is_plain ct_is_plain), sl_is_plain⟩)
    (c_is_plain : PySem.W.codeIn K cd_is_plain "is_plain" = true)
    (k_is_plain : PySem.W.keepIn K (.ref f_is_plain) = true)
    (a_is_condition : PySem.W.nsIn K mainGlobals "is_condition" = some (some (.ref f_is_condition)))
    (l_is_condition : K.lookup f_is_condition = some ⟨oc_is_condition, od_is_condition, .func (PySem.W.fnOf "is_condition" "is_condition" (defArgs s_is_condition) (defBody s_is_condition) (defScope s_is_condition) .none kV_is_condition dc_is_condition pm_is_condition an_is_condition cd_is_condition ct_is_condition), sl_is_condition⟩)
    (c_is_condition : PySem.W.codeIn K cd_is_condition "is_condition" = true)
    (k_is_condition : PySem.W.keepIn K (.ref f_is_condition) = true)
    (a_is_failing : PySem.W.nsIn K mainGlobals "is_failing" = some (some (.ref f_is_failing)))
    (l_is_failing : K.lookup f_is_failing = some ⟨oc_is_failing, od_is_failing, .func (PySem.W.fnOf "is_failing" "is_failing" (defArgs s_is_failing) (defBody s_is_failing) (defScope s_is_failing) .none kV_is_failing dc_is_failing pm_is_failing an_is_failing cd_is_failing ct_is_failing), sl_is_failing⟩)
    (c_is_failing : PySem.W.codeIn K cd_is_failing "is_failing" = true)
    (k_is_failing : PySem.W.keepIn K (.ref f_is_failing) = true)
    (a_is_task_row : PySem.W.nsIn K mainGlobals "is_task_row" = some (some (.ref f_is_task_row)))
    (l_is_task_row : K.lookup f_is_task_row = some ⟨oc_is_task_row, od_is_task_row, .func (PySem.W.fnOf "is_task_row" "is_task_row" (defArgs s_is_task_row) (defBody s_is_task_row) (defScope s_is_task_row) .none kV_is_task_row dc_is_task_row pm_is_task_row an_is_task_row cd_is_task_row ct_is_task_row), sl_is_task_row⟩)
    (c_is_task_row : PySem.W.codeIn K cd_is_task_row "is_task_row" = true)
    (k_is_task_row : PySem.W.keepIn K (.ref f_is_task_row) = true)
    (a_plain_marks : PySem.W.nsIn K mainGlobals "plain_marks" = some (some (.ref f_plain_marks)))
    (l_plain_marks : K.lookup f_plain_marks = some ⟨oc_plain_marks, od_plain_marks, .func (PySem.W.fnOf "plain_marks" "plain_marks" (defArgs s_plain_marks) (defBody s_plain_marks) (defScope s_plain_marks) .none kV_plain_marks dc_plain_marks pm_plain_marks an_plain_marks cd_plain_marks ct_plain_marks), sl_plain_marks⟩)
    (c_plain_marks : PySem.W.codeIn K cd_plain_marks "plain_marks" = true)
    (k_plain_marks : PySem.W.keepIn K (.ref f_plain_marks) = true)
    (a_check_marks : PySem.W.nsIn K mainGlobals "check_marks" = some (some (.ref f_check_marks)))
    (l_check_marks : K.lookup f_check_marks = some ⟨oc_check_marks, od_check_marks, .func (PySem.W.fnOf "check_marks" "check_marks" (defArgs s_check_marks) (defBody s_check_marks) (defScope s_check_marks) .none kV_check_marks dc_check_marks pm_check_marks an_check_marks cd_check_marks ct_check_marks), sl_check_marks⟩)
    (c_check_marks : PySem.W.codeIn K cd_check_marks "check_marks" = true)
    (k_check_marks : PySem.W.keepIn K (.ref f_check_marks) = true)
    (a_check_rows : PySem.W.nsIn K mainGlobals "check_rows" = some (some (.ref f_check_rows)))
    (l_check_rows : K.lookup f_check_rows = some ⟨oc_check_rows, od_check_rows, .func (PySem.W.fnOf "check_rows" "check_rows" (defArgs s_check_rows) (defBody s_check_rows) (defScope s_check_rows) .none kV_check_rows dc_check_rows pm_check_rows an_check_rows cd_check_rows ct_check_rows), sl_check_rows⟩)
    (c_check_rows : PySem.W.codeIn K cd_check_rows "check_rows" = true)
    (k_check_rows : PySem.W.keepIn K (.ref f_check_rows) = true)
    (a_bound_behind : PySem.W.nsIn K mainGlobals "bound_behind" = some (some (.ref f_bound_behind)))
    (l_bound_behind : K.lookup f_bound_behind = some ⟨oc_bound_behind, od_bound_behind, .func (PySem.W.fnOf "bound_behind" "bound_behind" (defArgs s_bound_behind) (defBody s_bound_behind) (defScope s_bound_behind) .none kV_bound_behind dc_bound_behind pm_bound_behind an_bound_behind cd_bound_behind ct_bound_behind), sl_bound_behind⟩)
    (c_bound_behind : PySem.W.codeIn K cd_bound_behind "bound_behind" = true)
    (k_bound_behind : PySem.W.keepIn K (.ref f_bound_behind) = true)
    (a_blocks_behind : PySem.W.nsIn K mainGlobals "blocks_behind" = some (some (.ref f_blocks_behind)))
    (l_blocks_behind : K.lookup f_blocks_behind = some ⟨oc_blocks_behind, od_blocks_behind, .func (PySem.W.fnOf "blocks_behind" "blocks_behind" (defArgs s_blocks_behind) (defBody s_blocks_behind) (defScope s_blocks_behind) .none kV_blocks_behind dc_blocks_behind pm_blocks_behind an_blocks_behind cd_blocks_behind ct_blocks_behind), sl_blocks_behind⟩)
    (c_blocks_behind : PySem.W.codeIn K cd_blocks_behind "blocks_behind" = true)
    (k_blocks_behind : PySem.W.keepIn K (.ref f_blocks_behind) = true)
    (a_check_task : PySem.W.nsIn K mainGlobals "check_task" = some (some (.ref f_check_task)))
    (l_check_task : K.lookup f_check_task = some ⟨oc_check_task, od_check_task, .func (PySem.W.fnOf "check_task" "check_task" (defArgs s_check_task) (defBody s_check_task) (defScope s_check_task) .none kV_check_task dc_check_task pm_check_task an_check_task cd_check_task ct_check_task), sl_check_task⟩)
    (c_check_task : PySem.W.codeIn K cd_check_task "check_task" = true)
    (k_check_task : PySem.W.keepIn K (.ref f_check_task) = true)
    (a_place_of : PySem.W.nsIn K mainGlobals "place_of" = some (some (.ref f_place_of)))
    (l_place_of : K.lookup f_place_of = some ⟨oc_place_of, od_place_of, .func (PySem.W.fnOf "place_of" "place_of" (defArgs s_place_of) (defBody s_place_of) (defScope s_place_of) .none kV_place_of dc_place_of pm_place_of an_place_of cd_place_of ct_place_of), sl_place_of⟩)
    (c_place_of : PySem.W.codeIn K cd_place_of "place_of" = true)
    (k_place_of : PySem.W.keepIn K (.ref f_place_of) = true)
    (a_numbers : PySem.W.nsIn K mainGlobals "_law_numbers" = some (some (.ref f_numbers)))
    (l_numbers : K.lookup f_numbers = some ⟨oc_numbers, od_numbers, .func (PySem.W.fnOf "_law_numbers" "_law_numbers" (defArgs s_numbers) (defBody s_numbers) (defScope s_numbers) .none kV_numbers dc_numbers pm_numbers an_numbers cd_numbers ct_numbers), sl_numbers⟩)
    (c_numbers : PySem.W.codeIn K cd_numbers "_law_numbers" = true)
    (k_numbers : PySem.W.keepIn K (.ref f_numbers) = true)
    (a_draw : PySem.W.nsIn K mainGlobals "_law_draw" = some (some (.ref f_draw)))
    (l_draw : K.lookup f_draw = some ⟨oc_draw, od_draw, .func (PySem.W.fnOf "_law_draw" "_law_draw" (defArgs s_draw) (defBody s_draw) (defScope s_draw) .none kV_draw dc_draw pm_draw an_draw cd_draw ct_draw), sl_draw⟩)
    (c_draw : PySem.W.codeIn K cd_draw "_law_draw" = true)
    (k_draw : PySem.W.keepIn K (.ref f_draw) = true)
    (a_of : PySem.W.nsIn K mainGlobals "_law_of" = some (some (.ref f_of)))
    (l_of : K.lookup f_of = some ⟨oc_of, od_of, .func (PySem.W.fnOf "_law_of" "_law_of" (defArgs s_of) (defBody s_of) (defScope s_of) .none kV_of dc_of pm_of an_of cd_of ct_of), sl_of⟩)
    (c_of : PySem.W.codeIn K cd_of "_law_of" = true)
    (k_of : PySem.W.keepIn K (.ref f_of) = true)
    (a_pick : PySem.W.nsIn K mainGlobals "_law_pick" = some (some (.ref f_pick)))
    (l_pick : K.lookup f_pick = some ⟨oc_pick, od_pick, .func (PySem.W.fnOf "_law_pick" "_law_pick" (defArgs s_pick) (defBody s_pick) (defScope s_pick) .none kV_pick dc_pick pm_pick an_pick cd_pick ct_pick), sl_pick⟩)
    (c_pick : PySem.W.codeIn K cd_pick "_law_pick" = true)
    (k_pick : PySem.W.keepIn K (.ref f_pick) = true)
    (a_drawn_marks : PySem.W.nsIn K mainGlobals "_law_drawn_marks" = some (some (.ref f_drawn_marks)))
    (l_drawn_marks : K.lookup f_drawn_marks = some ⟨oc_drawn_marks, od_drawn_marks, .func (PySem.W.fnOf "_law_drawn_marks" "_law_drawn_marks" (defArgs s_drawn_marks) (defBody s_drawn_marks) (defScope s_drawn_marks) .none kV_drawn_marks dc_drawn_marks pm_drawn_marks an_drawn_marks cd_drawn_marks ct_drawn_marks), sl_drawn_marks⟩)
    (c_drawn_marks : PySem.W.codeIn K cd_drawn_marks "_law_drawn_marks" = true)
    (k_drawn_marks : PySem.W.keepIn K (.ref f_drawn_marks) = true)
    (a_drawn_contents : PySem.W.nsIn K mainGlobals "_law_drawn_contents" = some (some (.ref f_drawn_contents)))
    (l_drawn_contents : K.lookup f_drawn_contents = some ⟨oc_drawn_contents, od_drawn_contents, .func (PySem.W.fnOf "_law_drawn_contents" "_law_drawn_contents" (defArgs s_drawn_contents) (defBody s_drawn_contents) (defScope s_drawn_contents) .none kV_drawn_contents dc_drawn_contents pm_drawn_contents an_drawn_contents cd_drawn_contents ct_drawn_contents), sl_drawn_contents⟩)
    (c_drawn_contents : PySem.W.codeIn K cd_drawn_contents "_law_drawn_contents" = true)
    (k_drawn_contents : PySem.W.keepIn K (.ref f_drawn_contents) = true)
    (a_reserved : PySem.W.nsIn K mainGlobals "_law_reserved" = some (some (.ref f_reserved)))
    (l_reserved : K.lookup f_reserved = some ⟨oc_reserved, od_reserved, .func (PySem.W.fnOf "_law_reserved" "_law_reserved" (defArgs s_reserved) (defBody s_reserved) (defScope s_reserved) .none kV_reserved dc_reserved pm_reserved an_reserved cd_reserved ct_reserved), sl_reserved⟩)
    (c_reserved : PySem.W.codeIn K cd_reserved "_law_reserved" = true)
    (k_reserved : PySem.W.keepIn K (.ref f_reserved) = true)
    (a_one_word : PySem.W.nsIn K mainGlobals "_law_one_word" = some (some (.ref f_one_word)))
    (l_one_word : K.lookup f_one_word = some ⟨oc_one_word, od_one_word, .func (PySem.W.fnOf "_law_one_word" "_law_one_word" (defArgs s_one_word) (defBody s_one_word) (defScope s_one_word) .none kV_one_word dc_one_word pm_one_word an_one_word cd_one_word ct_one_word), sl_one_word⟩)
    (c_one_word : PySem.W.codeIn K cd_one_word "_law_one_word" = true)
    (k_one_word : PySem.W.keepIn K (.ref f_one_word) = true)
    (a_drawn_words : PySem.W.nsIn K mainGlobals "_law_drawn_words" = some (some (.ref f_drawn_words)))
    (l_drawn_words : K.lookup f_drawn_words = some ⟨oc_drawn_words, od_drawn_words, .func (PySem.W.fnOf "_law_drawn_words" "_law_drawn_words" (defArgs s_drawn_words) (defBody s_drawn_words) (defScope s_drawn_words) .none kV_drawn_words dc_drawn_words pm_drawn_words an_drawn_words cd_drawn_words ct_drawn_words), sl_drawn_words⟩)
    (c_drawn_words : PySem.W.codeIn K cd_drawn_words "_law_drawn_words" = true)
    (k_drawn_words : PySem.W.keepIn K (.ref f_drawn_words) = true)
    (a_term : PySem.W.nsIn K mainGlobals "_law_term" = some (some (.ref f_term)))
    (l_term : K.lookup f_term = some ⟨oc_term, od_term, .func (PySem.W.fnOf "_law_term" "_law_term" (defArgs s_term) (defBody s_term) (defScope s_term) .none kV_term dc_term pm_term an_term cd_term ct_term), sl_term⟩)
    (c_term : PySem.W.codeIn K cd_term "_law_term" = true)
    (k_term : PySem.W.keepIn K (.ref f_term) = true)
    (a_sum : PySem.W.nsIn K mainGlobals "_law_sum" = some (some (.ref f_sum)))
    (l_sum : K.lookup f_sum = some ⟨oc_sum, od_sum, .func (PySem.W.fnOf "_law_sum" "_law_sum" (defArgs s_sum) (defBody s_sum) (defScope s_sum) .none kV_sum dc_sum pm_sum an_sum cd_sum ct_sum), sl_sum⟩)
    (c_sum : PySem.W.codeIn K cd_sum "_law_sum" = true)
    (k_sum : PySem.W.keepIn K (.ref f_sum) = true)
    (a_binding : PySem.W.nsIn K mainGlobals "_law_binding" = some (some (.ref f_binding)))
    (l_binding : K.lookup f_binding = some ⟨oc_binding, od_binding, .func (PySem.W.fnOf "_law_binding" "_law_binding" (defArgs s_binding) (defBody s_binding) (defScope s_binding) .none kV_binding dc_binding pm_binding an_binding cd_binding ct_binding), sl_binding⟩)
    (c_binding : PySem.W.codeIn K cd_binding "_law_binding" = true)
    (k_binding : PySem.W.keepIn K (.ref f_binding) = true)
    (a_plain_row : PySem.W.nsIn K mainGlobals "_law_plain_row" = some (some (.ref f_plain_row)))
    (l_plain_row : K.lookup f_plain_row = some ⟨oc_plain_row, od_plain_row, .func (PySem.W.fnOf "_law_plain_row" "_law_plain_row" (defArgs s_plain_row) (defBody s_plain_row) (defScope s_plain_row) .none kV_plain_row dc_plain_row pm_plain_row an_plain_row cd_plain_row ct_plain_row), sl_plain_row⟩)
    (c_plain_row : PySem.W.codeIn K cd_plain_row "_law_plain_row" = true)
    (k_plain_row : PySem.W.keepIn K (.ref f_plain_row) = true)
    (a_plains : PySem.W.nsIn K mainGlobals "_law_plains" = some (some (.ref f_plains)))
    (l_plains : K.lookup f_plains = some ⟨oc_plains, od_plains, .func (PySem.W.fnOf "_law_plains" "_law_plains" (defArgs s_plains) (defBody s_plains) (defScope s_plains) .none kV_plains dc_plains pm_plains an_plains cd_plains ct_plains), sl_plains⟩)
    (c_plains : PySem.W.codeIn K cd_plains "_law_plains" = true)
    (k_plains : PySem.W.keepIn K (.ref f_plains) = true)
    (a_test : PySem.W.nsIn K mainGlobals "_law_test" = some (some (.ref f_test)))
    (l_test : K.lookup f_test = some ⟨oc_test, od_test, .func (PySem.W.fnOf "_law_test" "_law_test" (defArgs s_test) (defBody s_test) (defScope s_test) .none kV_test dc_test pm_test an_test cd_test ct_test), sl_test⟩)
    (c_test : PySem.W.codeIn K cd_test "_law_test" = true)
    (k_test : PySem.W.keepIn K (.ref f_test) = true)
    (a_last : PySem.W.nsIn K mainGlobals "_law_last" = some (some (.ref f_last)))
    (l_last : K.lookup f_last = some ⟨oc_last, od_last, .func (PySem.W.fnOf "_law_last" "_law_last" (defArgs s_last) (defBody s_last) (defScope s_last) .none kV_last dc_last pm_last an_last cd_last ct_last), sl_last⟩)
    (c_last : PySem.W.codeIn K cd_last "_law_last" = true)
    (k_last : PySem.W.keepIn K (.ref f_last) = true)
    (a_work : PySem.W.nsIn K mainGlobals "_law_work" = some (some (.ref f_work)))
    (l_work : K.lookup f_work = some ⟨oc_work, od_work, .func (PySem.W.fnOf "_law_work" "_law_work" (defArgs s_work) (defBody s_work) (defScope s_work) .none kV_work dc_work pm_work an_work cd_work ct_work), sl_work⟩)
    (c_work : PySem.W.codeIn K cd_work "_law_work" = true)
    (k_work : PySem.W.keepIn K (.ref f_work) = true)
    (a_drawn_parts : PySem.W.nsIn K mainGlobals "_law_drawn_parts" = some (some (.ref f_drawn_parts)))
    (l_drawn_parts : K.lookup f_drawn_parts = some ⟨oc_drawn_parts, od_drawn_parts, .func (PySem.W.fnOf "_law_drawn_parts" "_law_drawn_parts" (defArgs s_drawn_parts) (defBody s_drawn_parts) (defScope s_drawn_parts) .none kV_drawn_parts dc_drawn_parts pm_drawn_parts an_drawn_parts cd_drawn_parts ct_drawn_parts), sl_drawn_parts⟩)
    (c_drawn_parts : PySem.W.codeIn K cd_drawn_parts "_law_drawn_parts" = true)
    (k_drawn_parts : PySem.W.keepIn K (.ref f_drawn_parts) = true)
    (a_make : PySem.W.nsIn K mainGlobals "_law_make" = some (some (.ref f_make)))
    (l_make : K.lookup f_make = some ⟨oc_make, od_make, .func (PySem.W.fnOf "_law_make" "_law_make" (defArgs s_make) (defBody s_make) (defScope s_make) .none kV_make dc_make pm_make an_make cd_make ct_make), sl_make⟩)
    (c_make : PySem.W.codeIn K cd_make "_law_make" = true)
    (k_make : PySem.W.keepIn K (.ref f_make) = true)
    (a_same : PySem.W.nsIn K mainGlobals "_law_same" = some (some (.ref f_same)))
    (l_same : K.lookup f_same = some ⟨oc_same, od_same, .func (PySem.W.fnOf "_law_same" "_law_same" (defArgs s_same) (defBody s_same) (defScope s_same) .none kV_same dc_same pm_same an_same cd_same ct_same), sl_same⟩)
    (c_same : PySem.W.codeIn K cd_same "_law_same" = true)
    (k_same : PySem.W.keepIn K (.ref f_same) = true)
    (a_lwletters : PySem.W.nsIn K mainGlobals "_law_letters" = some (some (.ref f_lwletters)))
    (l_lwletters : K.lookup f_lwletters = some ⟨oc_lwletters, od_lwletters, .func (PySem.W.fnOf "_law_letters" "_law_letters" (defArgs s_lwletters) (defBody s_lwletters) (defScope s_lwletters) .none kV_lwletters dc_lwletters pm_lwletters an_lwletters cd_lwletters ct_lwletters), sl_lwletters⟩)
    (c_lwletters : PySem.W.codeIn K cd_lwletters "_law_letters" = true)
    (k_lwletters : PySem.W.keepIn K (.ref f_lwletters) = true)
    (a_text : PySem.W.nsIn K mainGlobals "_law_text" = some (some (.ref f_text)))
    (l_text : K.lookup f_text = some ⟨oc_text, od_text, .func (PySem.W.fnOf "_law_text" "_law_text" (defArgs s_text) (defBody s_text) (defScope s_text) .none kV_text dc_text pm_text an_text cd_text ct_text), sl_text⟩)
    (c_text : PySem.W.codeIn K cd_text "_law_text" = true)
    (k_text : PySem.W.keepIn K (.ref f_text) = true)
    (a_right : PySem.W.nsIn K mainGlobals "_law_right" = some (some (.ref f_right)))
    (l_right : K.lookup f_right = some ⟨oc_right, od_right, .func (PySem.W.fnOf "_law_right" "_law_right" (defArgs s_right) (defBody s_right) (defScope s_right) .none kV_right dc_right pm_right an_right cd_right ct_right), sl_right⟩)
    (c_right : PySem.W.codeIn K cd_right "_law_right" = true)
    (k_right : PySem.W.keepIn K (.ref f_right) = true)
    (a_law : PySem.W.nsIn K mainGlobals "law" = some (some (.ref f_law)))
    (l_law : K.lookup f_law = some ⟨oc_law, od_law, .func (PySem.W.fnOf "law" "law" (defArgs s_law) (defBody s_law) (defScope s_law) .none kV_law dc_law pm_law an_law cd_law ct_law), sl_law⟩)
    (c_law : PySem.W.codeIn K cd_law "law" = true)
    (k_law : PySem.W.keepIn K (.ref f_law) = true)
    (a_Program__init : PySem.W.findIn K (.ref C_Program) "__init__" = some (some (.ref f_Program__init)))
    (i_Program__init : PySem.W.isFn K (.ref f_Program__init) = true)
    (l_Program__init : K.lookup f_Program__init = some ⟨oc_Program__init, od_Program__init, .func (PySem.W.fnOf "__init__" "Program.__init__" (defArgs s_Program__init) (defBody s_Program__init) (defScope s_Program__init) .none kV_Program__init dc_Program__init pm_Program__init an_Program__init cd_Program__init ct_Program__init), sl_Program__init⟩)
    (c_Program__init : PySem.W.codeIn K cd_Program__init "Program.__init__" = true)
    (k_Program__init : PySem.W.keepIn K (.ref f_Program__init) = true)
    (a_Program__str : PySem.W.findIn K (.ref C_Program) "__str__" = some (some (.ref f_Program__str)))
    (i_Program__str : PySem.W.isFn K (.ref f_Program__str) = true)
    (l_Program__str : K.lookup f_Program__str = some ⟨oc_Program__str, od_Program__str, .func (PySem.W.fnOf "__str__" "Program.__str__" (defArgs s_Program__str) (defBody s_Program__str) (defScope s_Program__str) .none kV_Program__str dc_Program__str pm_Program__str an_Program__str cd_Program__str ct_Program__str), sl_Program__str⟩)
    (c_Program__str : PySem.W.codeIn K cd_Program__str "Program.__str__" = true)
    (k_Program__str : PySem.W.keepIn K (.ref f_Program__str) = true)
    (a_Program_global_names : PySem.W.findIn K (.ref C_Program) "global_names" = some (some (.ref f_Program_global_names)))
    (i_Program_global_names : PySem.W.isFn K (.ref f_Program_global_names) = true)
    (l_Program_global_names : K.lookup f_Program_global_names = some ⟨oc_Program_global_names, od_Program_global_names, .func (PySem.W.fnOf "global_names" "Program.global_names" (defArgs s_Program_global_names) (defBody s_Program_global_names) (defScope s_Program_global_names) .none kV_Program_global_names dc_Program_global_names pm_Program_global_names an_Program_global_names cd_Program_global_names ct_Program_global_names), sl_Program_global_names⟩)
    (c_Program_global_names : PySem.W.codeIn K cd_Program_global_names "Program.global_names" = true)
    (k_Program_global_names : PySem.W.keepIn K (.ref f_Program_global_names) = true)
    (a_Program_own_names : PySem.W.findIn K (.ref C_Program) "own_names" = some (some (.ref f_Program_own_names)))
    (i_Program_own_names : PySem.W.isFn K (.ref f_Program_own_names) = true)
    (l_Program_own_names : K.lookup f_Program_own_names = some ⟨oc_Program_own_names, od_Program_own_names, .func (PySem.W.fnOf "own_names" "Program.own_names" (defArgs s_Program_own_names) (defBody s_Program_own_names) (defScope s_Program_own_names) .none kV_Program_own_names dc_Program_own_names pm_Program_own_names an_Program_own_names cd_Program_own_names ct_Program_own_names), sl_Program_own_names⟩)
    (c_Program_own_names : PySem.W.codeIn K cd_Program_own_names "Program.own_names" = true)
    (k_Program_own_names : PySem.W.keepIn K (.ref f_Program_own_names) = true)
    (a_Program_names : PySem.W.findIn K (.ref C_Program) "names" = some (some (.ref f_Program_names)))
    (i_Program_names : PySem.W.isFn K (.ref f_Program_names) = true)
    (l_Program_names : K.lookup f_Program_names = some ⟨oc_Program_names, od_Program_names, .func (PySem.W.fnOf "names" "Program.names" (defArgs s_Program_names) (defBody s_Program_names) (defScope s_Program_names) .none kV_Program_names dc_Program_names pm_Program_names an_Program_names cd_Program_names ct_Program_names), sl_Program_names⟩)
    (c_Program_names : PySem.W.codeIn K cd_Program_names "Program.names" = true)
    (k_Program_names : PySem.W.keepIn K (.ref f_Program_names) = true)
    (a_Program_letters : PySem.W.findIn K (.ref C_Program) "letters" = some (some (.ref f_Program_letters)))
    (i_Program_letters : PySem.W.isFn K (.ref f_Program_letters) = true)
    (l_Program_letters : K.lookup f_Program_letters = some ⟨oc_Program_letters, od_Program_letters, .func (PySem.W.fnOf "letters" "Program.letters" (defArgs s_Program_letters) (defBody s_Program_letters) (defScope s_Program_letters) .none kV_Program_letters dc_Program_letters pm_Program_letters an_Program_letters cd_Program_letters ct_Program_letters), sl_Program_letters⟩)
    (c_Program_letters : PySem.W.codeIn K cd_Program_letters "Program.letters" = true)
    (k_Program_letters : PySem.W.keepIn K (.ref f_Program_letters) = true)
    (stR : PySem.W.findCls K (.ref C_Program) (.type "type") "read" = some (.get (.builtin "staticmethod.__get__") (.ref pR) .none (.ref C_Program)))
    (rcR : PySem.W.recIn K pR "staticmethod" = some (.ref f_Program_read :: restR))
    (rdP : PySem.W.readsIn K C_Program (.type "type") = true)
    (tgP : PySem.W.specialIn K (.ref C_Program) "__getattribute__" = some (some (.builtin "type.__getattribute__")))
    (l_Program_read : K.lookup f_Program_read = some ⟨oc_Program_read, od_Program_read, .func (PySem.W.fnOf "read" "Program.read" (defArgs s_Program_read) (defBody s_Program_read) (defScope s_Program_read) .none kV_Program_read dc_Program_read pm_Program_read an_Program_read cd_Program_read ct_Program_read), sl_Program_read⟩)
    (c_Program_read : PySem.W.codeIn K cd_Program_read "Program.read" = true)
    (k_Program_read : PySem.W.keepIn K (.ref f_Program_read) = true)
    (a_BadProgram__init : PySem.W.findIn K (.ref C_BadProgram) "__init__" = some (some (.ref f_BadProgram__init)))
    (i_BadProgram__init : PySem.W.isFn K (.ref f_BadProgram__init) = true)
    (l_BadProgram__init : K.lookup f_BadProgram__init = some ⟨oc_BadProgram__init, od_BadProgram__init, .func (PySem.W.fnOf "__init__" "BadProgram.__init__" (defArgs s_BadProgram__init) (defBody s_BadProgram__init) (defScope s_BadProgram__init) .none kV_BadProgram__init dc_BadProgram__init pm_BadProgram__init an_BadProgram__init cd_BadProgram__init ct_BadProgram__init), sl_BadProgram__init⟩)
    (c_BadProgram__init : PySem.W.codeIn K cd_BadProgram__init "BadProgram.__init__" = true)
    (k_BadProgram__init : PySem.W.keepIn K (.ref f_BadProgram__init) = true)
    (a_TooMany__init : PySem.W.findIn K (.ref C_TooMany) "__init__" = some (some (.ref f_TooMany__init)))
    (i_TooMany__init : PySem.W.isFn K (.ref f_TooMany__init) = true)
    (l_TooMany__init : K.lookup f_TooMany__init = some ⟨oc_TooMany__init, od_TooMany__init, .func (PySem.W.fnOf "__init__" "TooMany.__init__" (defArgs s_TooMany__init) (defBody s_TooMany__init) (defScope s_TooMany__init) .none kV_TooMany__init dc_TooMany__init pm_TooMany__init an_TooMany__init cd_TooMany__init ct_TooMany__init), sl_TooMany__init⟩)
    (c_TooMany__init : PySem.W.codeIn K cd_TooMany__init "TooMany.__init__" = true)
    (k_TooMany__init : PySem.W.keepIn K (.ref f_TooMany__init) = true)
    (a_BadText__init : PySem.W.findIn K (.ref C_BadText) "__init__" = some (some (.ref f_BadText__init)))
    (i_BadText__init : PySem.W.isFn K (.ref f_BadText__init) = true)
    (l_BadText__init : K.lookup f_BadText__init = some ⟨oc_BadText__init, od_BadText__init, .func (PySem.W.fnOf "__init__" "BadText.__init__" (defArgs s_BadText__init) (defBody s_BadText__init) (defScope s_BadText__init) .none kV_BadText__init dc_BadText__init pm_BadText__init an_BadText__init cd_BadText__init ct_BadText__init), sl_BadText__init⟩)
    (c_BadText__init : PySem.W.codeIn K cd_BadText__init "BadText.__init__" = true)
    (k_BadText__init : PySem.W.keepIn K (.ref f_BadText__init) = true)
    (gM : PySem.W.nsIn K mainGlobals "MARKS" = some (some (.str "ABCDEFGHIJKLMNOPQRSTUVWXYZabcdefghijklmnopqrstuvwxyz" tkM)))
    (gLETTERS : PySem.W.nsIn K mainGlobals "LETTERS" = some (some (.str "abcdefghijklmnopqrstuvwxyz" tkLETTERS)))
    (gLONGEST_WORD : PySem.W.nsIn K mainGlobals "LONGEST_WORD" = some (some (.int 8 tkLONGEST_WORD)))
    (gMOST_MARKS : PySem.W.nsIn K mainGlobals "MOST_MARKS" = some (some (.int 3 tkMOST_MARKS)))
    (gMOST_PLAIN_MARKS : PySem.W.nsIn K mainGlobals "MOST_PLAIN_MARKS" = some (some (.int 2 tkMOST_PLAIN_MARKS)))
    (gMOST_PLAIN_ROWS : PySem.W.nsIn K mainGlobals "MOST_PLAIN_ROWS" = some (some (.int 6 tkMOST_PLAIN_ROWS)))
    (gMOST_TASK_ROWS : PySem.W.nsIn K mainGlobals "MOST_TASK_ROWS" = some (some (.int 16 tkMOST_TASK_ROWS)))
    (gMOST_GLOBALS : PySem.W.nsIn K mainGlobals "MOST_GLOBALS" = some (some (.int 3 tkMOST_GLOBALS)))
    (gMOST_OWN_NAMES : PySem.W.nsIn K mainGlobals "MOST_OWN_NAMES" = some (some (.int 2 tkMOST_OWN_NAMES)))
    (gMOST_NAMES : PySem.W.nsIn K mainGlobals "MOST_NAMES" = some (some (.int 4 tkMOST_NAMES)))
    (gtR : PySem.W.nsIn K mainGlobals "RESERVED" = some (some (.ref atR)))
    (ltR : K.lookup atR = some ⟨.type "tuple", ddR, .seq #[.str "answer" tkR0, .str "caller" tkR1, .str "else" tkR2, .str "end" tkR3, .str "fail" tkR4, .str "from" tkR5, .str "given" tkR6, .str "if" tkR7, .str "in" tkR8, .str "is" tkR9, .str "item" tkR10, .str "marks" tkR11, .str "module" tkR12, .str "not" tkR13, .str "out" tkR14, .str "stop" tkR15, .str "task" tkR16] nnR, ssR⟩)
    (gtS : PySem.W.nsIn K mainGlobals "SIGNS" = some (some (.ref atS)))
    (ltS : K.lookup atS = some ⟨.type "tuple", ddS, .seq #[.str "|" tkS0, .str "&" tkS1, .str "-" tkS2, .str "^" tkS3] nnS, ssS⟩)
    (gtC : PySem.W.nsIn K mainGlobals "CHANGES" = some (some (.ref atC)))
    (ltC : K.lookup atC = some ⟨.type "tuple", ddC, .seq #[.str "|=" tkC0, .str "&=" tkC1, .str "-=" tkC2, .str "^=" tkC3] nnC, ssC⟩)
    (z_len : PySem.W.nsIn K mainGlobals "len" = some none)
    (z_abs : PySem.W.nsIn K mainGlobals "abs" = some none)
    (z_list : PySem.W.nsIn K mainGlobals "list" = some none)
    (z_int : PySem.W.nsIn K mainGlobals "int" = some none)
    (z_isinstance : PySem.W.nsIn K mainGlobals "isinstance" = some none)
    (z_str : PySem.W.nsIn K mainGlobals "str" = some none)
    (z_range : PySem.W.nsIn K mainGlobals "range" = some none)
    (z_max : PySem.W.nsIn K mainGlobals "max" = some none)
    (z_min : PySem.W.nsIn K mainGlobals "min" = some none)
    (z_repr : PySem.W.nsIn K mainGlobals "repr" = some none)
    (z_all : PySem.W.nsIn K mainGlobals "all" = some none)
    (z_tuple : PySem.W.nsIn K mainGlobals "tuple" = some none)
    (z_enumerate : PySem.W.nsIn K mainGlobals "enumerate" = some none)
    (z_sorted : PySem.W.nsIn K mainGlobals "sorted" = some none)
    (z_set : PySem.W.nsIn K mainGlobals "set" = some none)
    (z_ValueError : PySem.W.nsIn K mainGlobals "ValueError" = some none)
    (aC_WE : PySem.W.nsIn K mainGlobals "WorkerworldsError" = some (some (.ref C_WE)))
    (pgProgram : PySem.W.plainGet K C_Program Str.empty = true)
    (hd_Program : PySem.W.hasDictIn K C_Program = true)
    (poProgram : PySem.W.plainOver K C_Program = true)
    (saProgram : PySem.W.findIn K (.ref C_Program) "__setattr__" = some (some (.builtin "object.__setattr__")))
    (mkProgram : PySem.W.makesIn K C_Program = true)
    (kcProgram : PySem.W.keepIn K (.ref C_Program) = true)
    (noProgram0 : PySem.W.findIn K (.ref C_Program) "marks" = some none)
    (noProgram1 : PySem.W.findIn K (.ref C_Program) "module" = some none)
    (noProgram2 : PySem.W.findIn K (.ref C_Program) "caller" = some none)
    (noProgram3 : PySem.W.findIn K (.ref C_Program) "task" = some none)
    (noProgram4 : PySem.W.findIn K (.ref C_Program) "shared" = some none)
    (noProgram5 : PySem.W.findIn K (.ref C_Program) "own" = some none)
    (xLBadProgram : K.lookup C_BadProgram = some (excClassObj nmBadProgram qxBadProgram C_BadProgram NSBadProgram bsBadProgram [.ref C_WE, .type "ValueError", .type "Exception", .type "BaseException", .type "object"] true snBadProgram subBadProgram abBadProgram colBadProgram ddBadProgram k0BadProgram k1BadProgram k2BadProgram k3BadProgram k5BadProgram "ValueError.__new__"))
    (saBadProgram : PySem.W.findIn K (.ref C_BadProgram) "__setattr__" = some (some (.builtin "object.__setattr__")))
    (exBadProgram : PySem.W.subIn K (.ref C_BadProgram) (.type "BaseException") = some true)
    (tyBadProgram : PySem.W.typeIn K (.ref C_BadProgram) = some (.type "type"))
    (kcBadProgram : PySem.W.keepIn K (.ref C_BadProgram) = true)
    (gaBadProgram : PySem.W.findIn K (.ref C_BadProgram) "__getattribute__" = some (some (.builtin "BaseException.__getattribute__")))
    (ggBadProgram : PySem.W.findIn K (.ref C_BadProgram) "__getattr__" = some none)
    (hd_BadProgram : PySem.W.hasDictIn K C_BadProgram = true)
    (icBadProgram : PySem.W.isClsIn K C_BadProgram = true)
    (slBadProgram : PySem.W.subIn K (.ref C_BadProgram) (.ref C_BadProgram) = some true)
    (noBadProgram0 : PySem.W.findIn K (.ref C_BadProgram) "part" = some none)
    (noBadProgram1 : PySem.W.findIn K (.ref C_BadProgram) "at" = some none)
    (xLTooMany : K.lookup C_TooMany = some (excClassObj nmTooMany qxTooMany C_TooMany NSTooMany bsTooMany [.ref C_WE, .type "ValueError", .type "Exception", .type "BaseException", .type "object"] true snTooMany subTooMany abTooMany colTooMany ddTooMany k0TooMany k1TooMany k2TooMany k3TooMany k5TooMany "ValueError.__new__"))
    (saTooMany : PySem.W.findIn K (.ref C_TooMany) "__setattr__" = some (some (.builtin "object.__setattr__")))
    (exTooMany : PySem.W.subIn K (.ref C_TooMany) (.type "BaseException") = some true)
    (tyTooMany : PySem.W.typeIn K (.ref C_TooMany) = some (.type "type"))
    (kcTooMany : PySem.W.keepIn K (.ref C_TooMany) = true)
    (gaTooMany : PySem.W.findIn K (.ref C_TooMany) "__getattribute__" = some (some (.builtin "BaseException.__getattribute__")))
    (ggTooMany : PySem.W.findIn K (.ref C_TooMany) "__getattr__" = some none)
    (hd_TooMany : PySem.W.hasDictIn K C_TooMany = true)
    (icTooMany : PySem.W.isClsIn K C_TooMany = true)
    (slTooMany : PySem.W.subIn K (.ref C_TooMany) (.ref C_TooMany) = some true)
    (noTooMany0 : PySem.W.findIn K (.ref C_TooMany) "what" = some none)
    (xLBadText : K.lookup C_BadText = some (excClassObj nmBadText qxBadText C_BadText NSBadText bsBadText [.ref C_WE, .type "ValueError", .type "Exception", .type "BaseException", .type "object"] true snBadText subBadText abBadText colBadText ddBadText k0BadText k1BadText k2BadText k3BadText k5BadText "ValueError.__new__"))
    (saBadText : PySem.W.findIn K (.ref C_BadText) "__setattr__" = some (some (.builtin "object.__setattr__")))
    (exBadText : PySem.W.subIn K (.ref C_BadText) (.type "BaseException") = some true)
    (tyBadText : PySem.W.typeIn K (.ref C_BadText) = some (.type "type"))
    (kcBadText : PySem.W.keepIn K (.ref C_BadText) = true)
    (gaBadText : PySem.W.findIn K (.ref C_BadText) "__getattribute__" = some (some (.builtin "BaseException.__getattribute__")))
    (ggBadText : PySem.W.findIn K (.ref C_BadText) "__getattr__" = some none)
    (hd_BadText : PySem.W.hasDictIn K C_BadText = true)
    (icBadText : PySem.W.isClsIn K C_BadText = true)
    (slBadText : PySem.W.subIn K (.ref C_BadText) (.ref C_BadText) = some true)
    (noBadText0 : PySem.W.findIn K (.ref C_BadText) "at" = some none)
    : ∃ fd : FuncData, (∀ (s : Shared) (v : Value), BindsTo s fd ⟨[v], []⟩ [("_law_script", v)]) ∧ ∀ base : Heap, K.In base → base.Ns mainGlobals mg → WB.FnG l.prog w K mg base C8.CX0 12 fa fd ["_law_script"] (spLaw K) := by
  have e := hfa.symm.trans (PySem.W.mg_of X G a_law)
  cases e
  have F_either := fun_mk (st := s_either) l_either c_either k_either
  have b_either := F_either.binds (ps := ["one", "other"]) fun _ _ _ _ _ _ us hl => match us, hl with | [_, _], _ => rfl
  have g_either := PySem.W.mg_of X G a_either
  have F_are_contents := fun_mk (st := s_are_contents) l_are_contents c_are_contents k_are_contents
  have b_are_contents := F_are_contents.binds (ps := ["thing"]) fun _ _ _ _ _ _ us hl => match us, hl with | [_], _ => rfl
  have g_are_contents := PySem.W.mg_of X G a_are_contents
  have F_is_word := fun_mk (st := s_is_word) l_is_word c_is_word k_is_word
  have b_is_word := F_is_word.binds (ps := ["part"]) fun _ _ _ _ _ _ us hl => match us, hl with | [_], _ => rfl
  have g_is_word := PySem.W.mg_of X G a_is_word
  have F_is_mark := fun_mk (st := s_is_mark) l_is_mark c_is_mark k_is_mark
  have b_is_mark := F_is_mark.binds (ps := ["part", "marks"]) fun _ _ _ _ _ _ us hl => match us, hl with | [_, _], _ => rfl
  have g_is_mark := PySem.W.mg_of X G a_is_mark
  have F_is_set := fun_mk (st := s_is_set) l_is_set c_is_set k_is_set
  have b_is_set := F_is_set.binds (ps := ["part", "marks"]) fun _ _ _ _ _ _ us hl => match us, hl with | [_, _], _ => rfl
  have g_is_set := PySem.W.mg_of X G a_is_set
  have F_inside := fun_mk (st := s_inside) l_inside c_inside k_inside
  have b_inside := F_inside.binds (ps := ["part"]) fun _ _ _ _ _ _ us hl => match us, hl with | [_], _ => rfl
  have g_inside := PySem.W.mg_of X G a_inside
  have F_are_terms := fun_mk (st := s_are_terms) l_are_terms c_are_terms k_are_terms
  have b_are_terms := F_are_terms.binds (ps := ["parts", "words", "marks"]) fun _ _ _ _ _ _ us hl => match us, hl with | [_, _, _], _ => rfl
  have g_are_terms := PySem.W.mg_of X G a_are_terms
  have F_first_part := fun_mk (st := s_first_part) l_first_part c_first_part k_first_part
  have b_first_part := F_first_part.binds (ps := ["row"]) fun _ _ _ _ _ _ us hl => match us, hl with | [_], _ => rfl
  have g_first_part := PySem.W.mg_of X G a_first_part
  have F_plain_form := fun_mk (st := s_plain_form) l_plain_form c_plain_form k_plain_form
  have b_plain_form := F_plain_form.binds (ps := ["row"]) fun _ _ _ _ _ _ us hl => match us, hl with | [_], _ => rfl
  have g_plain_form := PySem.W.mg_of X G a_plain_form
  have F_is_plain := fun_mk (st := s_is_plain) l_is_plain c_is_plain k_is_plain
  have b_is_plain := F_is_plain.binds (ps := ["row", "words", "marks", "fresh"]) fun _ _ _ _ _ _ us hl => match us, hl with | [_, _, _, _], _ => rfl
  have g_is_plain := PySem.W.mg_of X G a_is_plain
  have F_is_condition := fun_mk (st := s_is_condition) l_is_condition c_is_condition k_is_condition
  have b_is_condition := F_is_condition.binds (ps := ["parts", "words", "marks"]) fun _ _ _ _ _ _ us hl => match us, hl with | [_, _, _], _ => rfl
  have g_is_condition := PySem.W.mg_of X G a_is_condition
  have F_is_failing := fun_mk (st := s_is_failing) l_is_failing c_is_failing k_is_failing
  have b_is_failing := F_is_failing.binds (ps := ["parts", "words", "marks"]) fun _ _ _ _ _ _ us hl => match us, hl with | [_, _, _], _ => rfl
  have g_is_failing := PySem.W.mg_of X G a_is_failing
  have F_is_task_row := fun_mk (st := s_is_task_row) l_is_task_row c_is_task_row k_is_task_row
  have b_is_task_row := F_is_task_row.binds (ps := ["row", "words", "marks"]) fun _ _ _ _ _ _ us hl => match us, hl with | [_, _, _], _ => rfl
  have g_is_task_row := PySem.W.mg_of X G a_is_task_row
  have F_plain_marks := fun_mk (st := s_plain_marks) l_plain_marks c_plain_marks k_plain_marks
  have b_plain_marks := F_plain_marks.binds (ps := ["marks"]) fun _ _ _ _ _ _ us hl => match us, hl with | [_], _ => rfl
  have g_plain_marks := PySem.W.mg_of X G a_plain_marks
  have F_check_marks := fun_mk (st := s_check_marks) l_check_marks c_check_marks k_check_marks
  have b_check_marks := F_check_marks.binds (ps := ["marks"]) fun _ _ _ _ _ _ us hl => match us, hl with | [_], _ => rfl
  have g_check_marks := PySem.W.mg_of X G a_check_marks
  have F_check_rows := fun_mk (st := s_check_rows) l_check_rows c_check_rows k_check_rows
  have b_check_rows := F_check_rows.binds (ps := ["part", "rows", "most"]) fun _ _ _ _ _ _ us hl => match us, hl with | [_, _, _], _ => rfl
  have g_check_rows := PySem.W.mg_of X G a_check_rows
  have F_bound_behind := fun_mk (st := s_bound_behind) l_bound_behind c_bound_behind k_bound_behind
  have b_bound_behind := F_bound_behind.binds (ps := ["part", "rows", "words", "marks"]) fun _ _ _ _ _ _ us hl => match us, hl with | [_, _, _, _], _ => rfl
  have g_bound_behind := PySem.W.mg_of X G a_bound_behind
  have F_blocks_behind := fun_mk (st := s_blocks_behind) l_blocks_behind c_blocks_behind k_blocks_behind
  have b_blocks_behind := F_blocks_behind.binds (ps := ["row", "blocks"]) fun _ _ _ _ _ _ us hl => match us, hl with | [_, _], _ => rfl
  have g_blocks_behind := PySem.W.mg_of X G a_blocks_behind
  have F_check_task := fun_mk (st := s_check_task) l_check_task c_check_task k_check_task
  have b_check_task := F_check_task.binds (ps := ["rows", "words", "marks"]) fun _ _ _ _ _ _ us hl => match us, hl with | [_, _, _], _ => rfl
  have g_check_task := PySem.W.mg_of X G a_check_task
  have F_place_of := fun_mk (st := s_place_of) l_place_of c_place_of k_place_of
  have b_place_of := F_place_of.binds (ps := ["line", "lines", "start"]) fun _ _ _ _ _ _ us hl => match us, hl with | [_, _, _], _ => rfl
  have g_place_of := PySem.W.mg_of X G a_place_of
  have F_numbers := fun_mk (st := s_numbers) l_numbers c_numbers k_numbers
  have b_numbers := F_numbers.binds (ps := ["_law_script", "_law_at"]) fun _ _ _ _ _ _ us hl => match us, hl with | [_, _], _ => rfl
  have g_numbers := PySem.W.mg_of X G a_numbers
  have F_draw := fun_mk (st := s_draw) l_draw c_draw k_draw
  have b_draw := F_draw.binds (ps := ["_law_stream", "_law_many"]) fun _ _ _ _ _ _ us hl => match us, hl with | [_, _], _ => rfl
  have g_draw := PySem.W.mg_of X G a_draw
  have F_of := fun_mk (st := s_of) l_of c_of k_of
  have b_of := F_of.binds (ps := ["_law_stream", "_law_some"]) fun _ _ _ _ _ _ us hl => match us, hl with | [_, _], _ => rfl
  have g_of := PySem.W.mg_of X G a_of
  have F_pick := fun_mk (st := s_pick) l_pick c_pick k_pick
  have b_pick := F_pick.binds (ps := ["_law_stream", "_law_letters_here", "_law_many"]) fun _ _ _ _ _ _ us hl => match us, hl with | [_, _, _], _ => rfl
  have g_pick := PySem.W.mg_of X G a_pick
  have F_drawn_marks := fun_mk (st := s_drawn_marks) l_drawn_marks c_drawn_marks k_drawn_marks
  have b_drawn_marks := F_drawn_marks.binds (ps := ["_law_stream", "_law_fewest", "_law_most"]) fun _ _ _ _ _ _ us hl => match us, hl with | [_, _, _], _ => rfl
  have g_drawn_marks := PySem.W.mg_of X G a_drawn_marks
  have F_drawn_contents := fun_mk (st := s_drawn_contents) l_drawn_contents c_drawn_contents k_drawn_contents
  have b_drawn_contents := F_drawn_contents.binds (ps := ["_law_stream", "_law_marks"]) fun _ _ _ _ _ _ us hl => match us, hl with | [_, _], _ => rfl
  have g_drawn_contents := PySem.W.mg_of X G a_drawn_contents
  have F_reserved := fun_mk (st := s_reserved) l_reserved c_reserved k_reserved
  have b_reserved := F_reserved.binds (ps := []) fun _ _ _ _ _ _ us hl => match us, hl with | [], _ => rfl
  have g_reserved := PySem.W.mg_of X G a_reserved
  have F_one_word := fun_mk (st := s_one_word) l_one_word c_one_word k_one_word
  have b_one_word := F_one_word.binds (ps := ["_law_stream", "_law_taken", "_law_marks", "_law_most"]) fun _ _ _ _ _ _ us hl => match us, hl with | [_, _, _, _], _ => rfl
  have g_one_word := PySem.W.mg_of X G a_one_word
  have F_drawn_words := fun_mk (st := s_drawn_words) l_drawn_words c_drawn_words k_drawn_words
  have b_drawn_words := F_drawn_words.binds (ps := ["_law_stream", "_law_taken", "_law_marks", "_law_many", "_law_most"]) fun _ _ _ _ _ _ us hl => match us, hl with | [_, _, _, _, _], _ => rfl
  have g_drawn_words := PySem.W.mg_of X G a_drawn_words
  have F_term := fun_mk (st := s_term) l_term c_term k_term
  have b_term := F_term.binds (ps := ["_law_stream", "_law_words", "_law_marks"]) fun _ _ _ _ _ _ us hl => match us, hl with | [_, _, _], _ => rfl
  have g_term := PySem.W.mg_of X G a_term
  have F_sum := fun_mk (st := s_sum) l_sum c_sum k_sum
  have b_sum := F_sum.binds (ps := ["_law_stream", "_law_words", "_law_marks"]) fun _ _ _ _ _ _ us hl => match us, hl with | [_, _, _], _ => rfl
  have g_sum := PySem.W.mg_of X G a_sum
  have F_binding := fun_mk (st := s_binding) l_binding c_binding k_binding
  have b_binding := F_binding.binds (ps := ["_law_stream", "_law_word", "_law_words", "_law_marks"]) fun _ _ _ _ _ _ us hl => match us, hl with | [_, _, _, _], _ => rfl
  have g_binding := PySem.W.mg_of X G a_binding
  have F_plain_row := fun_mk (st := s_plain_row) l_plain_row c_plain_row k_plain_row
  have b_plain_row := F_plain_row.binds (ps := ["_law_stream", "_law_words", "_law_marks"]) fun _ _ _ _ _ _ us hl => match us, hl with | [_, _, _], _ => rfl
  have g_plain_row := PySem.W.mg_of X G a_plain_row
  have F_plains := fun_mk (st := s_plains) l_plains c_plains k_plains
  have b_plains := F_plains.binds (ps := ["_law_stream", "_law_known", "_law_fresh", "_law_most", "_law_marks"]) fun _ _ _ _ _ _ us hl => match us, hl with | [_, _, _, _, _], _ => rfl
  have g_plains := PySem.W.mg_of X G a_plains
  have F_test := fun_mk (st := s_test) l_test c_test k_test
  have b_test := F_test.binds (ps := ["_law_stream", "_law_words", "_law_marks"]) fun _ _ _ _ _ _ us hl => match us, hl with | [_, _, _], _ => rfl
  have g_test := PySem.W.mg_of X G a_test
  have F_last := fun_mk (st := s_last) l_last c_last k_last
  have b_last := F_last.binds (ps := ["_law_stream", "_law_words", "_law_marks"]) fun _ _ _ _ _ _ us hl => match us, hl with | [_, _, _], _ => rfl
  have g_last := PySem.W.mg_of X G a_last
  have F_work := fun_mk (st := s_work) l_work c_work k_work
  have b_work := F_work.binds (ps := ["_law_stream", "_law_words", "_law_marks", "_law_most", "_law_ends"]) fun _ _ _ _ _ _ us hl => match us, hl with | [_, _, _, _, _], _ => rfl
  have g_work := PySem.W.mg_of X G a_work
  have F_drawn_parts := fun_mk (st := s_drawn_parts) l_drawn_parts c_drawn_parts k_drawn_parts
  have b_drawn_parts := F_drawn_parts.binds (ps := ["_law_stream", "_law_marks", "_law_sizes"]) fun _ _ _ _ _ _ us hl => match us, hl with | [_, _, _], _ => rfl
  have g_drawn_parts := PySem.W.mg_of X G a_drawn_parts
  have F_make := fun_mk (st := s_make) l_make c_make k_make
  have b_make := F_make.binds (ps := ["_law_parts"]) fun _ _ _ _ _ _ us hl => match us, hl with | [_], _ => rfl
  have g_make := PySem.W.mg_of X G a_make
  have F_same := fun_mk (st := s_same) l_same c_same k_same
  have b_same := F_same.binds (ps := ["_law_found", "_law_due"]) fun _ _ _ _ _ _ us hl => match us, hl with | [_, _], _ => rfl
  have g_same := PySem.W.mg_of X G a_same
  have F_lwletters := fun_mk (st := s_lwletters) l_lwletters c_lwletters k_lwletters
  have b_lwletters := F_lwletters.binds (ps := ["_law_parts"]) fun _ _ _ _ _ _ us hl => match us, hl with | [_], _ => rfl
  have g_lwletters := PySem.W.mg_of X G a_lwletters
  have F_text := fun_mk (st := s_text) l_text c_text k_text
  have b_text := F_text.binds (ps := ["_law_parts"]) fun _ _ _ _ _ _ us hl => match us, hl with | [_], _ => rfl
  have g_text := PySem.W.mg_of X G a_text
  have F_right := fun_mk (st := s_right) l_right c_right k_right
  have b_right := F_right.binds (ps := ["_law_program", "_law_parts", "_law_text_here"]) fun _ _ _ _ _ _ us hl => match us, hl with | [_, _, _], _ => rfl
  have g_right := PySem.W.mg_of X G a_right
  have F_law := fun_mk (st := s_law) l_law c_law k_law
  have b_law := F_law.binds (ps := ["_law_script"]) fun _ _ _ _ _ _ us hl => match us, hl with | [_], _ => rfl
  have g_law := PySem.W.mg_of X G a_law
  have F_Program__init := fun_mk (st := s_Program__init) l_Program__init c_Program__init k_Program__init
  have b_Program__init := F_Program__init.binds (ps := ["self", "marks", "module", "caller", "task"]) fun _ _ _ _ _ _ us hl => match us, hl with | [_, _, _, _, _], _ => rfl
  have F_Program__str := fun_mk (st := s_Program__str) l_Program__str c_Program__str k_Program__str
  have b_Program__str := F_Program__str.binds (ps := ["self"]) fun _ _ _ _ _ _ us hl => match us, hl with | [_], _ => rfl
  have F_Program_global_names := fun_mk (st := s_Program_global_names) l_Program_global_names c_Program_global_names k_Program_global_names
  have b_Program_global_names := F_Program_global_names.binds (ps := ["self"]) fun _ _ _ _ _ _ us hl => match us, hl with | [_], _ => rfl
  have F_Program_own_names := fun_mk (st := s_Program_own_names) l_Program_own_names c_Program_own_names k_Program_own_names
  have b_Program_own_names := F_Program_own_names.binds (ps := ["self"]) fun _ _ _ _ _ _ us hl => match us, hl with | [_], _ => rfl
  have F_Program_names := fun_mk (st := s_Program_names) l_Program_names c_Program_names k_Program_names
  have b_Program_names := F_Program_names.binds (ps := ["self"]) fun _ _ _ _ _ _ us hl => match us, hl with | [_], _ => rfl
  have F_Program_letters := fun_mk (st := s_Program_letters) l_Program_letters c_Program_letters k_Program_letters
  have b_Program_letters := F_Program_letters.binds (ps := ["self"]) fun _ _ _ _ _ _ us hl => match us, hl with | [_], _ => rfl
  have F_Program_read := fun_mk (st := s_Program_read) l_Program_read c_Program_read k_Program_read
  have b_Program_read := F_Program_read.binds (ps := ["text"]) fun _ _ _ _ _ _ us hl => match us, hl with | [_], _ => rfl
  have F_BadProgram__init := fun_mk (st := s_BadProgram__init) l_BadProgram__init c_BadProgram__init k_BadProgram__init
  have b_BadProgram__init := F_BadProgram__init.binds (ps := ["self", "part", "at"]) fun _ _ _ _ _ _ us hl => match us, hl with | [_, _, _], _ => rfl
  have F_TooMany__init := fun_mk (st := s_TooMany__init) l_TooMany__init c_TooMany__init k_TooMany__init
  have b_TooMany__init := F_TooMany__init.binds (ps := ["self", "what"]) fun _ _ _ _ _ _ us hl => match us, hl with | [_, _], _ => rfl
  have F_BadText__init := fun_mk (st := s_BadText__init) l_BadText__init c_BadText__init k_BadText__init
  have b_BadText__init := F_BadText__init.binds (ps := ["self", "at"]) fun _ _ _ _ _ _ us hl => match us, hl with | [_, _], _ => rfl
  refine ⟨PySem.W.fnOf "law" "law" (defArgs s_law) (defBody s_law) (defScope s_law) .none kV_law dc_law pm_law an_law cd_law ct_law, fun s v => .of_eq rfl, fun base KB GB => ?_⟩
  have T : Top K mg := { z_len := PySem.W.mg_none_of X G z_len, z_abs := PySem.W.mg_none_of X G z_abs, z_list := PySem.W.mg_none_of X G z_list, z_int := PySem.W.mg_none_of X G z_int, z_isinstance := PySem.W.mg_none_of X G z_isinstance, z_str := PySem.W.mg_none_of X G z_str, z_range := PySem.W.mg_none_of X G z_range, z_max := PySem.W.mg_none_of X G z_max, z_min := PySem.W.mg_none_of X G z_min, z_repr := PySem.W.mg_none_of X G z_repr, z_all := PySem.W.mg_none_of X G z_all, z_tuple := PySem.W.mg_none_of X G z_tuple, z_enumerate := PySem.W.mg_none_of X G z_enumerate, z_sorted := PySem.W.mg_none_of X G z_sorted, z_set := PySem.W.mg_none_of X G z_set, z_ValueError := PySem.W.mg_none_of X G z_ValueError, g_MARKS := ⟨_, PySem.W.mg_of X G gM, ⟨_, rfl⟩⟩, g_LETTERS := ⟨_, PySem.W.mg_of X G gLETTERS, ⟨_, rfl⟩⟩, g_LONGEST_WORD := ⟨_, PySem.W.mg_of X G gLONGEST_WORD, ⟨_, rfl⟩⟩, g_MOST_MARKS := ⟨_, PySem.W.mg_of X G gMOST_MARKS, ⟨_, rfl⟩⟩, g_MOST_PLAIN_MARKS := ⟨_, PySem.W.mg_of X G gMOST_PLAIN_MARKS, ⟨_, rfl⟩⟩, g_MOST_PLAIN_ROWS := ⟨_, PySem.W.mg_of X G gMOST_PLAIN_ROWS, ⟨_, rfl⟩⟩, g_MOST_TASK_ROWS := ⟨_, PySem.W.mg_of X G gMOST_TASK_ROWS, ⟨_, rfl⟩⟩, g_MOST_GLOBALS := ⟨_, PySem.W.mg_of X G gMOST_GLOBALS, ⟨_, rfl⟩⟩, g_MOST_OWN_NAMES := ⟨_, PySem.W.mg_of X G gMOST_OWN_NAMES, ⟨_, rfl⟩⟩, g_MOST_NAMES := ⟨_, PySem.W.mg_of X G gMOST_NAMES, ⟨_, rfl⟩⟩ }
  have GG : Glo K mg atR atS atC := { gR := ⟨_, PySem.W.mg_of X G gtR, rfl⟩, gS := ⟨_, PySem.W.mg_of X G gtS, rfl⟩, gC := ⟨_, PySem.W.mg_of X G gtC, rfl⟩, sR := fun _ => .inr ⟨_, _, _, ltR, rfl, rfl, (show 17 ≤ sizeLine from by decide), (.cons ⟨_, rfl⟩ (.cons ⟨_, rfl⟩ (.cons ⟨_, rfl⟩ (.cons ⟨_, rfl⟩ (.cons ⟨_, rfl⟩ (.cons ⟨_, rfl⟩ (.cons ⟨_, rfl⟩ (.cons ⟨_, rfl⟩ (.cons ⟨_, rfl⟩ (.cons ⟨_, rfl⟩ (.cons ⟨_, rfl⟩ (.cons ⟨_, rfl⟩ (.cons ⟨_, rfl⟩ (.cons ⟨_, rfl⟩ (.cons ⟨_, rfl⟩ (.cons ⟨_, rfl⟩ (.cons ⟨_, rfl⟩ .nil)))))))))))))))))⟩, sS := fun _ => .inr ⟨_, _, _, ltS, rfl, rfl, (show 4 ≤ sizeLine from by decide), (.cons ⟨_, rfl⟩ (.cons ⟨_, rfl⟩ (.cons ⟨_, rfl⟩ (.cons ⟨_, rfl⟩ .nil))))⟩, sC := fun _ => .inr ⟨_, _, _, ltC, rfl, rfl, (show 4 ≤ sizeLine from by decide), (.cons ⟨_, rfl⟩ (.cons ⟨_, rfl⟩ (.cons ⟨_, rfl⟩ (.cons ⟨_, rfl⟩ .nil))))⟩ }
  have T_either := calOf F_either g_either b_either (ok_either (P := l.prog) (w := w) (base := base) F_either T)
  have T_are_contents := calOf F_are_contents g_are_contents b_are_contents (ok_are (P := l.prog) (w := w) (base := base) F_are_contents T T_either)
  have T_is_word := calOf F_is_word g_is_word b_is_word (ok_is_word (P := l.prog) (w := w) (base := base) F_is_word T GG)
  have T_is_mark := calOf F_is_mark g_is_mark b_is_mark (ok_is_mark (P := l.prog) (w := w) (base := base) F_is_mark T)
  have T_inside := calOf F_inside g_inside b_inside (ok_inside (P := l.prog) (w := w) (base := base) F_inside T)
  have T_is_set := calOf F_is_set g_is_set b_is_set (ok_is_set (P := l.prog) (w := w) (base := base) F_is_set T T_are_contents T_inside)
  have T_are_terms := calOf F_are_terms g_are_terms b_are_terms (ok_are_terms (P := l.prog) (w := w) (base := base) F_are_terms T T_is_set)
  have T_first_part := calOf F_first_part g_first_part b_first_part (ok_first_part (P := l.prog) (w := w) (base := base) F_first_part T)
  have T_plain_form := calOf F_plain_form g_plain_form b_plain_form (ok_plain_form (P := l.prog) (w := w) (base := base) F_plain_form T GG)
  have T_is_plain := calOf F_is_plain g_is_plain b_is_plain (ok_is_plain (P := l.prog) (w := w) (base := base) F_is_plain T GG T_plain_form T_is_word T_are_terms)
  have T_is_condition := calOf F_is_condition g_is_condition b_is_condition (ok_is_condition (P := l.prog) (w := w) (base := base) F_is_condition T T_is_mark T_are_terms)
  have T_is_failing := calOf F_is_failing g_is_failing b_is_failing (ok_is_failing (P := l.prog) (w := w) (base := base) F_is_failing T T_are_terms)
  have T_is_task_row := calOf F_is_task_row g_is_task_row b_is_task_row (ok_is_task_row (P := l.prog) (w := w) (base := base) F_is_task_row T T_is_condition T_is_failing T_is_plain)
  have T_plain_marks := calOf F_plain_marks g_plain_marks b_plain_marks (ok_plain_marks (P := l.prog) (w := w) (base := base) F_plain_marks T)
  have T_blocks_behind := calOf F_blocks_behind g_blocks_behind b_blocks_behind (ok_blocks_behind (P := l.prog) (w := w) (base := base) F_blocks_behind T T_first_part)
  have NO_BadProgram : ∀ f ∈ (["part", "at"] : List Str), PySem.W.findIn K (.ref C_BadProgram) f = some none := fun f hf => by
    simp only [List.mem_cons, List.not_mem_nil, or_false] at hf
    rcases hf with rfl | rfl
    · exact noBadProgram0
    · exact noBadProgram1
  have OX_BadProgram : OexB K C_BadProgram _ _ _ _ := { fb := PySem.F.excBase_ValueError, sf := PySem.F.store_ValueError, cls := ⟨nmBadProgram, qxBadProgram, NSBadProgram, bsBadProgram, _, snBadProgram, subBadProgram, abBadProgram, colBadProgram, ddBadProgram, k0BadProgram, k1BadProgram, k2BadProgram, k3BadProgram, k5BadProgram, xLBadProgram, by show PySem.W.excTail _ [.type "ValueError", .type "Exception", .type "BaseException", .type "object"] = true; decide +kernel⟩, sa := saBadProgram, exC := exBadProgram, tyC := tyBadProgram, kC := kcBadProgram }
  have E_BadProgram : ErY l.prog w K mg base C_BadProgram "BadProgram" ["part", "at"] ["part", "at"] := { ox := ⟨_, _, _, _, OX_BadProgram⟩, xf := ⟨gaBadProgram, ggBadProgram, exBadProgram, hd_BadProgram⟩, no := NO_BadProgram, g := PySem.W.mg_of X G aC_BadProgram, te := exm_me exBadProgram icBadProgram tyBadProgram slBadProgram, ini := ⟨f_BadProgram__init, _, a_BadProgram__init, beq_iff_eq.mp i_BadProgram__init, ok_ini_BadProgram F_BadProgram__init OX_BadProgram noBadProgram0 noBadProgram1, b_BadProgram__init⟩ }
  have NO_TooMany : ∀ f ∈ (["what"] : List Str), PySem.W.findIn K (.ref C_TooMany) f = some none := fun f hf => by
    simp only [List.mem_cons, List.not_mem_nil, or_false] at hf
    subst hf
    exact noTooMany0
  have OX_TooMany : OexB K C_TooMany _ _ _ _ := { fb := PySem.F.excBase_ValueError, sf := PySem.F.store_ValueError, cls := ⟨nmTooMany, qxTooMany, NSTooMany, bsTooMany, _, snTooMany, subTooMany, abTooMany, colTooMany, ddTooMany, k0TooMany, k1TooMany, k2TooMany, k3TooMany, k5TooMany, xLTooMany, by show PySem.W.excTail _ [.type "ValueError", .type "Exception", .type "BaseException", .type "object"] = true; decide +kernel⟩, sa := saTooMany, exC := exTooMany, tyC := tyTooMany, kC := kcTooMany }
  have E_TooMany : ErY l.prog w K mg base C_TooMany "TooMany" ["what"] ["what"] := { ox := ⟨_, _, _, _, OX_TooMany⟩, xf := ⟨gaTooMany, ggTooMany, exTooMany, hd_TooMany⟩, no := NO_TooMany, g := PySem.W.mg_of X G aC_TooMany, te := exm_me exTooMany icTooMany tyTooMany slTooMany, ini := ⟨f_TooMany__init, _, a_TooMany__init, beq_iff_eq.mp i_TooMany__init, ok_ini_TooMany F_TooMany__init OX_TooMany noTooMany0, b_TooMany__init⟩ }
  have BP : FldC K C_Program ["marks", "module", "caller", "task", "shared", "own"] := ⟨⟨pgProgram, hd_Program, poProgram, saProgram⟩, fun f hf => by
    simp only [List.mem_cons, List.not_mem_nil, or_false] at hf
    rcases hf with rfl | rfl | rfl | rfl | rfl | rfl
    · exact noProgram0
    · exact noProgram1
    · exact noProgram2
    · exact noProgram3
    · exact noProgram4
    · exact noProgram5⟩
  have T_check_marks : CalX l.prog w K mg base 3 "check_marks" (spChkM K C_BadProgram) := ⟨f_check_marks, _, _, ok_check_marks F_check_marks T E_BadProgram E_TooMany T_are_contents T_plain_marks, g_check_marks, F_check_marks.kp, b_check_marks⟩
  have T_check_rows : CalX l.prog w K mg base 3 "check_rows" (spChkR K C_BadProgram C_TooMany) := ⟨f_check_rows, _, _, ok_check_rows F_check_rows T E_BadProgram E_TooMany, g_check_rows, F_check_rows.kp, b_check_rows⟩
  have T_bound_behind : CalX l.prog w K mg base 6 "bound_behind" (spBound K C_BadProgram) := ⟨f_bound_behind, _, _, ok_bound_behind F_bound_behind T E_BadProgram E_TooMany T_is_plain T_first_part, g_bound_behind, F_bound_behind.kp, b_bound_behind⟩
  have T_check_task : CalX l.prog w K mg base 7 "check_task" (spChkT K C_BadProgram) := ⟨f_check_task, _, _, ok_check_task F_check_task T E_BadProgram E_TooMany T_is_task_row T_blocks_behind, g_check_task, F_check_task.kp, b_check_task⟩
  have T_Program : MakP l.prog w K mg base 8 "Program" C_Program (spInitP K C_Program C_BadProgram C_TooMany) := ⟨f_Program__init, _, _, ⟨mkProgram, a_Program__init, i_Program__init, kcProgram⟩, ok_init F_Program__init T BP E_BadProgram E_TooMany T_check_marks T_check_rows T_bound_behind T_check_task, PySem.W.mg_of X G aC_Program, b_Program__init⟩
  have NO_BadText : ∀ f ∈ (["at"] : List Str), PySem.W.findIn K (.ref C_BadText) f = some none := fun f hf => by
    simp only [List.mem_cons, List.not_mem_nil, or_false] at hf
    subst hf
    exact noBadText0
  have OX_BadText : OexB K C_BadText _ _ _ _ := { fb := PySem.F.excBase_ValueError, sf := PySem.F.store_ValueError, cls := ⟨nmBadText, qxBadText, NSBadText, bsBadText, _, snBadText, subBadText, abBadText, colBadText, ddBadText, k0BadText, k1BadText, k2BadText, k3BadText, k5BadText, xLBadText, by show PySem.W.excTail _ [.type "ValueError", .type "Exception", .type "BaseException", .type "object"] = true; decide +kernel⟩, sa := saBadText, exC := exBadText, tyC := tyBadText, kC := kcBadText }
  have E_BadText : ErY l.prog w K mg base C_BadText "BadText" ["at"] ["at"] := { ox := ⟨_, _, _, _, OX_BadText⟩, xf := ⟨gaBadText, ggBadText, exBadText, hd_BadText⟩, no := NO_BadText, g := PySem.W.mg_of X G aC_BadText, te := exm_me exBadText icBadText tyBadText slBadText, ini := ⟨f_BadText__init, _, a_BadText__init, beq_iff_eq.mp i_BadText__init, ok_ini_BadText F_BadText__init OX_BadText noBadText0, b_BadText__init⟩ }
  have T_place_of : CalX l.prog w K mg base 3 "place_of" (spPlace K C_BadText) := ⟨f_place_of, _, _, ok_place_of F_place_of T E_BadText, g_place_of, F_place_of.kp, b_place_of⟩
  have ST : StatC K mg "Program" C_Program "read" f_Program_read := ⟨PySem.W.mg_of X G aC_Program, rdP, tgP, ⟨pR, restR, stR, rcR⟩, k_Program_read⟩
  have T_PRead : StaX l.prog w K mg base 10 "Program" C_Program "read" (spPRead K C_Program C_BadProgram C_TooMany C_BadText) := ⟨f_Program_read, _, _, ST, ok_read_p F_Program_read T E_BadText T_place_of T_Program, b_Program_read⟩
  have O_str : Own l.prog w K mg base 1 C_Program "__str__" (spStrP C_Program) := ⟨_, _, _, a_Program__str, i_Program__str, ok_str F_Program__str T BP, b_Program__str⟩
  have T_Program_global_names : Met l.prog w K mg base 1 C_Program "global_names" (spNs C_Program fun p => p.ws) [] := ⟨_, _, _, [], BP.cl, ⟨a_Program_global_names, i_Program_global_names, k_Program_global_names⟩, ok_global_names F_Program_global_names T BP, b_Program_global_names, .nil⟩
  have T_Program_own_names : Met l.prog w K mg base 1 C_Program "own_names" (spNs C_Program fun p => p.os) [] := ⟨_, _, _, [], BP.cl, ⟨a_Program_own_names, i_Program_own_names, k_Program_own_names⟩, ok_own_names F_Program_own_names T BP, b_Program_own_names, .nil⟩
  have T_Program_names : Met l.prog w K mg base 1 C_Program "names" (spNs C_Program fun p => p.ws ++ p.os) [] := ⟨_, _, _, [], BP.cl, ⟨a_Program_names, i_Program_names, k_Program_names⟩, ok_names F_Program_names T BP, b_Program_names, .nil⟩
  have T_Program_letters : Met l.prog w K mg base 2 C_Program "letters" (spLtrs K C_Program) [] := ⟨_, _, _, [], BP.cl, ⟨a_Program_letters, i_Program_letters, k_Program_letters⟩, ok_letters F_Program_letters T BP T_plain_marks T_Program_own_names, b_Program_letters, .nil⟩
  have T_numbers := calOf F_numbers g_numbers b_numbers (ok_numbers (P := l.prog) (w := w) (base := base) F_numbers T)
  have T_draw := calOf F_draw g_draw b_draw (ok_draw (P := l.prog) (w := w) (base := base) F_draw T)
  have T_of := calOf F_of g_of b_of (ok_of (P := l.prog) (w := w) (base := base) F_of T T_draw)
  have T_pick := calOf F_pick g_pick b_pick (ok_pick (P := l.prog) (w := w) (base := base) F_pick T T_draw)
  have T_drawn_marks := calOf F_drawn_marks g_drawn_marks b_drawn_marks (ok_drawn_marks (P := l.prog) (w := w) (base := base) F_drawn_marks T T_draw T_pick)
  have T_drawn_contents := calOf F_drawn_contents g_drawn_contents b_drawn_contents (ok_drawn_contents (P := l.prog) (w := w) (base := base) F_drawn_contents T T_draw)
  have T_reserved := calOf F_reserved g_reserved b_reserved (ok_reserved (P := l.prog) (w := w) (base := base) F_reserved T)
  have T_one_word := calOf F_one_word g_one_word b_one_word (ok_one_word (P := l.prog) (w := w) (base := base) F_one_word T T_draw T_of T_reserved)
  have T_drawn_words := calOf F_drawn_words g_drawn_words b_drawn_words (ok_drawn_words (P := l.prog) (w := w) (base := base) F_drawn_words T T_one_word)
  have T_term := calOf F_term g_term b_term (ok_term (P := l.prog) (w := w) (base := base) F_term T T_draw T_of T_drawn_contents)
  have T_sum := calOf F_sum g_sum b_sum (ok_sum (P := l.prog) (w := w) (base := base) F_sum T T_of T_term)
  have T_binding := calOf F_binding g_binding b_binding (ok_binding (P := l.prog) (w := w) (base := base) F_binding T T_draw T_term T_sum)
  have T_plain_row := calOf F_plain_row g_plain_row b_plain_row (ok_plain_row (P := l.prog) (w := w) (base := base) F_plain_row T T_draw T_of T_term T_binding)
  have T_plains := calOf F_plains g_plains b_plains (ok_plains (P := l.prog) (w := w) (base := base) F_plains T T_draw T_binding T_plain_row)
  have T_test := calOf F_test g_test b_test (ok_test (P := l.prog) (w := w) (base := base) F_test T T_draw T_of T_term)
  have T_last := calOf F_last g_last b_last (ok_last (P := l.prog) (w := w) (base := base) F_last T T_draw T_term)
  have T_work := calOf F_work g_work b_work (ok_work (P := l.prog) (w := w) (base := base) F_work T T_draw T_test T_last T_plain_row)
  have T_drawn_parts := calOf F_drawn_parts g_drawn_parts b_drawn_parts (ok_drawn_parts (P := l.prog) (w := w) (base := base) F_drawn_parts T T_draw T_drawn_words T_plains T_work)
  have T_lwletters := calOf F_lwletters g_lwletters b_lwletters (ok_lwletters (P := l.prog) (w := w) (base := base) F_lwletters T)
  have T_make := calOf F_make g_make b_make (ok_make (P := l.prog) (w := w) (base := base) F_make T T_Program)
  have T_text := calOf F_text g_text b_text (ok_text (P := l.prog) (w := w) (base := base) F_text T)
  have T_same : CalG l.prog w K mg base 5 "_law_same" (spSameD K) := ⟨f_same, _, _, ok_sameD F_same T, g_same, F_same.kp, b_same⟩
  have T_right : CalG l.prog w K mg base 6 "_law_right" (spRightQ C_Program) := ⟨f_right, _, _, ok_right F_right T BP O_str T_Program_global_names T_Program_own_names T_Program_names T_Program_letters T_lwletters T_same, g_right, F_right.kp, b_right⟩
  exact ok_law F_law T T_numbers T_draw T_drawn_marks T_drawn_parts T_text T_make O_str T_PRead T_right

theorem walk {l : PySem.W.OpenLaw} {q : Program} {loose : List Str} {XP : (Str → Option Value) → Heap → Prop} {YP : World → Heap → Prop} {d : DefRec} {K : Params → PySem.W.Frag} (hn : l.most = some 63) (hdf : d.params.defaults = [])
    (hY : ∀ (w : World) (h : Heap), YP w h → (K w.params).In h)
    (F : ∀ (w : World) (mg : Str → Option Value) (fa : Addr) (h : Heap), (K w.params).In h → h.Ns mainGlobals mg → mg d.name = some (.ref fa) →
      ∃ fd : FuncData, (∀ (s : Shared) (u : Value), BindsTo s fd ⟨[u], []⟩ [("_law_script", u)]) ∧ ∀ base : Heap, (K w.params).In base → base.Ns mainGlobals mg → WB.FnG l.prog w (K w.params) mg base C8.CX0 12 fa fd ["_law_script"] (spLaw (K w.params))) :
    PySem.W.WalkO q loose XP YP l.row.toRowW d [] (fun f vs => PySem.call f vs) :=
  WB.walk_g (n := 63) (k := 12) (x := "_law_script") (sp := fun w => spLaw (K w.params)) hn (by decide) hdf ⟨rfl, by decide, by decide⟩ hY F (fun _ _ a ns hl _ hS => ⟨a, ns, rfl, hS, hl, fun _ => rfl⟩)

end W29
open PySem PySem.W PyProof.Rows in
set_option maxRecDepth 100000 in
set_option maxHeartbeats 0 in
theorem PySem.Challenge.cw_workerworlds_k29_programs_written_and_re_holds : PySem.Challenge.rw_workerworlds_k29_programs_written_and_re.Holds := by
  w_on; o_law; k_head; (case hw => w_witness2)
  k_fill
  refine W29.walk (l := PySem.Challenge.rw_workerworlds_k29_programs_written_and_re) rfl rfl (fun w h Y => PySem.W.kIn_of Y) ?F
  case F =>
    intro w mg fa h KX G hmg
    refine' W29.all_mk KX G hmg ?aC_Program ?aC_BadProgram ?aC_TooMany ?aC_BadText ?a_either ?l_either ?c_either ?k_either ?a_are_contents ?l_are_contents ?c_are_contents ?k_are_contents ?a_is_word ?l_is_word ?c_is_word ?k_is_word ?a_is_mark ?l_is_mark ?c_is_mark ?k_is_mark ?a_is_set ?l_is_set ?c_is_set ?k_is_set ?a_inside ?l_inside ?c_inside ?k_inside ?a_are_terms ?l_are_terms ?c_are_terms ?k_are_terms ?a_first_part ?l_first_part ?c_first_part ?k_first_part ?a_plain_form ?l_plain_form ?c_plain_form ?k_plain_form ?a_is_plain ?l_is_plain ?c_is_plain ?k_is_plain ?a_is_condition ?l_is_condition ?c_is_condition ?k_is_condition ?a_is_failing ?l_is_failing ?c_is_failing ?k_is_failing ?a_is_task_row ?l_is_task_row ?c_is_task_row ?k_is_task_row ?a_plain_marks ?l_plain_marks ?c_plain_marks ?k_plain_marks ?a_check_marks ?l_check_marks ?c_check_marks ?k_check_marks ?a_check_rows ?l_check_rows ?c_check_rows ?k_check_rows ?a_bound_behind ?l_bound_behind ?c_bound_behind ?k_bound_behind ?a_blocks_behind ?l_blocks_behind ?c_blocks_behind ?k_blocks_behind ?a_check_task ?l_check_task ?c_check_task ?k_check_task ?a_place_of ?l_place_of ?c_place_of ?k_place_of ?a_numbers ?l_numbers ?c_numbers ?k_numbers ?a_draw ?l_draw ?c_draw ?k_draw ?a_of ?l_of ?c_of ?k_of ?a_pick ?l_pick ?c_pick ?k_pick ?a_drawn_marks ?l_drawn_marks ?c_drawn_marks ?k_drawn_marks ?a_drawn_contents ?l_drawn_contents ?c_drawn_contents ?k_drawn_contents ?a_reserved ?l_reserved ?c_reserved ?k_reserved ?a_one_word ?l_one_word ?c_one_word ?k_one_word ?a_drawn_words ?l_drawn_words ?c_drawn_words ?k_drawn_words ?a_term ?l_term ?c_term ?k_term ?a_sum ?l_sum ?c_sum ?k_sum ?a_binding ?l_binding ?c_binding ?k_binding ?a_plain_row ?l_plain_row ?c_plain_row ?k_plain_row ?a_plains ?l_plains ?c_plains ?k_plains ?a_test ?l_test ?c_test ?k_test ?a_last ?l_last ?c_last ?k_last ?a_work ?l_work ?c_work ?k_work ?a_drawn_parts ?l_drawn_parts ?c_drawn_parts ?k_drawn_parts ?a_make ?l_make ?c_make ?k_make ?a_same ?l_same ?c_same ?k_same ?a_lwletters ?l_lwletters ?c_lwletters ?k_lwletters ?a_text ?l_text ?c_text ?k_text ?a_right ?l_right ?c_right ?k_right ?a_law ?l_law ?c_law ?k_law ?a_Program__init ?i_Program__init ?l_Program__init ?c_Program__init ?k_Program__init ?a_Program__str ?i_Program__str ?l_Program__str ?c_Program__str ?k_Program__str ?a_Program_global_names ?i_Program_global_names ?l_Program_global_names ?c_Program_global_names ?k_Program_global_names ?a_Program_own_names ?i_Program_own_names ?l_Program_own_names ?c_Program_own_names ?k_Program_own_names ?a_Program_names ?i_Program_names ?l_Program_names ?c_Program_names ?k_Program_names ?a_Program_letters ?i_Program_letters ?l_Program_letters ?c_Program_letters ?k_Program_letters ?stR ?rcR ?rdP ?tgP ?l_Program_read ?c_Program_read ?k_Program_read ?a_BadProgram__init ?i_BadProgram__init ?l_BadProgram__init ?c_BadProgram__init ?k_BadProgram__init ?a_TooMany__init ?i_TooMany__init ?l_TooMany__init ?c_TooMany__init ?k_TooMany__init ?a_BadText__init ?i_BadText__init ?l_BadText__init ?c_BadText__init ?k_BadText__init ?gM ?gLETTERS ?gLONGEST_WORD ?gMOST_MARKS ?gMOST_PLAIN_MARKS ?gMOST_PLAIN_ROWS ?gMOST_TASK_ROWS ?gMOST_GLOBALS ?gMOST_OWN_NAMES ?gMOST_NAMES ?gtR ?ltR ?gtS ?ltS ?gtC ?ltC ?z_len ?z_abs ?z_list ?z_int ?z_isinstance ?z_str ?z_range ?z_max ?z_min ?z_repr ?z_all ?z_tuple ?z_enumerate ?z_sorted ?z_set ?z_ValueError ?aC_WE ?pgProgram ?hd_Program ?poProgram ?saProgram ?mkProgram ?kcProgram ?noProgram0 ?noProgram1 ?noProgram2 ?noProgram3 ?noProgram4 ?noProgram5 ?xLBadProgram ?saBadProgram ?exBadProgram ?tyBadProgram ?kcBadProgram ?gaBadProgram ?ggBadProgram ?hd_BadProgram ?icBadProgram ?slBadProgram ?noBadProgram0 ?noBadProgram1 ?xLTooMany ?saTooMany ?exTooMany ?tyTooMany ?kcTooMany ?gaTooMany ?ggTooMany ?hd_TooMany ?icTooMany ?slTooMany ?noTooMany0 ?xLBadText ?saBadText ?exBadText ?tyBadText ?kcBadText ?gaBadText ?ggBadText ?hd_BadText ?icBadText ?slBadText ?noBadText0
    (case aC_Program => k_is)
    (case aC_BadProgram => k_is)
    (case aC_TooMany => k_is)
    (case aC_BadText => k_is)
    (case a_either => k_is)
    (case l_either => k_is)
    (case c_either => k_is)
    (case k_either => k_is)
    (case a_are_contents => k_is)
    (case l_are_contents => k_is)
    (case c_are_contents => k_is)
    (case k_are_contents => k_is)
    (case a_is_word => k_is)
    (case l_is_word => k_is)
    (case c_is_word => k_is)
    (case k_is_word => k_is)
    (case a_is_mark => k_is)
    (case l_is_mark => k_is)
    (case c_is_mark => k_is)
    (case k_is_mark => k_is)
    (case a_is_set => k_is)
    (case l_is_set => k_is)
    (case c_is_set => k_is)
    (case k_is_set => k_is)
    (case a_inside => k_is)
    (case l_inside => k_is)
    (case c_inside => k_is)
    (case k_inside => k_is)
    (case a_are_terms => k_is)
    (case l_are_terms => k_is)
    (case c_are_terms => k_is)
    (case k_are_terms => k_is)
    (case a_first_part => k_is)
    (case l_first_part => k_is)
    (case c_first_part => k_is)
    (case k_first_part => k_is)
    (case a_plain_form => k_is)
    (case l_plain_form => k_is)
    (case c_plain_form => k_is)
    (case k_plain_form => k_is)
    (case a_is_plain => k_is)
    (case l_is_plain => k_is)
    (case c_is_plain => k_is)
    (case k_is_plain => k_is)
    (case a_is_condition => k_is)
    (case l_is_condition => k_is)
    (case c_is_condition => k_is)
    (case k_is_condition => k_is)
    (case a_is_failing => k_is)
    (case l_is_failing => k_is)
    (case c_is_failing => k_is)
    (case k_is_failing => k_is)
    (case a_is_task_row => k_is)
    (case l_is_task_row => k_is)
    (case c_is_task_row => k_is)
    (case k_is_task_row => k_is)
    (case a_plain_marks => k_is)
    (case l_plain_marks => k_is)
    (case c_plain_marks => k_is)
    (case k_plain_marks => k_is)
    (case a_check_marks => k_is)
    (case l_check_marks => k_is)
    (case c_check_marks => k_is)
    (case k_check_marks => k_is)
    (case a_check_rows => k_is)
    (case l_check_rows => k_is)
    (case c_check_rows => k_is)
    (case k_check_rows => k_is)
    (case a_bound_behind => k_is)
    (case l_bound_behind => k_is)
    (case c_bound_behind => k_is)
    (case k_bound_behind => k_is)
    (case a_blocks_behind => k_is)
    (case l_blocks_behind => k_is)
    (case c_blocks_behind => k_is)
    (case k_blocks_behind => k_is)
    (case a_check_task => k_is)
    (case l_check_task => k_is)
    (case c_check_task => k_is)
    (case k_check_task => k_is)
    (case a_place_of => k_is)
    (case l_place_of => k_is)
    (case c_place_of => k_is)
    (case k_place_of => k_is)
    (case a_numbers => k_is)
    (case l_numbers => k_is)
    (case c_numbers => k_is)
    (case k_numbers => k_is)
    (case a_draw => k_is)
    (case l_draw => k_is)
    (case c_draw => k_is)
    (case k_draw => k_is)
    (case a_of => k_is)
    (case l_of => k_is)
    (case c_of => k_is)
    (case k_of => k_is)
    (case a_pick => k_is)
    (case l_pick => k_is)
    (case c_pick => k_is)
    (case k_pick => k_is)
    (case a_drawn_marks => k_is)
    (case l_drawn_marks => k_is)
    (case c_drawn_marks => k_is)
    (case k_drawn_marks => k_is)
    (case a_drawn_contents => k_is)
    (case l_drawn_contents => k_is)
    (case c_drawn_contents => k_is)
    (case k_drawn_contents => k_is)
    (case a_reserved => k_is)
    (case l_reserved => k_is)
    (case c_reserved => k_is)
    (case k_reserved => k_is)
    (case a_one_word => k_is)
    (case l_one_word => k_is)
    (case c_one_word => k_is)
    (case k_one_word => k_is)
    (case a_drawn_words => k_is)
    (case l_drawn_words => k_is)
    (case c_drawn_words => k_is)
    (case k_drawn_words => k_is)
    (case a_term => k_is)
    (case l_term => k_is)
    (case c_term => k_is)
    (case k_term => k_is)
    (case a_sum => k_is)
    (case l_sum => k_is)
    (case c_sum => k_is)
    (case k_sum => k_is)
    (case a_binding => k_is)
    (case l_binding => k_is)
    (case c_binding => k_is)
    (case k_binding => k_is)
    (case a_plain_row => k_is)
    (case l_plain_row => k_is)
    (case c_plain_row => k_is)
    (case k_plain_row => k_is)
    (case a_plains => k_is)
    (case l_plains => k_is)
    (case c_plains => k_is)
    (case k_plains => k_is)
    (case a_test => k_is)
    (case l_test => k_is)
    (case c_test => k_is)
    (case k_test => k_is)
    (case a_last => k_is)
    (case l_last => k_is)
    (case c_last => k_is)
    (case k_last => k_is)
    (case a_work => k_is)
    (case l_work => k_is)
    (case c_work => k_is)
    (case k_work => k_is)
    (case a_drawn_parts => k_is)
    (case l_drawn_parts => k_is)
    (case c_drawn_parts => k_is)
    (case k_drawn_parts => k_is)
    (case a_make => k_is)
    (case l_make => k_is)
    (case c_make => k_is)
    (case k_make => k_is)
    (case a_same => k_is)
    (case l_same => k_is)
    (case c_same => k_is)
    (case k_same => k_is)
    (case a_lwletters => k_is)
    (case l_lwletters => k_is)
    (case c_lwletters => k_is)
    (case k_lwletters => k_is)
    (case a_text => k_is)
    (case l_text => k_is)
    (case c_text => k_is)
    (case k_text => k_is)
    (case a_right => k_is)
    (case l_right => k_is)
    (case c_right => k_is)
    (case k_right => k_is)
    (case a_law => k_is)
    (case l_law => k_is)
    (case c_law => k_is)
    (case k_law => k_is)
    (case a_Program__init => k_is)
    (case i_Program__init => k_is)
    (case l_Program__init => k_is)
    (case c_Program__init => k_is)
    (case k_Program__init => k_is)
    (case a_Program__str => k_is)
    (case i_Program__str => k_is)
    (case l_Program__str => k_is)
    (case c_Program__str => k_is)
    (case k_Program__str => k_is)
    (case a_Program_global_names => k_is)
    (case i_Program_global_names => k_is)
    (case l_Program_global_names => k_is)
    (case c_Program_global_names => k_is)
    (case k_Program_global_names => k_is)
    (case a_Program_own_names => k_is)
    (case i_Program_own_names => k_is)
    (case l_Program_own_names => k_is)
    (case c_Program_own_names => k_is)
    (case k_Program_own_names => k_is)
    (case a_Program_names => k_is)
    (case i_Program_names => k_is)
    (case l_Program_names => k_is)
    (case c_Program_names => k_is)
    (case k_Program_names => k_is)
    (case a_Program_letters => k_is)
    (case i_Program_letters => k_is)
    (case l_Program_letters => k_is)
    (case c_Program_letters => k_is)
    (case k_Program_letters => k_is)
    (case stR => k_is)
    (case rcR => k_is)
    (case rdP => k_is)
    (case tgP => k_is)
    (case l_Program_read => k_is)
    (case c_Program_read => k_is)
    (case k_Program_read => k_is)
    (case a_BadProgram__init => k_is)
    (case i_BadProgram__init => k_is)
    (case l_BadProgram__init => k_is)
    (case c_BadProgram__init => k_is)
    (case k_BadProgram__init => k_is)
    (case a_TooMany__init => k_is)
    (case i_TooMany__init => k_is)
    (case l_TooMany__init => k_is)
    (case c_TooMany__init => k_is)
    (case k_TooMany__init => k_is)
    (case a_BadText__init => k_is)
    (case i_BadText__init => k_is)
    (case l_BadText__init => k_is)
    (case c_BadText__init => k_is)
    (case k_BadText__init => k_is)
    (case gM => k_is)
    (case gLETTERS => k_is)
    (case gLONGEST_WORD => k_is)
    (case gMOST_MARKS => k_is)
    (case gMOST_PLAIN_MARKS => k_is)
    (case gMOST_PLAIN_ROWS => k_is)
    (case gMOST_TASK_ROWS => k_is)
    (case gMOST_GLOBALS => k_is)
    (case gMOST_OWN_NAMES => k_is)
    (case gMOST_NAMES => k_is)
    (case gtR => k_is)
    (case ltR => k_is)
    (case gtS => k_is)
    (case ltS => k_is)
    (case gtC => k_is)
    (case ltC => k_is)
    (case z_len => k_is)
    (case z_abs => k_is)
    (case z_list => k_is)
    (case z_int => k_is)
    (case z_isinstance => k_is)
    (case z_str => k_is)
    (case z_range => k_is)
    (case z_max => k_is)
    (case z_min => k_is)
    (case z_repr => k_is)
    (case z_all => k_is)
    (case z_tuple => k_is)
    (case z_enumerate => k_is)
    (case z_sorted => k_is)
    (case z_set => k_is)
    (case z_ValueError => k_is)
    (case aC_WE => k_is)
    (case pgProgram => k_is)
    (case hd_Program => k_is)
    (case poProgram => k_is)
    (case saProgram => k_is)
    (case mkProgram => k_is)
    (case kcProgram => k_is)
    (case noProgram0 => k_is)
    (case noProgram1 => k_is)
    (case noProgram2 => k_is)
    (case noProgram3 => k_is)
    (case noProgram4 => k_is)
    (case noProgram5 => k_is)
    (case xLBadProgram => k_is)
    (case saBadProgram => k_is)
    (case exBadProgram => k_is)
    (case tyBadProgram => k_is)
    (case kcBadProgram => k_is)
    (case gaBadProgram => k_is)
    (case ggBadProgram => k_is)
    (case hd_BadProgram => k_is)
    (case icBadProgram => k_is)
    (case slBadProgram => k_is)
    (case noBadProgram0 => k_is)
    (case noBadProgram1 => k_is)
    (case xLTooMany => k_is)
    (case saTooMany => k_is)
    (case exTooMany => k_is)
    (case tyTooMany => k_is)
    (case kcTooMany => k_is)
    (case gaTooMany => k_is)
    (case ggTooMany => k_is)
    (case hd_TooMany => k_is)
    (case icTooMany => k_is)
    (case slTooMany => k_is)
    (case noTooMany0 => k_is)
    (case xLBadText => k_is)
    (case saBadText => k_is)
    (case exBadText => k_is)
    (case tyBadText => k_is)
    (case kcBadText => k_is)
    (case gaBadText => k_is)
    (case ggBadText => k_is)
    (case hd_BadText => k_is)
    (case icBadText => k_is)
    (case slBadText => k_is)
    (case noBadText0 => k_is)

