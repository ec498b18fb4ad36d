import PyProof.Rows.All
import Wide.All
import OpenK.AllK
import Wide.FinOn
import HandS.ForMost
import HandS.Wide
import HandS.IsInst
import HandS.SortInts
import HandS.Codes
import HandS.Walk
import HandS.Conv
import HandS.TupAny
import HandS.TupMul
import HandS.Style
import HandS.Lambda
import HandS.EndTab
import HandS.WordsExc
import KE.KExcInit
import KE.KSortedM
import HandS.Small
import HandS.More
import HandS.ListItems
import HandS.Zip
import PyProof.StrLaws
import HandS.DictComp
import HandS.Property
import HandS.ExcValue
import KE.KExcIs
import KE.KCallOwn
import HandS.OwnEq
import HandS.DictEq
import HandS.NamedTup0
import HandS.OwnIter
import HandS.IterVal
import HandS.List
import KE.KEqDict
import PySem.Challenge.RW_textmovers_k07_known_machines
import HandS.Star
import HandS.RaiseMore
import HandS.FStr
import KE.KOpsOwn
import KE.GoesMore
import PyProof.EnumMake
import HandS.Zip0
import KE.KEqSeq
import PyProof.StrLawsRepr
import PyProof.StrLawsIn
import HandS.EndOwn
import KE.KNest
set_option Elab.async false
set_option linter.all false
set_option maxRecDepth 100000
set_option maxHeartbeats 2000000
namespace My
open PySem PySem.Spec PyProof.Rows L2
/-- a ** n of ints of any size, together below 2 ^ 27 bits -/
def CPowB (i j : Int) : Prop := 0 ≤ j ∧ (Builtin.Int.intBits i : Int) * j ≤ 2 ^ 27
theorem op_powB {X : Cx} : OpR X (binaryOp .Pow) (rI CPowB fun i j => .int (i ^ j.toNat)) := opI fun _ _ _ _ _ _ _ hc q => pow_int hc.1 hc.2 q
/-! ### heaps -/
theorem Same.new {H H' : Hp} {p : Addr} {o : HO} (s : Same H H') (h : H' p = none) : Same H (upd H' p o) := fun b u e => by
  have q := s b u e
  rw [upd_ne (ne_of_none q h)]
  exact q
theorem same_new {H : Hp} {p : Addr} {o : HO} (h : H p = none) : Same H (upd H p o) := Same.new (Same.refl H) h
/-- a list that is being made is written again -/
theorem Same.lst {H : Hp} {D : Addr} {o : HO} (h : H D = none) : Same H (upd H D o) := same_new h
/-! ### comprehensions whose turns change nothing else -/
theorem take_snoc {α : Type} : ∀ {l : List α} {i : Nat} {x : α}, l[i]? = some x → l.take (i + 1) = l.take i ++ [x]
  | [], i, x, h => by simp at h
  | a :: l, 0, x, h => by
    have e : a = x := by simpa using h
    simp [e]
  | a :: l, i + 1, x, h => by
    have ih := take_snoc (l := l) (i := i) (x := x) (by simpa using h)
    simp [ih]
theorem tyes_if {σ : L2.St} {H : Hp} {F G : Hp → Prop} (h : F H) : tYes σ H (fun b H3 => if b = true then F H3 else G H3) := by
  show (if true = true then F H else G H)
  rw [if_pos rfl]
  exact h
theorem perm_erase {α : Type} : ∀ {l : List α} {i : Nat} (h : i < l.length), (l[i] :: l.eraseIdx i).Perm l
  | [], i, h => absurd h (by simp)
  | a :: l, 0, h => List.Perm.refl _
  | a :: l, i + 1, h => by
    have ih := perm_erase (l := l) (i := i) (by simpa using h)
    show ((l[i]'(by simpa using h)) :: a :: l.eraseIdx i).Perm (a :: l)
    exact (List.Perm.swap a _ _).trans (ih.cons a)
theorem wipe1 (σ : L2.St) (j : Nat) (v : Option V) : wipe ((wipe σ [j]).set j v) [j] = wipe σ [j] := by
  show ((σ.set j none).set j v).set j none = σ.set j none
  rw [List.set_set, List.set_set]
section
variable {J : It} {G : Hp → Prop} {xs : List V} {tt : TT} {te : TE} {σ : L2.St} {H1 : Hp} {D : Addr} {Qd : Hp → Prop} {j : Nat}
theorem lc_fm (w : Walk J xs.length G (YAt xs)) (p : V → Bool) (f : V → V) (hn : xs.length ≤ 100000) (hG : ∀ ys, G (upd H1 D (.lst ys)))
    (ht : ∀ x ∈ xs, ∀ ys (R : Bool → Hp → Prop), R (p x) (upd H1 D (.lst ys)) → tt ((wipe σ [j]).set j (some x)) (upd H1 D (.lst ys)) R)
    (he : ∀ x ∈ xs, p x = true → ∀ ys (R : VK), R (f x) (upd H1 D (.lst ys)) → te ((wipe σ [j]).set j (some x)) (upd H1 D (.lst ys)) R)
    (hd : Qd (upd H1 D (.lst ((xs.filter p).map f)))) :
    ∃ W : Nat → Nat → Hp → Prop, (∃ m, W 0 m (upd H1 D (.lst []))) ∧ ∀ i m H, W i m H →
      (J.stop i H ∧ Qd H) ∨ (J.go i H ∧ ∃ Nx : Hp → Prop, (∀ H', Nx H' → ∃ m', m' < m ∧ W (i + 1) m' H') ∧ ∀ x H', J.yld i H x H' → gName j x (wipe σ [j]) H' fun σ2 H2 => wipe σ2 [j] = wipe σ [j] ∧ tt σ2 H2 fun b H3 =>
        if b = true then te σ2 H3 fun y H4 => ∃ acc, H4 D = some (.lst acc) ∧ acc.length < sizeLine ∧ Nx (upd H4 D (.lst (acc ++ [y]))) else Nx H3) := by
  refine lc_it w (Pv := fun i H => H = upd H1 D (.lst (((xs.take i).filter p).map f))) rfl (fun i H _ e => by rw [e]; exact hG _) ?_ (fun H e => by rw [e, List.take_length]; exact hd)
  rintro i x H H' hi rfl ⟨rfl, hx⟩
  have hm : x ∈ xs := List.mem_of_getElem? hx
  have hs := take_snoc hx
  refine ⟨wipe1 σ j _, ht x hm _ _ ?_⟩
  have hlen : (((xs.take i).filter p).map f).length < sizeLine := by
    rw [List.length_map, sizeLine_eq]
    have := List.length_filter_le p (xs.take i)
    have := List.length_take_le i xs
    omega
  cases hp : p x with
  | true =>
    refine iteT (he x hm hp _ _ ⟨_, upd_same, hlen, ?_⟩)
    show upd (upd H1 D _) D _ = upd H1 D _
    rw [upd_upd, hs, List.filter_append, List.map_append]
    simp [hp]
  | false =>
    refine iteF ?_
    show upd H1 D _ = upd H1 D _
    rw [hs, List.filter_append, List.map_append]
    simp [hp]
/-- all are taken -/
theorem lc_m (w : Walk J xs.length G (YAt xs)) (f : V → V) (hn : xs.length ≤ 100000) (hG : ∀ ys, G (upd H1 D (.lst ys)))
    (he : ∀ x ∈ xs, ∀ ys (R : VK), R (f x) (upd H1 D (.lst ys)) → te ((wipe σ [j]).set j (some x)) (upd H1 D (.lst ys)) R)
    (hd : Qd (upd H1 D (.lst (xs.map f)))) :
    ∃ W : Nat → Nat → Hp → Prop, (∃ m, W 0 m (upd H1 D (.lst []))) ∧ ∀ i m H, W i m H →
      (J.stop i H ∧ Qd H) ∨ (J.go i H ∧ ∃ Nx : Hp → Prop, (∀ H', Nx H' → ∃ m', m' < m ∧ W (i + 1) m' H') ∧ ∀ x H', J.yld i H x H' → gName j x (wipe σ [j]) H' fun σ2 H2 => wipe σ2 [j] = wipe σ [j] ∧ tYes σ2 H2 fun b H3 =>
        if b = true then te σ2 H3 fun y H4 => ∃ acc, H4 D = some (.lst acc) ∧ acc.length < sizeLine ∧ Nx (upd H4 D (.lst (acc ++ [y]))) else Nx H3) :=
  lc_fm w (fun _ => true) f hn hG (fun _ _ _ _ r => r) (fun x hx _ => he x hx) (by rw [List.filter_eq_self.mpr (fun _ _ => rfl)]; exact hd)
end
/-- the signs of a text, each a text -/
def signs (z : Str) : List V := z.cps.toList.map fun c => .str ⟨#[c]⟩
theorem signs_len (z : Str) : (signs z).length = z.length := by simp [signs, Str.length]
theorem walk_signs {z : Str} : Walk (Its z) (signs z).length (fun _ => True) (YAt (signs z)) := by
  have w : Walk (Its z) z.cps.size (fun _ => True) (fun i H v H' => H' = H ∧ ∃ c, z.cps[i]? = some c ∧ v = .str ⟨#[c]⟩) := walk_str
  have e : (signs z).length = z.cps.size := by simp [signs]
  rw [e]
  refine w.mono (fun _ h => h) fun i H x H' hi _ ⟨h1, c, h2, h3⟩ => ⟨h1, ?_⟩
  unfold signs
  rw [List.getElem?_map, Array.getElem?_toList, h2, h3]
  rfl
/-- the ints lo, lo + 1, .. -/
def rng (lo : Int) (n : Nat) : List V := (List.range n).map fun (i : Nat) => .int (lo + i)
theorem rng_len (lo : Int) (n : Nat) : (rng lo n).length = n := by simp [rng]
theorem walk_rng {lo : Int} {n : Nat} : Walk (Itr lo n) (rng lo n).length (fun _ => True) (YAt (rng lo n)) := by
  rw [rng_len]
  refine walk_range.mono (fun _ h => h) fun i H x H' hi _ ⟨h1, h2⟩ => ⟨h1, ?_⟩
  unfold rng
  rw [List.getElem?_map, List.getElem?_range hi, h2]
  rfl
/-! ### rules told of a written part by its name -/
section
variable {X : Cx} (K : PySem.W.Frag)
theorem ixL (h : X.K = K := by rfl) : IxR X (rIxL K) := h ▸ ix_list
theorem ixT (h : X.K = K := by rfl) : IxR X (rIxT K) := h ▸ ix_tup
theorem ixU (h : X.K = K := by rfl) : IxR X (rIx K) := h ▸ ix_seq
theorem slL (h : X.K = K := by rfl) : SlR X (rSlL K) := h ▸ sl_list
theorem slT (h : X.K = K := by rfl) : SlR X (rSlA K) := h ▸ sl_tupA
def rLenS (K : PySem.W.Frag) : List V → Hp → VK → Prop := fun xs H Q => ∃ p ys, xs = [.ref p] ∧ (SqL K H p ys ∨ SqT K H p ys) ∧ Q (.int ys.length) H
theorem lenS (h : X.K = K := by rfl) : CallR X (.builtin "len") (rLenS K) := h ▸ call_len_seq
def rLenU (K : PySem.W.Frag) : List V → Hp → VK → Prop := fun xs H Q => ∃ x n, xs = [x] ∧ LenV K x H n ∧ Q (.int n) H
theorem lenU (h : X.K = K := by rfl) : CallR X (.builtin "len") (rLenU K) := h ▸ call_len
theorem sumK (hc : X.calm = true) (h : X.K = K := by rfl) : CallR X (.builtin "sum") (rSum K) := h ▸ cr_sum hc
theorem allK (hc : X.calm = true) (h : X.K = K := by rfl) : CallR X (.builtin "all") (rAll K) := h ▸ cr_all hc
def rListOf (K : PySem.W.Frag) : List V → Hp → VK → Prop := fun xs H Q => ∃ p ys, xs = [.ref p] ∧ (SqL K H p ys ∨ SqT K H p ys) ∧ ∀ l, H l = none → Q (.ref l) (upd H l (.lst ys))
theorem listK (h : X.K = K := by rfl) : CallR X (.type "list") (rListOf K) := h ▸ call_list_of
def rTupOf (K : PySem.W.Frag) : List V → Hp → VK → Prop := fun xs H Q => ∃ p ys, xs = [.ref p] ∧ ((SqL K H p ys ∧ ∀ l, H l = none → Q (.ref l) (upd H l (.tup ys))) ∨ (SqT K H p ys ∧ Q (.ref p) H))
theorem tupK (h : X.K = K := by rfl) : CallR X (.type "tuple") (rTupOf K) := h ▸ call_tuple_of
theorem isiK (h : X.K = K := by rfl) : CallR X (.builtin "isinstance") (rIsi K) := h ▸ call_isi
theorem inK (h : X.K = K := by rfl) : OpR X (compareOp .In) (rIn K false) := h ▸ op_in_seq
theorem notInK (h : X.K = K := by rfl) : OpR X (compareOp .NotIn) (rIn K true) := h ▸ op_notIn_seq
theorem eqK (hu : X.A.units + 64 < cLine) (h : X.K = K := by rfl) : OpR X (compareOp .Eq) (rEqD K) := h ▸ op_eqD hu
theorem neK (hu : X.A.units + 64 < cLine) (h : X.K = K := by rfl) : OpR X (compareOp .NotEq) (rNeD K) := h ▸ op_neD hu
theorem catT (h : X.K = K := by rfl) : OpR X (binaryOp .Add) (rCatA K) := h ▸ op_catA
theorem repT (h : X.K = K := by rfl) : OpR X (binaryOp .Mult) (rRepT K) := h ▸ op_repT
theorem piL {l tg : Expr} {tl : TE} (hl : PE X l tl) (h : X.K = K := by rfl) : PI X tg l (iList K tl) := h ▸ pi_list hl
theorem piT {l tg : Expr} {tl : TE} (hl : PE X l tl) (h : X.K = K := by rfl) : PI X tg l (iTup K tl) := h ▸ pi_tup hl
theorem bmK {T : String} {r : V → List V → Hp → VK → Prop} {id : String} {name : Str} {o e : Expr} {es : List Expr} {to : TE} {t : TA} {apos cpos : Pos} (pa : PlainAttrs T) (slot : Slot T name id) (hty : typeOf (.builtin id) = pure (.type "method_descriptor")) (hm : MtR X id r) (ho : PE X o to) (ha : PA X (e :: es) t)
    (h : X.K = K := by rfl) (hbase : attributeBase o name X.env (eval o X.env) = eval o X.env := by rfl)
    (hfew : ((backTo cpos (starEach (e :: es) X.env)).all (fun x => !x.1) && (backToKw cpos (keywordEach [] X.env)).all (fun x => x.1.isSome)
      && decide ((e :: es).length + ([] : List Keyword).length + (if ([] : List Keyword).isEmpty then 0 else 1) < 30)) = true := by rfl)
    (hline : (apos.endLine == cpos.line) = true := by rfl) (hs : starEach (e :: es) X.env = (false, eval e X.env) :: starEach es X.env := by rfl) (hplain : (backTo cpos (starEach es X.env)).any (·.1) = false := by rfl) :
    PE X (.Call (.Attribute o name apos) (e :: es) [] cpos) (tBM K T r to t) := h ▸ pe_bm pa slot hty hm ho ha hbase hfew hline hs hplain
end
/-! ### an expression, then a word on its value -/
def tCutE (t : TE) : TE := fun σ H Q => ∃ R : VK, t σ H R ∧ ∀ v H', R v H' → Q v H'
theorem pe_cut {X : Cx} {e : Expr} {t : TE} (he : PE X e t) : PE X e (tCutE t) := by
  refine ⟨fun pins s σ H Q I h => ?_⟩
  obtain ⟨R, h1, h2⟩ := h
  exact thn (he.run pins s σ H R I h1) fun u s1 ⟨v, H1, I1, r1, q1⟩ => ⟨v, H1, I1, r1, h2 v H1 q1⟩
/-! ### flat values as data -/
def dat : V → PyData
  | .bl b => .bool b
  | .int i => .int i
  | .str x => .str x
  | _ => .none
theorem Dp_flat {K : PySem.W.Frag} {H : Hp} {v : V} (h : flatV v = true) : Dp K H v (dat v) := by
  cases v with
  | non => exact .non
  | bl b => exact .bl b
  | int i => exact .int i
  | str x => exact .str x
  | byt b => cases h
  | flt b => cases h
  | ref a => cases h
  | ty n => cases h
theorem Dp_flats {K : PySem.W.Frag} {H : Hp} : ∀ {xs : List V}, xs.all flatV = true → DpAll K H xs (xs.map dat)
  | [], _ => .nil
  | x :: xs, h => by
    rw [List.all_cons, Bool.and_eq_true] at h
    exact .cons (Dp_flat h.1) (Dp_flats h.2)
/-- ascii -/
def asc : V → Bool
  | .str z => z.cps.toList.all fun c => decide (c < 128)
  | _ => true
theorem lay_flat {v : V} (h : asc v = true) : (dat v).canLay0 = true := by
  cases v with
  | str z =>
    have h : (z.cps.toList.all fun c => decide (c < 128)) = true := h
    show PyData.canLay0 (.str z) = true
    unfold PyData.canLay0 PyData.strOk
    rw [Array.all_eq_true']
    intro c hc
    have := of_decide_eq_true (List.all_eq_true.mp h c (by simpa using hc))
    simp
    omega
  | _ => rfl
theorem lay_flats : ∀ {xs : List V}, xs.all asc = true → PyData.canLayAll0 (xs.map dat) = true
  | [], _ => by unfold PyData.canLayAll0; rfl
  | x :: xs, h => by
    rw [List.all_cons, Bool.and_eq_true] at h
    show PyData.canLayAll0 (dat x :: xs.map dat) = true
    unfold PyData.canLayAll0
    rw [lay_flat h.1, lay_flats h.2] <;> rfl
theorem depth_flats : ∀ {xs : List V}, PyData.depthAll (xs.map dat) = 0
  | [] => by unfold PyData.depthAll; rfl
  | x :: xs => by
    show PyData.depthAll (dat x :: xs.map dat) = 0
    unfold PyData.depthAll
    rw [depth_flats]
    cases x <;> rfl
theorem shaped_lst {xs : List V} (h : xs.all asc = true) : SeqAt.shaped (.list (xs.map dat)) = true := by
  unfold SeqAt.shaped
  have e1 : PyData.canLay0 (.list (xs.map dat)) = true := by
    unfold PyData.canLay0
    exact lay_flats h
  have e2 : PyData.depth (.list (xs.map dat)) ≤ 64 := by
    unfold PyData.depth
    rw [depth_flats]
    decide
  rw [e1, decide_eq_true e2] <;> rfl
theorem shaped_tup {xs : List V} (h : xs.all asc = true) : SeqAt.shaped (.tuple (xs.map dat)) = true := by
  unfold SeqAt.shaped
  have e1 : PyData.canLay0 (.tuple (xs.map dat)) = true := by
    unfold PyData.canLay0
    exact lay_flats h
  have e2 : PyData.depth (.tuple (xs.map dat)) ≤ 64 := by
    unfold PyData.depth
    rw [depth_flats]
    decide
  rw [e1, decide_eq_true e2] <;> rfl
theorem eqv_dat {x y : V} (hx : flatV x = true) (hy : flatV y = true) : PyData.eqv (dat x) (dat y) = eqV x y := by
  cases x <;> cases y <;> first | rfl | (cases hx; done) | (cases hy; done) | (unfold PyData.eqv; rfl)
/-- two lists of flat values are equal -/
def eqVs : List V → List V → Bool
  | [], [] => true
  | x :: xs, y :: ys => eqV x y && eqVs xs ys
  | _, _ => false
theorem eqv_dats : ∀ {xs ys : List V}, xs.all flatV = true → ys.all flatV = true → PyData.eqvAll (xs.map dat) (ys.map dat) = eqVs xs ys
  | [], [], _, _ => by unfold PyData.eqvAll eqVs; rfl
  | [], y :: ys, _, _ => by show PyData.eqvAll [] (dat y :: ys.map dat) = _; unfold PyData.eqvAll eqVs; rfl
  | x :: xs, [], _, _ => by show PyData.eqvAll (dat x :: xs.map dat) [] = _; unfold PyData.eqvAll eqVs; rfl
  | x :: xs, y :: ys, hx, hy => by
    rw [List.all_cons, Bool.and_eq_true] at hx hy
    show PyData.eqvAll (dat x :: xs.map dat) (dat y :: ys.map dat) = _
    unfold PyData.eqvAll eqVs
    rw [eqv_dat hx.1 hy.1, eqv_dats hx.2 hy.2]
theorem eqv_lst {xs ys : List V} (hx : xs.all flatV = true) (hy : ys.all flatV = true) : PyData.eqv (.list (xs.map dat)) (.list (ys.map dat)) = eqVs xs ys := by
  unfold PyData.eqv
  exact eqv_dats hx hy
theorem eqVs_nil {xs : List V} : eqVs xs [] = xs.isEmpty := by
  cases xs <;> rfl
theorem eqVs_ints : ∀ {a b : List Int}, eqVs (a.map V.int) (b.map V.int) = decide (a = b)
  | [], [] => rfl
  | [], y :: ys => rfl
  | x :: xs, [] => rfl
  | x :: xs, y :: ys => by
    show ((x == y) && eqVs (xs.map V.int) (ys.map V.int)) = _
    rw [eqVs_ints]
    by_cases h : x = y
    · by_cases h2 : xs = ys
      · rw [h, h2]; simp
      · simp [h2]
    · simp [h]
/-- == of a list and a written or made list of flat values -/
theorem rEq_lst {K : PySem.W.Frag} {H : Hp} {a b : Addr} {xs ys : List V} {Q : VK} (ha : SqL K H a xs) (hb : SqL K H b ys) (fx : xs.all flatV = true) (fy : ys.all flatV = true) (ax : xs.all asc = true) (ay : ys.all asc = true)
    (q : Q (.bl (eqVs xs ys)) H) : rEqD K (.ref a) (.ref b) H Q :=
  ⟨_, _, .lst ha (Dp_flats fx), .lst hb (Dp_flats fy), shaped_lst ax, shaped_lst ay, by rw [eqv_lst fx fy]; exact q⟩
theorem rNe_lst {K : PySem.W.Frag} {H : Hp} {a b : Addr} {xs ys : List V} {Q : VK} (ha : SqL K H a xs) (hb : SqL K H b ys) (fx : xs.all flatV = true) (fy : ys.all flatV = true) (ax : xs.all asc = true) (ay : ys.all asc = true)
    (q : Q (.bl (!eqVs xs ys)) H) : rNeD K (.ref a) (.ref b) H Q :=
  ⟨_, _, .lst ha (Dp_flats fx), .lst hb (Dp_flats fy), shaped_lst ax, shaped_lst ay, by rw [eqv_lst fx fy]; exact q⟩
/-! ### the urn of draws -/
def UrnL (xs : List V) : Prop := ∃ g m c : Int, xs = [.int g, .int m, .int c] ∧ 0 ≤ g ∧ 0 ≤ m ∧ m < 2 ^ 61 ∧ 0 ≤ c
def UrnOk (H : Hp) (u : Addr) : Prop := ∃ xs, H u = some (.lst xs) ∧ UrnL xs
/-- u is drawn from, all else is as it was -/
def Drew (u : Addr) (H H' : Hp) : Prop := UrnOk H' u ∧ ∀ b o, b ≠ u → H b = some o → H' b = some o
theorem Drew.of {u : Addr} {H H' : Hp} (h : UrnOk H u) (s : Same H H') : Drew u H H' := by
  obtain ⟨xs, h1, h2⟩ := h
  exact ⟨⟨xs, s _ _ h1, h2⟩, fun b o _ e => s b o e⟩
theorem Drew.trans {u : Addr} {H H1 H2 : Hp} (a : Drew u H H1) (b : Drew u H1 H2) : Drew u H H2 := ⟨b.1, fun c o n e => b.2 c o n (a.2 c o n e)⟩
theorem Drew.same {u : Addr} {H H1 H2 : Hp} (a : Drew u H H1) (b : Same H1 H2) : Drew u H H2 := a.trans (Drew.of a.1 b)
theorem Drew.new {u p : Addr} {H H1 : Hp} {o : HO} (a : Drew u H H1) (h : H1 p = none) : Drew u H (upd H1 p o) := a.same (same_new h)
theorem Drew.free {u p : Addr} {H H' : Hp} (a : Drew u H H') (h : H' p = none) : H p = none := by
  cases q : H p with
  | none => rfl
  | some o =>
    obtain ⟨xs, h1, _⟩ := a.1
    have n : p ≠ u := fun z => by
      rw [z, h1] at h
      cases h
    rw [a.2 p o n q] at h
    cases h
theorem Drew.seq {K : PySem.W.Frag} {u a : Addr} {H H' : Hp} {xs : List V} (d : Drew u H H') (n : a ≠ u) (h : SqL K H a xs) : SqL K H' a xs := by
  rcases h with (h | ⟨o, h⟩) | h
  · exact .inl (.inl (d.2 _ _ n h))
  · exact .inl (.inr ⟨o, d.2 _ _ n h⟩)
  · exact .inr h
theorem Drew.seqT {K : PySem.W.Frag} {u a : Addr} {H H' : Hp} {xs : List V} (d : Drew u H H') (n : a ≠ u) (h : SqT K H a xs) : SqT K H' a xs := by
  rcases h with (h | ⟨o, h⟩) | h
  · exact .inl (.inl (d.2 _ _ n h))
  · exact .inl (.inr ⟨o, d.2 _ _ n h⟩)
  · exact .inr h
theorem UrnOk.ne {H : Hp} {u p : Addr} (h : UrnOk H u) (n : H p = none) : p ≠ u := fun z => by
  obtain ⟨xs, h1, _⟩ := h
  rw [z, h1] at n
  cases n
theorem get_map {ns : List Int} {i : Nat} (h : i < ns.length) : (ns.map V.int)[i]? = some (.int ns[i]) := by
  simp [h]
theorem cut_first (xs : List Int) : cutV (xs.map V.int) none (some 1) = (xs.take 1).map V.int := by
  cases xs with
  | nil => rfl
  | cons a l =>
    simp [cutV, HT.sIx]
    try omega
theorem pow_pos_ : (0 : Int) < (10 ^ (53 : Int).toNat) ^ (11 : Int).toNat := by decide +kernel
def spUrn (K : PySem.W.Frag) : Sp := fun vs H Q _ => ∃ (a : Addr) (ns : List Int) (k : Int), vs = [.ref a, .int k] ∧ SqL K H a (ns.map V.int) ∧ 0 ≤ k ∧
  ∀ H' p, Same H H' → H p = none → UrnOk H' p → Q (.ref p) H'
def spDip : Sp := fun vs H Q _ => ∃ (u : Addr) (t : Int), vs = [.ref u, .int t] ∧ UrnOk H u ∧ 0 < t ∧ t.natAbs < 2 ^ 8000 ∧
  ∀ H' r, Drew u H H' → 0 ≤ r → r < t → Q (.int r) H'
/-- an item of a list or a sign of a text is drawn -/
def spOneOf (K : PySem.W.Frag) : Sp := fun vs H Q _ => ∃ (u : Addr), UrnOk H u ∧
  ((∃ (a : Addr) (xs : List V), vs = [.ref u, .ref a] ∧ a ≠ u ∧ SqL K H a xs ∧ 0 < xs.length ∧ xs.length ≤ 1000000 ∧ ∀ H' x, Drew u H H' → x ∈ xs → Q x H') ∨
   (∃ z : Str, vs = [.ref u, .str z] ∧ 0 < z.length ∧ z.length ≤ 1000000 ∧ ∀ H' c, Drew u H H' → c ∈ z.cps.toList → Q (.str ⟨#[c]⟩) H'))
/-- a list's items in another order -/
def spShuffled (K : PySem.W.Frag) : Sp := fun vs H Q _ => ∃ (u a : Addr) (xs : List V), vs = [.ref u, .ref a] ∧ UrnOk H u ∧ a ≠ u ∧ SqL K H a xs ∧ xs.length ≤ 1000 ∧
  ∀ H' p ys, Drew u H H' → H p = none → H' p = some (.lst ys) → ys.Perm xs → Q (.ref p) H'
theorem small_abs {t : Int} {n : Nat} (h0 : 0 ≤ t) (h : t ≤ n) (hn : n < 2 ^ 8000) : t.natAbs < 2 ^ 8000 := by omega
theorem atI_of {xs : List V} {r : Int} (h0 : 0 ≤ r) (h1 : r < xs.length) : atI xs r = some (xs[r.toNat]'(by omega)) :=
  at_of (j := r.toNat) (by omega) (List.getElem?_eq_getElem (by omega))
theorem atC_of {xs : List Nat} {r : Int} (h0 : 0 ≤ r) (h1 : r < xs.length) : atI xs r = some (xs[r.toNat]'(by omega)) := by
  have e : ixN xs.length r = some r.toNat := by
    unfold ixN
    rw [if_pos h0, if_pos h1]
  unfold atI
  rw [e]
  exact List.getElem?_eq_getElem (by omega)
end My

set_option Elab.async false
set_option linter.all false
set_option maxRecDepth 100000
set_option maxHeartbeats 4000000
/-! ### the first field of a new exception of an own class over any built-in error -/
namespace PySem
namespace ExAny
open PySem.W PySem.Calls PyProof.Rows PySem.HandSPX
section
open Builtin Builtin.ObjectAttr
variable {prog : Program} {w : World} {A : Around} {E : Value → Shared → Prop} {R : Result → Shared → Prop} {hp : Heap} {g : Array GenState} {d : Drawn} {t : Nat} {os : OsState}
theorem first_field {B : String} {bmB : List Value} {K : Frag} {f : Str} {tk : Tok} {v : Value} {x C : Addr} {fv : Array Value} {cd : ClassData} (SF : StoreFacts B bmB "object.__setattr__" "object")
    (X : K.In hp) (ex : hp.get? x = some { cls := .ref C, data := .fields fv }) (ec : clsIn K C = some cd) (eh : cd.hasDict = true) (eo : excOver K C bmB = true) (no : findIn K (.ref C) f = some none)
    (q : ∀ h' tk' dx, (∀ b o, b ≠ x → hp.get? b = some o → h'.get? b = some o) → hp.objs.size ≤ dx → dx ≠ x → h'.get? x = some { cls := .ref C, dict := some dx, data := .fields fv } →
      h'.Ns1 dx (fun y => if y = f then some v else none) → R (.ok (.ret .none)) ⟨h', g, d, tk', os⟩) :
    codeAny (model prog w) A (.call (.builtin "object.__setattr__") ⟨[.ref x, .str f tk, v], []⟩) R ⟨hp, g, d, t, os⟩ := by
  have tk0 : takerIn K C f = some none := by
    unfold takerIn
    rw [no] <;> rfl
  have xs : x ≠ hp.objs.size := Nat.ne_of_lt (Heap.lt_size ex)
  refine osa_openX (s := ⟨hp, g, d, t, os⟩) SF X (⟨ex, rfl, rfl, trivial⟩ : InstAt hp x { cls := .ref C, data := .fields fv } C none) eo tk0 (fun b => ?_)
  have lc : Looks (model prog w) hp (classData C) cd := looks_clsIn X ec
  obtain ⟨nm, bs, mro, ns, qn, hd, sn, sb, ab, col, dl⟩ := cd
  dsimp only at eh
  subst eh
  show wpAny _ _ (storeInOwnDict (.ref x) (.ref C) (.str f tk) f v b) _ _ _
  unfold storeInOwnDict ownDictForStores
  repeat (first | with_reducible refine store_in_new ?_ ?_ | with_reducible refine wpAny_loadPart_at ex ?_ | with_reducible refine lc.at ?_ | wp_step)
  · exact ⟨_, #[], _, Eq.trans (Heap.get?_update_ne _ _ _ _ xs.symm) (Heap.get?_push_at rfl rfl), rfl, fun e he => absurd he (by simp), fun _ => rfl⟩
  · intro h' tk' n1 sb
    have e1 : (hp.push { cls := .type "dict", data := .dict #[] }).get? x = some { cls := .ref C, data := .fields fv } := Heap.get?_push_of_some _ ex
    refine q h' tk' hp.objs.size (fun b o nb ho => ?_) (Nat.le_refl _) xs.symm (Eq.trans (sb.2 x xs) (Heap.get?_update_self _ e1 rfl)) n1
    exact Eq.trans (sb.2 b (Nat.ne_of_lt (Heap.lt_size ho))) (Eq.trans (Heap.get?_update_ne _ _ _ _ nb) (Heap.get?_push_of_some _ ho))
end
end ExAny
end PySem

set_option Elab.async false
set_option linter.all false
set_option maxRecDepth 100000
set_option maxHeartbeats 4000000
namespace PySem
namespace ExInvalidNumber
abbrev bmInvalidNumber : List Value := [.type "IndexError", .type "LookupError", .type "Exception", .type "BaseException", .type "object"]
open PySem.W PySem.Calls PyProof.Rows PySem.HandSPX
/-! ### the text of __init__ -/
def iA (p1 p2 : Pos) : Arguments := { posonlyargs := [], args := [{ arg := "self", annotation := none, pos := p1 }, { arg := "value", annotation := none, pos := p2 }], vararg := none, kwonlyargs := [], kw_defaults := [], kwarg := none, defaults := [] }
def iB (q1 q2 q3 q4 : Pos) : List Stmt := [.Assign [.Attribute (.Name "self" q1) "value" q2] (.Name "value" q3) q4]
def iS : Scope := { kind := .function, names := [(PySem.Str.ofString "self", .local), (PySem.Str.ofString "value", .local)], isGenerator := false, isCoroutine := false, more := [] }
/-- what the written part says of Low, at C, and of its __init__, at fI -/
structure TxtInvalidNumber (K : Frag) (mg : Str → Option Value) (C fI : Addr) : Prop where
  gC : mg "InvalidNumber" = some (.ref C)
  cls : ∃ nm q N bs bm sn sub ab col dd k0 k1 k2 k3 k5, K.lookup C = some (excClassObj nm q C N bs bm true sn sub ab col dd k0 k1 k2 k3 k5 "IndexError.__new__") ∧ excTail bmInvalidNumber bm = true
  sa : findIn K (.ref C) "__setattr__" = some (some (.builtin "object.__setattr__"))
  ga : findIn K (.ref C) "__getattribute__" = some (some (.builtin "BaseException.__getattribute__"))
  gg : findIn K (.ref C) "__getattr__" = some none
  noN : findIn K (.ref C) "value" = some none
  iC : findIn K (.ref C) "__init__" = some (some (.ref fI))
  tC : typeIn K (.ref fI) = some (.type "function")
  kC : keepIn K (.ref C) = true
  exC : subIn K (.ref C) (.type "BaseException") = some true
  tyC : typeIn K (.ref C) = some (.type "type")
  hdC : hasDictIn K C = true
  te : exmOne K (.ref C) (.ref C) = some true
  fn : ∃ (oc : Value) (od : Option Addr) (doc pm : Value) (an : Option Addr) (cdv ct : Value) (osl : Array (Option Value)) (p1 p2 q1 q2 q3 q4 : Pos),
    K.lookup fI = some ⟨oc, od, .func (fnOf "__init__" "InvalidNumber.__init__" (iA p1 p2) (iB q1 q2 q3 q4) iS .none .none doc pm an cdv ct), osl⟩ ∧ codeIn K cdv "InvalidNumber.__init__" = true
theorem one_size (v : Value) : [v].length ≤ sizeLine := by
  rw [sizeLine_eq]
  exact (by decide : 1 ≤ 16777216)
theorem kept_but {K : Frag} {h h' : Heap} {x : Addr} (X : K.In h) (hx : K.lookup x = none) (k : ∀ b o, b ≠ x → h.get? b = some o → h'.get? b = some o) : K.In h' := fun a o e =>
  k a o (fun z => by rw [z, hx] at e; cases e) (X a o e)
theorem ldC {M : Model} {s : Shared} {name : Str} {scope : Scope} {L a : Addr} {cd : Value} {m : Str → Option Value} {x : Str} {pos : Pos} {v : Value} {Q : Value → Shared → Prop} {A : Around} {E : Value → Shared → Prop} (hn : s.heap.Ns L m) (hv : m x = some v) (h : Q v s)
    (hk : scope.kind = .function := by rfl) (hl : (envOfC name scope L a cd).kindOf x = some .local := by rfl) (hd : (x == ("__debug__" : Str)) = false := by decide) :
    wpAny M A (eval (.Name x pos) (envOfC name scope L a cd)) Q E s := wpAny_Name (wpAny_loadName_local hk hl hn hv h) hd
/-- what __init__ leaves of a fresh exception at x -/
structure InitEnd (h h' : Heap) (x C dx t1 : Addr) (v : Value) : Prop where
  keep : ∀ b o, b ≠ x → h.get? b = some o → h'.get? b = some o
  obj : h'.get? x = some { cls := .ref C, dict := some dx, data := .fields #[.ref t1, .none, .none, .none, .bool false, .none] }
  dbig : h.objs.size ≤ dx
  dne : dx ≠ x
  ns : h'.Ns1 dx (fun y => if y = "value" then some v else none)
/-- a made Low -/
structure OwnMade (h h' : Heap) (e C d : Addr) (v : Value) : Prop where
  keep : ∀ b o, h.get? b = some o → h'.get? b = some o
  new : h.objs.size ≤ e
  obj : ∃ oe vs, h'.get? e = some oe ∧ oe.cls = .ref C ∧ oe.dict = some d ∧ oe.data = .fields vs ∧ vs[1]? = some .none
  dbig : h.objs.size ≤ d
  dne : d ≠ e
  ns : h'.Ns1 d (fun y => if y = "value" then some v else none)
section
variable {prog : Program} {w : World} {A : Around} {E : Value → Shared → Prop} {R : Result → Shared → Prop} {s : Shared} {K : Frag} {mg : Str → Option Value} {C fI : Addr}
theorem init_InvalidNumber (T : TxtInvalidNumber K mg C fI) {x t0 : Addr} {v : Value} (X : K.In s.heap) (hlim : s.heap.NoLimit) (hx : s.heap.get? x = some (excO C t0)) (hnx : K.lookup x = none) (hroom : A.depth < recursionLimit)
    (hq : ∀ h' tk dx, InitEnd s.heap h' x C dx t0 v → R (.ok (.ret .none)) { s with heap := h', toks := tk }) :
    codeAny (model prog w) A (.call (.ref fI) ⟨[.ref x, v], []⟩) R s := by
  obtain ⟨oc, od, doc, pm, an, cdv, ct, osl, p1, p2, q1, q2, q3, q4, ho, hcd⟩ := T.fn
  obtain ⟨nm, q, N, bs, bm, sn, sub, ab, col, dd, k0, k1, k2, k3, k5, hC, hbm⟩ := T.cls
  have hcl : clsIn K C = some { name := nm, bases := bs, mro := .ref C :: bm, ns := N, qualname := q, hasDict := true, slotNames := sn, subclasses := sub, abstract := ab, collection := col, hasDel := false } := by unfold clsIn; rw [hC] <;> rfl
  refine Att.call_fn (binds := [("self", .ref x), ("value", v)]) X hlim ho hcd hroom (BindsTo.of_eq (by first | rfl | with_unfolding_all rfl)) (by first | rfl | decide | with_unfolding_all rfl) (fun s₁ IC => ?_) rfl rfl rfl
  obtain ⟨h₁, tk₁, rfl⟩ := IC.toInCall.same
  have k : ∀ b o, s.heap.get? b = some o → h₁.get? b = some o := IC.toInCall.keep
  have hn := IC.toInCall.ns
  have hxL : s.heap.objs.size ≠ x := Nat.ne_of_gt (Heap.lt_size hx)
  have X₁ : K.In h₁ := X.keeps k
  have hx₁ := k _ _ hx
  -- self.by = by
  show wpAny _ _ (execs _ _) _ _ _
  refine wpAny_execs_cons (plainObj_wpAny_Assign_Attribute ?_)
  refine ldC (v := v) hn (by first | rfl | with_unfolding_all rfl | kernel_rfl) (ldC (v := .ref x) hn (by first | rfl | with_unfolding_all rfl | kernel_rfl) ?_)
  refine set_plain X₁ (ox := excO C t0) (od := none) ⟨hx₁, rfl, rfl, trivial⟩ T.sa ?_
  have over : excOver K C bmInvalidNumber = true := by
    unfold excOver
    rw [hcl]
    show ((C == C) && excTail bmInvalidNumber bm) = true
    rw [hbm, beq_self_eq_true]
    rfl
  refine ExAny.first_field F.store_IndexError X₁ hx₁ hcl rfl over T.noN (fun h₃ tk₃ dx k₃ dn dne hx₃ hn₃ => ?_)
  show wpAny _ _ (execs _ _) _ _ _
  have z : s.heap.objs.size < h₁.objs.size := hn.lt
  exact wpAny_execs_nil (hq h₃ tk₃ dx ⟨fun b o hb e => k₃ b o hb (k b o e), hx₃, Nat.le_of_lt (Nat.lt_of_lt_of_le z dn), dne, hn₃⟩)
theorem made_InvalidNumber (T : TxtInvalidNumber K mg C fI) {v : Value} (X : K.In s.heap) (hlim : s.heap.NoLimit) (hroom : A.depth + 1 < recursionLimit)
    (hq : ∀ h' tk e d, OwnMade s.heap h' e C d v → R (.ok (.ret (.ref e))) { s with heap := h', toks := tk }) :
    codeAny (model prog w) A (.call (.ref C) ⟨[v], []⟩) R s := by
  obtain ⟨nm, q, N, bs, bm, sn, sub, ab, col, dd, k0, k1, k2, k3, k5, hC, hbm⟩ := T.cls
  obtain ⟨hp, g, dr, tk, os⟩ := s
  have k : ∀ b o, hp.get? b = some o → ((hp.push (kdv_tup [v])).push (excO C hp.objs.size)).get? b = some o := fun b o e => Heap.get?_push_of_some _ (Heap.get?_push_of_some _ e)
  have hget : ((hp.push (kdv_tup [v])).push (excO C hp.objs.size)).get? (hp.objs.size + 1) = some (excO C hp.objs.size) := by heap_get
  have hnx : K.lookup (hp.objs.size + 1) = none := by
    cases e : K.lookup (hp.objs.size + 1) with
    | none => rfl
    | some o =>
      have z : hp.get? (hp.objs.size + 1) = some o := X _ _ e
      exact absurd (Nat.lt_of_succ_lt (Heap.lt_size z)) (Nat.lt_irrefl _)
  refine call_own F.excBase_IndexError (fun X => excTail_contains X bm hbm) (X _ _ hC) (looks_findIn X T.iC) (fun self => bind_fn X self T.tC) (one_size v) ?_
  refine init_InvalidNumber (s := ⟨(hp.push (kdv_tup [v])).push (excO C hp.objs.size), g, dr, tk, os⟩) T (X.keeps k) (hlim.keeps k) hget hnx ?_ fun h' tk' dx ⟨k', hx, dn, dne, hns⟩ => ?_
  · show A.depth + 1 < recursionLimit
    exact hroom
  · have old : ∀ b o, hp.get? b = some o → h'.get? b = some o := fun b o e => k' b o (Nat.ne_of_lt (Nat.lt_succ_of_lt (Heap.lt_size e))) (k b o e)
    have z : hp.objs.size + 1 + 1 ≤ dx := by
      first
        | (simpa only [Heap.size_push] using dn)
        | exact dn
        | (have q := dn; rw [Heap.size_push, Heap.size_push] at q; exact q)
    exact ⟨rfl, hq h' tk' (hp.objs.size + 1) dx ⟨old, Nat.le_succ _, ⟨_, _, hx, rfl, rfl, rfl, rfl⟩, Nat.le_trans (Nat.le_trans (Nat.le_succ _) (Nat.le_succ _)) z, dne, hns⟩⟩
end
end ExInvalidNumber
end PySem
namespace L2
open PySem PySem.Spec PyProof.Rows
theorem relO_InvalidNumber {v : V} {v' : Value} (r : RelV v v') (f : Str) : RelO (List.lookup f [(("value" : Str), v)]) (if f = "value" then some v' else none) := by
  by_cases hw : f = "value"
  · subst hw
    rw [if_pos rfl]
    have q : List.lookup ("value" : Str) [(("value" : Str), v)] = some v := by simp [List.lookup]
    rw [q]
    exact r
  · rw [if_neg hw]
    have qw : (f == ("value" : Str)) = false := by simpa using hw
    have q2 : List.lookup f [(("value" : Str), v)] = none := by simp [List.lookup, qw]
    rw [q2]
    trivial
section
variable {X : Cx} {C fI : Addr}
/-- Low(e) -/
def tMkInvalidNumber (C : Addr) (ta : TA) : St → Hp → XK → Prop := fun σ H Q => ta σ H fun vs H1 => ∃ v, vs = [v] ∧ ∀ d, H1 d = none → Q (.ref C) (some d) (upd H1 d (.xd [(("value" : Str), v)]))
theorem pmk_InvalidNumber {a : Expr} {ta : TA} {p pos : Pos} {k : Nat} (T : PySem.ExInvalidNumber.TxtInvalidNumber X.K X.mg C fI) (hr : Room k X.A) (ha : PA X [a] ta) (hg : Gl X "InvalidNumber" := by rfl)
    (he : starEach (a :: []) X.env = (false, eval a X.env) :: starEach [] X.env := by rfl) (hpl : (backTo pos (starEach [] X.env)).any (·.1) = false := by rfl) :
    PMk X (.Call (.Name "InvalidNumber" p) [a] [] pos) (tMkInvalidNumber C ta) := by
  intro pins s σ H Q I h
  refine wpAny_Call_Name_kw (ld_glob I hg T.gC ?_)
  refine PySem.W.callWith_K (h₀ := X.base) I.ok.mod.kin T.kC (thn (ha.run pos pins s σ H _ I h) fun us s1 hh => ?_) he hpl
  obtain ⟨vs, H1, I1, r1, v, ev, q1⟩ := hh
  subst ev
  refine ⟨I1.kIn, ?_⟩
  cases r1 with
  | cons rv rn =>
    rename_i v' us'
    cases rn
    show wpAny _ _ (call (.ref C) [v']) _ _ _
    have hlim := I1.nolimit
    obtain ⟨hp, g, dr, tk, os⟩ := s1
    refine wpAny_call (PySem.ExInvalidNumber.made_InvalidNumber T I1.kIn hlim (by have := hr.dp; omega) fun h' tk' e d M => ?_)
    show MkP X pins σ Q (.ref e) ⟨h', g, dr, tk', os⟩
    obtain ⟨oe, fv, hoe, hc, hd, hdat, h1⟩ := M.obj
    have hns := M.ns
    obtain ⟨G', g1, g2⟩ := restrict h' fun b => decide (b ≠ e)
    have gk : ∀ b, b ≠ e → G'.get? b = h'.get? b := fun b hb => g1 b (decide_eq_true hb)
    have ge : G'.get? e = none := g2 e (by simp)
    have old : ∀ b o, hp.get? b = some o → G'.get? b = some o := fun b o q => (gk b (Nat.ne_of_lt (Nat.lt_of_lt_of_le (Heap.lt_size q) M.new))).trans (M.keep b o q)
    have ob : ObjOk X.prog X.w (upd H1 d (.xd [(("value" : Str), v)])) G' d (.xd [(("value" : Str), v)]) :=
      ⟨_, hns.at (fun o q => (gk d M.dne).trans q), fun f => relO_InvalidNumber rv f⟩
    have J : Inv X pins σ (upd H1 d (.xd [(("value" : Str), v)])) ⟨G', g, dr, tk', os⟩ := I1.laid (t' := tk') old M.dbig ob
    refine ⟨e, oe, fv, ⟨G', g, dr, tk', os⟩, _, .ref C, some d, rfl, J, fun b o q => ?_, ge, hoe, ⟨hc, hd⟩, hdat, h1, ?_, rfl, I1.bare, raises_own T.exC T.tyC, q1 d (I1.hok.fresh M.dbig)⟩
    · by_cases hb : b = e
      · have q' : G'.get? b = some o := q
        rw [hb, ge] at q'; cases q'
      · exact (gk b hb).symm.trans q
    · rw [upd_ne (Ne.symm M.dne)]
      exact I1.hok.fresh M.new
/-- raise Low(e) -/
def tRaiseInvalidNumber (C : Addr) (W : WX) (ta : TA) : TS := fun _ σ H => tMkInvalidNumber C ta σ H fun cls d H' => W cls d σ H'
theorem ps_raiseInvalidNumber {a : Expr} {ta : TA} {W : WX} {p pos pos2 : Pos} {k : Nat} (hc : X.calm = true) (T : PySem.ExInvalidNumber.TxtInvalidNumber X.K X.mg C fI) (hr : Room k X.A) (tk : Takes X W) (ha : PA X [a] ta) (hg : Gl X "InvalidNumber" := by rfl)
    (he : starEach (a :: []) X.env = (false, eval a X.env) :: starEach [] X.env := by rfl) (hpl : (backTo pos (starEach [] X.env)).any (·.1) = false := by rfl) :
    PS X (.Raise (some (.Call (.Name "InvalidNumber" p) [a] [] pos)) none pos2) (tRaiseInvalidNumber C W ta) := ps_raise hc tk (pmk_InvalidNumber T hr ha hg he hpl)
/-- low.by, low the exception that the suite holds (at a; its class cls, its dict d) -/
def tByInvalidNumber (C : Addr) (a : Addr) (cls : Value) (d : Option Addr) (te : TE) : TE := fun σ H Q => te σ H fun x H1 => x = .ref a ∧ cls = .ref C ∧ ∃ (dd : Addr) (v : V), d = some dd ∧ H1 dd = some (.xd [(("value" : Str), v)]) ∧ Q v H1
theorem pe_byInvalidNumber {a : Addr} {oe : Obj} {cls : Value} {d : Option Addr} {pn : List (Addr × Obj)} {e : Expr} {te : TE} {pos : Pos} (T : PySem.ExInvalidNumber.TxtInvalidNumber X.K X.mg C fI) (hz : Zc cls d oe) (hf : ∃ vs, oe.data = .fields vs) (he : PE (X.suite a ((a, oe) :: pn)) e te)
    (hb : attributeBase e "value" X.env (eval e X.env) = eval e X.env := by rfl) :
    PE (X.suite a ((a, oe) :: pn)) (.Attribute e "value" pos) (tByInvalidNumber C a cls d te) := by
  refine ⟨fun pins s σ H Q I h => ?_⟩
  refine attr_of hb (thn (he.run pins s σ H _ I h) fun u s1 hh => ?_)
  obtain ⟨x, H1, I1, rx, ex, ec, dd, v, ed, ea, q⟩ := hh
  subst ex
  obtain rfl : u = Value.ref a := rx
  subst ec
  subst ed
  obtain ⟨ha, _⟩ := I1.pin (a, oe) (List.mem_append_left _ List.mem_cons_self)
  obtain ⟨vs, hd⟩ := hf
  have hx : ObjOk X.prog X.w H1 s1.heap dd (.xd [(("value" : Str), v)]) := I1.hok dd _ ea
  obtain ⟨mA, hns, hr⟩ := hx
  obtain ⟨od, ho, hl⟩ := lookIn_ns hns
  have l : List.lookup ("value" : Str) [(("value" : Str), v)] = some v := by simp [List.lookup]
  obtain ⟨u, hu, ru⟩ := RelO.some_of (v := v) (o := mA "value") (by rw [← l]; exact hr "value")
  have J : PySem.W.InstAt s1.heap a oe C (some od) := ⟨ha, hz.1, by unfold PySem.W.notCls; rw [hd] <;> rfl, by rw [hz.2]; exact ho⟩
  exact HandSPX.exc_get I1.kIn J T.ga T.gg T.exC (PySem.W.findObj_own T.hdC T.noN rfl (by rw [hl, hu])) (handed_of ru) ⟨v, H1, I1.tok _, ru, q⟩
end
end L2



set_option Elab.async false
set_option linter.all false
set_option maxRecDepth 100000
set_option maxHeartbeats 4000000
/-! ### sorted(t), t a tuple of ints -/
namespace PyProof.Rows
open PySem PySem.Spec PySem.Calls
namespace TupSort
section
variable {prog : Program} {w : World} {A : Around} {E : Value → Shared → Prop} {s : Shared}
theorem collected {a : Addr} {o : Obj} {vs : List Value} {n : Nat} {Q : List Value → Shared → Prop} (e1 : s.heap.get? a = some o) (e2 : o.cls = .type "tuple") (e3 : o.data = .seq vs.toArray n) (e4 : vs.length ≤ sizeLine)
    (q : Q vs { s with heap := (s.heap.push (seqObj "list" #[] 0)).update s.heap.objs.size (Obj.mapSeq (· ++ vs.toArray)) }) : wpAny (model prog w) A (collect (.ref a)) Q E s := by
  unfold collect
  refine (wpAny_bind (wpAny_runValue (codeAny_builtin entry_proto_collect' ?_)))
  show wpAny _ _ (do again (.builtin "list.__iadd__" ⟨[← newList [], Value.ref a], []⟩)) _ _ s
  refine (wpAny_bind (wpAny_newList (wpAny_pure ⟨Code.quiet_builtin _ (by decide +kernel), codeAny_builtin entry_list_iadd' ?_⟩)))
  show wpAny _ _ (Builtin.List.listExtendWith (Value.ref s.heap.objs.size) (Value.ref a) (Value.ref s.heap.objs.size)) _ _ { s with heap := s.heap.push (seqObj "list" #[] 0) }
  unfold Builtin.List.listExtendWith
  have e5 : (s.heap.push (seqObj "list" #[] 0)).get? a = some o := Heap.get?_push_of_some _ e1
  refine wpAny_bind (wpAny_typeOf (T := "tuple") ⟨o, e5, e2⟩ ?_)
  rw [if_pos (by first | rfl | decide | simp)]
  refine wpAny_bind (listItems_at e5 e3 ?_)
  refine wpAny_bind (listItems_at (xs := #[]) (n := 0) (Heap.get?_push_size _ (by rfl)) (by rfl) ?_)
  rw [if_neg (fun z => by simp at z)]
  refine wpAny_bind (listUpdate_at (n := 0) (xs := #[]) (Heap.get?_push_size _ (by rfl)) (by rfl) ?_ (Nat.zero_le _) (by show (#[] ++ vs.toArray).size ≤ sizeLine + 1; simp only [Array.size_append, List.size_toArray, List.length_nil]; omega))
  refine (wpAny_pure ?_)
  show wpAny (model prog w) A (do
      let o ← load s.heap.objs.size
      match o.data with
      | Data.seq xs _ => pure xs.toList
      | _ => unsupported "internal:collect") Q E _
  refine wpAny_bind (wpAny_load (get?_update_seq (Heap.get?_push_size _ (by rfl)) _) ?_)
  show wpAny _ _ (pure ((#[] : Array Value) ++ vs.toArray).toList) Q E _
  have e6 : ((#[] : Array Value) ++ vs.toArray).toList = vs := by simp
  rw [e6]
  exact (wpAny_pure q)
theorem sortedT {a : Addr} {o : Obj} {vs : List Value} {ns : List Int} {n : Nat} {Q : Value → Shared → Prop} (e1 : s.heap.get? a = some o) (e2 : o.cls = .type "tuple") (e3 : o.data = .seq vs.toArray n) (hI : IntsAre vs ns) (h64 : vs.length < 64)
    (q : ∀ (out : Array Value) (ns' : List Int), IntsAre out.toList ns' → ns'.Perm ns → ns'.Pairwise (· ≤ ·) → Q (.ref (s.heap.objs.size + 1)) { s with heap := sortedAll s.heap vs out }) :
    wpAny (model prog w) A (call (.builtin "sorted") [.ref a]) Q E s := by
  refine (Calls.call_function_entry kind_sorted plain_sorted entry_sorted (args_sorted1 _) ?_)
  unfold Builtin.«sorted»
  refine (wpAny_bind (m := checkCount "sorted" 1 1 _) (wpAny_pure ?_))
  refine wpAny_bind (collected e1 e2 e3 (by rw [sizeLine_eq]; omega) ?_)
  refine (wpAny_bind (wpAny_newList ?_))
  have z1 : ((s.heap.push (seqObj "list" #[] 0)).update s.heap.objs.size (Obj.mapSeq (· ++ vs.toArray))).objs.size = s.heap.objs.size + 1 := by rw [Heap.size_update, size_push']
  have z2 : (((s.heap.push (seqObj "list" #[] 0)).update s.heap.objs.size (Obj.mapSeq (· ++ vs.toArray))).push (seqObj "list" vs.toArray 0)).get? (s.heap.objs.size + 1) = some (seqObj "list" vs.toArray 0) := by rw [← z1]; exact Heap.get?_push_size _ rfl
  show wpAny _ _ _ _ _ (Shared.mk (((s.heap.push (seqObj "list" #[] 0)).update s.heap.objs.size (Obj.mapSeq (· ++ vs.toArray))).push (seqObj "list" vs.toArray 0)) _ _ _ _)
  rw [z1]
  refine wpAny_bind (wpAny_holding (wpAny_call_entry slot_list_sort ⟨_, z2, rfl⟩ entry_list_sort (list_sort_tree z2 hI h64 fun out ns' b1 b2 b3 => ⟨_, rfl, ?_⟩) (args_list_sort _)))
  exact (wpAny_pure ⟨_, rfl, q out ns' b1 b2 b3⟩)
end
end TupSort
end PyProof.Rows
namespace My
open PySem PySem.Spec PyProof.Rows L2
def rSortT (K : PySem.W.Frag) : List V → Hp → VK → Prop := fun vs H Q => ∃ (a : Addr) (ns : List Int), vs = [V.ref a] ∧ SqT K H a (ns.map V.int) ∧ ns.length < 64 ∧
  ∀ (ns' : List Int) (p : Addr), ns'.Perm ns → ns'.Pairwise (· ≤ ·) → H p = none → Q (.ref p) (upd H p (.lst (ns'.map V.int)))
theorem sortT {X : Cx} (K : PySem.W.Frag) (hK : X.K = K := by rfl) : CallR X (.builtin "sorted") (rSortT K) := by
  subst hK
  intro pins s σ H vs us Q I r h
  obtain ⟨a, ns, rfl, hs, h64, q⟩ := h
  obtain ⟨its, rv, hl, _⟩ := I.tuple hs
  rw [Vals.ref1 r]
  obtain ⟨o, ho, hc, n, hd⟩ := hl
  have hi := rv.ints
  refine TupSort.sortedT ho hc hd hi (by rw [hi.length]; exact h64) fun out ns' h1 h2 h3 => ?_
  obtain ⟨ep, he'⟩ := PyProof.Rows.sortedAll_at s.heap its out
  refine ⟨.ref _, upd H (s.heap.objs.size + 1) (.lst (ns'.map V.int)), I.laid (t' := s.toks) (fun _ _ => PyProof.Rows.sortedAll_old) (Nat.le_succ _) ⟨?_, out.toList, ep, vals_of_ints h1, he'⟩, rfl, q ns' _ h2 h3 (I.hok.fresh (Nat.le_succ _))⟩
  rw [List.length_map, h2.length_eq, sizeLine_eq]
  omega
/-! ### an arrangement of 0, 1, .. -/
theorem perm_of_sub : ∀ {l ns : List Int}, l.Nodup → (∀ x ∈ l, x ∈ ns) → l.length = ns.length → l.Perm ns
  | [], ns, _, _, hl => by
    have e : ns = [] := List.eq_nil_of_length_eq_zero (by simpa using hl.symm)
    rw [e]
  | a :: l, ns, hn, hs, hl => by
    obtain ⟨h1, h2⟩ := List.nodup_cons.mp hn
    have ha : a ∈ ns := hs a List.mem_cons_self
    have p := List.perm_cons_erase ha
    have ih := perm_of_sub (l := l) (ns := ns.erase a) h2 (fun x hx => by
      have ne : x ≠ a := fun z => h1 (z ▸ hx)
      exact (List.mem_erase_of_ne ne).mpr (hs x (List.mem_cons_of_mem _ hx))) (by rw [List.length_erase_of_mem ha, ← hl]; simp)
    exact (ih.cons a).trans p.symm
def upto (n : Nat) : List Int := (List.range n).map fun (i : Nat) => (i : Int)
theorem upto_len (n : Nat) : (upto n).length = n := by simp [upto]
theorem mem_upto {n : Nat} {z : Int} : z ∈ upto n ↔ 0 ≤ z ∧ z < n := by
  unfold upto
  rw [List.mem_map]
  constructor
  · rintro ⟨i, hi, rfl⟩
    have := List.mem_range.mp hi
    omega
  · intro ⟨h0, h1⟩
    exact ⟨z.toNat, List.mem_range.mpr (by omega), by omega⟩
theorem upto_nodup (n : Nat) : (upto n).Nodup := by
  unfold upto
  rw [List.nodup_iff_pairwise_ne]
  exact List.Pairwise.map _ (fun a b h => by omega) (List.nodup_range (n := n))
theorem upto_up (n : Nat) : (upto n).Pairwise (· ≤ ·) := by
  unfold upto
  exact List.Pairwise.map _ (fun a b h => by omega) (List.pairwise_lt_range (n := n))
/-- sorted as 0, 1, .. just if as many and each is there -/
theorem sorted_upto {ns ns' : List Int} {n : Nat} (hp : ns'.Perm ns) (hu : ns'.Pairwise (· ≤ ·)) : decide (ns' = upto n) = (decide (ns.length = n) && (upto n).all fun l => decide (l ∈ ns)) := by
  by_cases h : ns.length = n ∧ ∀ l ∈ upto n, l ∈ ns
  · have p : (upto n).Perm ns := perm_of_sub (upto_nodup n) h.2 (by rw [upto_len, h.1])
    have e : ns' = upto n := PySem.W.ksm_same (hp.trans p.symm) hu (upto_up n)
    rw [decide_eq_true e, decide_eq_true h.1, Bool.true_and]
    exact (List.all_eq_true.mpr fun l hl => decide_eq_true (h.2 l hl)).symm
  · have ne : ¬ ns' = upto n := fun z => h ⟨by rw [← hp.length_eq, z, upto_len], fun l hl => hp.mem_iff.mp (z ▸ hl)⟩
    rw [decide_eq_false ne]
    cases q : (decide (ns.length = n) && (upto n).all fun l => decide (l ∈ ns)) with
    | false => rfl
    | true =>
      rw [Bool.and_eq_true, decide_eq_true_eq, List.all_eq_true] at q
      exact absurd ⟨q.1, fun l hl => of_decide_eq_true (q.2 l hl)⟩ h
end My

set_option Elab.async false
set_option linter.all false
set_option maxRecDepth 100000
set_option maxHeartbeats 4000000
/-! ### t[::-1], t a tuple; s * n, s a text -/
namespace PySem
namespace TupRev
open PySem.Spec PySem.Calls PyProof.Rows L2 HT
section
variable {prog : Program} {w : World} {A : Around} {E : Value → Shared → Prop} {s : Shared}
theorem adj (n : Nat) : Builtin.Slice.sliceAdjust none none (-1) (n : Int) = ((n : Int) - 1, -1) := by
  unfold Builtin.Slice.sliceAdjust
  first
    | rfl
    | simp
theorem plc (n : Nat) : Builtin.Slice.slicePlaces ((n : Int) - 1) (-1) (-1) = n := by
  unfold Builtin.Slice.slicePlaces
  have h1 : ¬ ((-1 : Int) > 0) := by decide
  rw [if_neg h1]
  split
  · have e : ((n : Int) - 1 - -1 - 1) / (- -1) = (n : Int) - 1 := by
      rw [show (- -1 : Int) = 1 by decide, Int.ediv_one]
      omega
    rw [e]
    omega
  · omega
theorem applied {sl : Addr} {vl vu vs : Value} {n : Nat} {Q : Int × Int × Nat → Shared → Prop} (hs : s.heap.IsSliceOf sl vl vu vs) (pl : IsPart vl none) (pu : IsPart vu none) (ps : IsPart vs (some (-1)))
    (h : Q ((n : Int) - 1, -1, n) s) : wpAny (model prog w) A (Builtin.Slice.sliceApplied (.ref sl) (pure (n : Int))) Q E s := by
  obtain ⟨os, o1, o2, o3⟩ := id hs
  unfold Builtin.Slice.sliceApplied Builtin.Slice.sliceFields
  refine wpAny_bind (wpAny_bind (wpAny_field o1 o3 (x := vl) rfl (wpAny_bind (wpAny_field o1 o3 (x := vu) rfl (wpAny_bind (wpAny_field o1 o3 (x := vs) rfl (wpAny_pure ?_)))))))
  refine wpAny_bind (slicePart_ ps ?_)
  show wpAny _ _ (if ((-1 : Int) == 0) = true then _ else _) _ _ s
  rw [if_neg (by decide)]
  refine wpAny_bind (slicePart_ pl (wpAny_bind (slicePart_ pu (wpAny_bind (wpAny_pure ?_)))))
  show wpAny _ _ (match Builtin.Slice.sliceAdjust none none (-1) (n : Int) with | (lo, hi) => pure (lo, (-1 : Int), Builtin.Slice.slicePlaces lo hi (-1))) _ _ s
  rw [adj n]
  show wpAny _ _ (pure ((n : Int) - 1, (-1 : Int), Builtin.Slice.slicePlaces ((n : Int) - 1) (-1) (-1))) _ _ s
  rw [plc]
  exact wpAny_pure h
theorem fm_congr {α β : Type} {f g : α → Option β} : ∀ {l : List α}, (∀ x ∈ l, f x = g x) → l.filterMap f = l.filterMap g
  | [], _ => rfl
  | a :: l, h => by
    rw [List.filterMap_cons, List.filterMap_cons, h a List.mem_cons_self, fm_congr fun x hx => h x (List.mem_cons_of_mem _ hx)]
theorem pick (xs : Array Value) : ((List.range xs.size).filterMap fun (m : Nat) => xs[((xs.size : Int) - 1 + (m : Int) * (-1)).toNat]?).toArray = xs.toList.reverse.toArray := by
  have e : (List.range xs.size).filterMap (fun (m : Nat) => xs[((xs.size : Int) - 1 + (m : Int) * (-1)).toNat]?) = (List.range xs.size).filterMap ((fun i => xs[i]?) ∘ fun k => xs.size - 1 - k) := by
    refine fm_congr fun m hm => ?_
    have := List.mem_range.mp hm
    have q : ((xs.size : Int) - 1 + (m : Int) * (-1)).toNat = xs.size - 1 - m := by omega
    rw [q]
    rfl
  rw [e, ← List.filterMap_map, PySem.W.krv_range, List.filterMap_reverse, PySem.W.krv_all]
theorem getItem_rev {t sl : Addr} {items : Array Value} {vl vu vs : Value} {Q : Value → Shared → Prop} (ht : IsTup s.heap t items) (hs : s.heap.IsSliceOf sl vl vu vs) (pl : IsPart vl none) (pu : IsPart vu none) (ps : IsPart vs (some (-1)))
    (h : Q (.ref s.heap.objs.size) { s with heap := s.heap.push { cls := .type "tuple", data := .seq items.toList.reverse.toArray } }) (hsz : items.size ≤ sizeLine) :
    wpAny (model prog w) A (getItem (.ref t) (.ref sl)) Q E s := by
  have hz : sizeOk (.seq items.toList.reverse.toArray) := by
    show items.toList.reverse.toArray.size ≤ sizeLine
    rw [List.size_toArray, List.length_reverse, Array.length_toList]
    exact hsz
  obtain ⟨os, o1, o2, o3⟩ := id hs
  have ty : s.TypeIs (.ref sl) "slice" := ⟨os, o1, o2⟩
  unfold getItem
  try with_reducible refine wpAny_holding ?_
  (first | refine wpAny_bind (wpAny_pure ?_) | skip)
  refine (wpAny_bind (wpAny_sequenceKey ht.typeIs (by decide) ?_))
  refine (wpAny_bind (wpAny_callSpecial?_slot (name := Str.ofString "__getitem__") ht.typeIs PyProof.Rows.slot_tuple_getitem (wpAny_call_entry PyProof.Rows.slot_tuple_getitem ht.typeIs entry_tuple_getitem ?_ (args_tuple_getitem _ _))))
  show wpAny _ _ (Builtin.Tuple.tupleItemsOf (.ref t) >>= _) _ _ s
  refine wpAny_bind (tupleItemsOf_ ht ?_)
  refine wpAny_bind (wpAny_typeOf ty ?_)
  rw [if_pos (by decide)]
  refine wpAny_bind (applied hs pl pu ps ?_)
  show wpAny _ _ (if (((items.size : Int) - 1 == 0) && ((-1 : Int) == 1) && (items.size == items.size)) = true then _ else _) _ _ s
  have no : ¬ ((((items.size : Int) - 1 == 0) && ((-1 : Int) == 1) && (items.size == items.size)) = true) := by
    rw [show ((-1 : Int) == 1) = false by decide, Bool.and_false, Bool.false_and]
    decide
  rw [if_neg no, pick]
  (first
    | exact wpAny_bind (m := Builtin.Tuple.tupleExact _) (wpAny_newObj_type (wpAny_pure ⟨_, rfl, wpAny_pure h⟩) hz)
    | exact wpAny_bind (m := Builtin.Tuple.tupleExact _) (wpAny_newObj_type (wpAny_bind (wpAny_pure (wpAny_pure ⟨_, rfl, wpAny_pure h⟩))) hz)
    | exact wpAny_bind (wpAny_bind (m := Builtin.Tuple.tupleExact _) (wpAny_newObj_type (wpAny_pure (wpAny_pure ⟨_, rfl, wpAny_pure h⟩)) hz))
    | exact wpAny_bind (wpAny_bind (m := Builtin.Tuple.tupleExact _) (wpAny_newObj_type (wpAny_pure ⟨_, rfl, wpAny_pure h⟩) hz)))
end
end TupRev
end PySem
namespace My
open PySem PySem.Spec PyProof.Rows L2
def tRevT (K : PySem.W.Frag) (te : TE) : TE := fun σ H Q => te σ H fun x H1 => ∃ a xs, x = .ref a ∧ SqT K H1 a xs ∧ ∀ p, H1 p = none → Q (.ref p) (upd H1 p (.tup xs.reverse))
theorem pe_sliceRev_T {X : Cx} (K : PySem.W.Frag) {e : Expr} {te : TE} {k : Nat} {p1 p2 p3 pos : Pos} (he : PE X e te) (hK : X.K = K := by rfl) : PE X (.Subscript e (.Slice none none (some (.UnaryOp .USub (.Constant (.int 1) k p1) p2)) p3) pos) (tRevT K te) := by
  subst hK
  refine ⟨fun pins s σ H Q I h => ?_⟩
  refine Subscript_ (thn (he.run pins s σ H _ I h) fun v s1 ⟨x, H1, I1, r1, q1⟩ => ?_)
  obtain ⟨a, xs, ex, hx, q⟩ := q1
  subst ex
  cases r1
  have st : PO X (some (.UnaryOp .USub (.Constant (.int 1) k p1) p2)) (tPart (tUn (rU fun i => .int (-i)) (tC (.int 1)))) := (po_some (pe_un un_neg pe_int))
  refine wpAny_Slice (thn (po_none.run pins s1 σ H1 (fun o H2 => o = none ∧ H2 = H1) I1 ⟨rfl, rfl⟩) fun vl s2 ⟨l, H2, I2, pl, el, e2⟩ => ?_)
  subst el e2
  refine thn (po_none.run pins s2 σ H2 (fun o H3 => o = none ∧ H3 = H2) I2 ⟨rfl, rfl⟩) fun vu s3 ⟨u, H3, I3, pu, eu, e3⟩ => ?_
  subst eu e3
  refine thn (st.run pins s3 σ H3 (fun o H4 => o = some (-1) ∧ H4 = H3) I3 ⟨1, rfl, -1, rfl, rfl, rfl⟩) fun vs s4 ⟨o, H4, I4, ps, eo, e4⟩ => ?_
  subst eo e4
  have J : Inv X pins σ H4 { s4 with heap := s4.heap.push { cls := .type "slice", data := .fields #[vl, vu, vs] } } := I4.kept (t' := s4.toks) fun b ob q => Heap.get?_push_of_some _ q
  obtain ⟨its, r, ht, hz⟩ := J.tuple hx
  have hl := r.length
  show wpAny (model X.prog X.w) X.A (subscriptTail e (.Slice none none (some (.UnaryOp .USub (.Constant (.int 1) k p1) p2)) p3) (.ref a) (.ref s4.heap.objs.size)) (EP X pins σ Q) X.xe { s4 with heap := s4.heap.push { cls := .type "slice", data := .fields #[vl, vu, vs] } }
  refine tail_any (ops := [.ref a, .ref s4.heap.objs.size]) ht.typeIs (PyProof.Rows.slot_tuple_getitem.lookup) ?_ (by with_unfolding_all rfl)
  refine TupRev.getItem_rev ht (Heap.IsSliceOf.new _ vl vu vs) pl pu ps ?_ (by rw [List.size_toArray]; omega)
  refine ⟨.ref _, _, J.laid (t' := s4.toks) (o := .tup xs.reverse) (fun b ob q => Heap.get?_push_of_some _ q) (Nat.le_refl _) ?_, rfl, q _ (J.hok.fresh (Nat.le_refl _))⟩
  exact ⟨by rw [List.length_reverse]; exact hz, _, r.reverse, IsTup.new _ _⟩
/-- s * n -/
def rRepS : R2 := fun x y H Q => ∃ (z : Str) (n : Int), x = .str z ∧ y = .int n ∧ 2 ≤ n ∧ n ≤ 1000 ∧ z.length = 1 ∧ ∀ z', z'.length = n.toNat → (∀ c ∈ z'.cps.toList, c ∈ z.cps.toList) → Q (.str z') H
theorem fold_app (l : List (Array Nat)) : ∀ a : Array Nat, (l.foldl (· ++ ·) a).toList = a.toList ++ (l.map Array.toList).flatten := by
  induction l with
  | nil => intro a; simp
  | cons x l ih =>
    intro a
    rw [List.foldl_cons, ih]
    simp
theorem op_rep_str {X : Cx} : OpR X (binaryOp .Mult) rRepS := by
  intro pins s σ H x y v u Q I rx ry h
  obtain ⟨z, n, rfl, rfl, h2, h3, hz, q⟩ := h
  obtain ⟨t, rfl⟩ := rx
  obtain ⟨t2, rfl⟩ := ry
  have e : (Txt.mul z n).cps.toList = (List.replicate n.toNat z.cps.toList).flatten := by
    unfold Txt.mul
    rw [if_neg (by omega), if_neg (by rw [hz]; simp; omega)]
    rw [fold_app]
    simp
  refine SB.mul (n := n) ⟨?_, fun _ _ => ?_, fun _ _ => ?_⟩ fun t' k => ⟨.str (Txt.mul z n), H, I.tok _, ⟨_, rfl⟩, q _ ?_ ?_⟩
  · rw [decide_eq_false (by omega), decide_eq_false (by omega)] <;> rfl
  · rw [hz]
    have : (1000 : Int) ≤ (2 ^ 63 - 1) / n := by
      rw [Int.le_ediv_iff_mul_le (by omega)]
      have : (1000 : Int) * n ≤ 1000 * 1000 := Int.mul_le_mul_of_nonneg_left h3 (by decide)
      omega
    omega
  · rw [hz]
    unfold Builtin.Str.tooLong
    rw [Nat.one_mul]
    refine decide_eq_false ?_
    have : n.toNat ≤ 1000 := by omega
    have := sizeLine_eq
    simp only [Nat.not_lt]
    omega
  · show (Txt.mul z n).cps.size = _
    rw [← Array.length_toList, e, List.length_flatten, List.map_replicate, List.sum_replicate_nat]
    have : z.cps.toList.length = 1 := by rw [Array.length_toList]; exact hz
    rw [this]
    omega
  · intro c hc
    rw [e] at hc
    obtain ⟨l, hl, hcl⟩ := List.mem_flatten.mp hc
    rw [(List.mem_replicate.mp hl).2] at hcl
    exact hcl
end My

set_option Elab.async false
set_option linter.all false
set_option maxRecDepth 100000
set_option maxHeartbeats 4000000
/-! defs that may say repr of a container: their callers have none under way -/
namespace My
open PySem PySem.Spec PyProof.Rows L2
theorem nox_of' {X : Cx} {B : List Stmt} {D : Ends} {σ : L2.St} {H : Hp} (h : ∃ t, PSs X.nox B t ∧ t D σ H) : ∃ t, PSs X B t ∧ t D σ H := by
  obtain ⟨t, h, q⟩ := h
  exact ⟨t, h.nox, q⟩
/-- FnOk where no repr is under way -/
structure FnG (P : Program) (w : World) (K : PySem.W.Frag) (mg : Str → Option Value) (base : Heap) (CX : CXT) (k : Nat) (g : Addr) (gd : FuncData) (ns : List Str) (sp : Sp) : Prop where
  many : ∀ vs H Q E, sp vs H Q E → vs.length = ns.length
  runs : ∀ (A : Around) (stk : List Env) (t : Shared) (H : Hp) (args : Args) (us : List Value) (vs : List V) (Q : VK) (E : XK), A.guards = some [] → Room k A → Env0 P w K mg base A stk t H → BindsTo t gd args (ns.zip us) → Vals vs us → sp vs H Q E →
    codeAny (model P w) A (.call (.ref g) args) (CR CX stk P w H t Q E) t
section
variable {P : Program} {w : World} {K : PySem.W.Frag} {mg : Str → Option Value} {base : Heap} {CX : CXT} {k j : Nat} {g : Addr} {gd : FuncData} {ns : List Str} {sp : Sp}
theorem FnG.of (F : FnOk P w K mg base CX k g gd ns sp) : FnG P w K mg base CX k g gd ns sp := ⟨F.len, fun A stk t H args us vs Q E _ => F.run A stk t H args us vs Q E⟩
theorem FnG.up (F : FnG P w K mg base CX j g gd ns sp) (h : j ≤ k) : FnG P w K mg base CX k g gd ns sp := ⟨F.many, fun A stk t H args us vs Q E hg hr => F.runs A stk t H args us vs Q E hg (hr.mono h)⟩
theorem FnG.imp {sp' : Sp} (F : FnG P w K mg base CX k g gd ns sp) (h : ∀ vs H Q E, sp' vs H Q E → sp vs H Q E) : FnG P w K mg base CX k g gd ns sp' :=
  ⟨fun vs H Q E z => F.many vs H Q E (h vs H Q E z), fun A stk t H args us vs Q E hg hr e0 hb r z => F.runs A stk t H args us vs Q E hg hr e0 hb r (h vs H Q E z)⟩
/-- a def by its body; what it raises leaves it -/
theorem fun_g {x qual : Str} {st : Stmt} {N : List Str} (F : L2.Fun K x qual st g gd) (S : FnScope N ns (L2.defScope st)) (many : ∀ vs H Q E, sp vs H Q E → vs.length = ns.length)
    (body : ∀ (cdv : Value) (A : Around) (stk : List Env) (t : Shared) (H : Hp) (vs : List V) (Q : VK) (E : XK), A.guards = some [] → Room k (A.deeper (envOfC qual (L2.defScope st) t.heap.objs.size g cdv)) → sp vs H Q E →
      ∃ r, PSs (cxOf CX P w K mg base N qual (L2.defScope st) g cdv A stk t H E) (L2.defBody st) r ∧ r { nx := fun _ H' => Q .non H', rt := Q } (L2.start N vs) H) : FnG P w K mg base CX (k + 1) g gd ns sp := by
  obtain ⟨oc, od, kV, doc, pm, an, cdv, ct, osl, rfl, lk, hcd⟩ := F.ex
  exact ⟨many, fun A stk t H args us vs Q E hg hr e0 hb r h => LamX.run_ofS lk hcd S hr e0 hb r (many _ _ _ _ h) fun hr' => body cdv A stk t H vs Q E hg hr' h⟩
/-- .. that raises nothing -/
theorem fun_g0 {x qual : Str} {st : Stmt} {N : List Str} (F : L2.Fun K x qual st g gd) (S : FnScope N ns (L2.defScope st)) (many : ∀ vs H Q E, sp vs H Q E → vs.length = ns.length)
    (body : ∀ (cdv : Value) (A : Around) (stk : List Env) (t : Shared) (H : Hp) (vs : List V) (Q : VK) (E : XK), A.guards = some [] → Room k (A.deeper (envOfC qual (L2.defScope st) t.heap.objs.size g cdv)) → sp vs H Q E →
      ∃ r, PSs (cxOf CX0 P w K mg base N qual (L2.defScope st) g cdv A stk t H E).nox (L2.defBody st) r ∧ r { nx := fun _ H' => Q .non H', rt := Q } (L2.start N vs) H) : FnG P w K mg base CX0 (k + 1) g gd ns sp :=
  fun_g F S many fun cdv A stk t H vs Q E hg hr h => nox_of' (body cdv A stk t H vs Q E hg hr h)
end
section
variable {X : Cx} {CX : CXT} {k : Nat} {g C : Addr} {gd : FuncData} {ns : List Str} {sp : Sp} {E : XK} {x m : Str} {p pos apos : Pos} {e o : Expr} {es : List Expr} {ta : TE} {t : TA}
/-- such a def is run -/
theorem run_g {pins : List (Addr × Obj)} {σ : L2.St} {H : Hp} {s : Shared} {Q : VK} {us : List Value} {vs : List V} (F : FnG X.prog X.w X.K X.mg X.base CX k g gd ns sp) (hg : X.A.guards = some []) (hr : Room k X.A) (hb : Binds X.K gd ns []) (hx : Passes CX X E)
    (I : Inv X pins σ H s) (r : Vals vs us) (h : sp vs H Q E) : wpAny (model X.prog X.w) X.A (call (.ref g) us) (EP X pins σ Q) X.xe s := by
  have hl : (us ++ []).length = ns.length := by rw [List.append_nil, ← r.length]; exact F.many _ _ _ _ h
  have b := hb s us I.kIn hl
  rw [List.append_nil] at b
  refine wpAny_call (codeAny_mono (F.runs X.A X.stack s H ⟨us, []⟩ us vs Q E hg hr I.env0 b r h) fun z s' hq => ?_)
  match z, hq with
  | .error e, hq => exact hx pins σ H s e s' I hq
  | .ok (.ret u), hq => exact I.after hq
  | .ok .next, hq => exact hq.elim
  | .ok .brk, hq => exact hq.elim
  | .ok .cont, hq => exact hq.elim
/-- f(e, ..) -/
theorem pe_callG (F : FnG X.prog X.w X.K X.mg X.base CX k g gd ns sp) (hg : X.A.guards = some []) (hr : Room k X.A) (gl : Gl X x) (hm : X.mg x = some (.ref g)) (kp : PySem.W.keepIn X.K (.ref g) = true) (hb : Binds X.K gd ns []) (hx : Passes CX X E)
    (ha : PA X (e :: es) t) (nd : (x == ("__debug__" : Str)) = false := by decide) (se : starEach (e :: es) X.env = (false, eval e X.env) :: starEach es X.env := by rfl) (np : (backTo pos (starEach es X.env)).any (·.1) = false := by rfl) :
    PE X (.Call (.Name x p) (e :: es) [] pos) (tCall sp [] E t) := by
  constructor
  intro pins s σ H Q I h
  refine wpAny_Call_Name_kw (ld_glob I gl hm ?_ nd)
  refine PySem.W.callWith_K (h₀ := X.base) I.ok.mod.kin kp (thn (ha.run pos pins s σ H _ I h) fun us s1 q => ?_) se np
  obtain ⟨vs, H1, I1, r, q⟩ := q
  rw [List.append_nil] at q
  exact ⟨I1.kIn, run_g F hg hr hb hx I1 r q⟩
/-- repr of data of any kind, where no repr is under way -/
def rReprV (K : PySem.W.Frag) : List V → Hp → VK → Prop := fun xs H Q => ∃ (v : V) (d : PyData), xs = [v] ∧ Dp K H v d ∧ d.showable = true ∧ d.hasDict = false ∧ d.depth ≤ 8 ∧ d.shown.length ≤ sizeLine ∧ Q (.str d.shown) H
theorem reprV (K : PySem.W.Frag) (hg : X.A.guards = some []) (hu : X.A.units + 64 < cLine) (hK : X.K = K := by rfl) : CallR X (.builtin "repr") (rReprV K) := by
  subst hK
  intro pins s σ H xs us Q I r h
  obtain ⟨v, d, rfl, hd, h1, h2, h3, h4, q⟩ := h
  cases r with
  | cons rx rn =>
    cases rn
    have rd0 := Dp.reads I d _ _ hd rx
    cases v with
    | ref a =>
      obtain rfl := (rx : _ = Value.ref a)
      obtain ⟨as, rd⟩ := rd0
      exact PySem.repr_of_reads' rd h1 (fun z => by rw [h2] at z; cases z) hg (by omega) (fun _ _ e => e) (fun h' u tk kp => ⟨.str d.shown, H, I.kept (t' := tk) kp, ⟨u, rfl⟩, q⟩) h4
    | int n =>
      obtain ⟨t, rfl⟩ := (rx : ∃ t, _ = Value.int n t)
      cases hd
      exact PySem.P.repr_of_int (of_decide_eq_true (show decide (n.natAbs.log2 < 1920) = true by simpa only [PyData.showable] using h1)) ⟨.str _, H, I.tok _, ⟨_, rfl⟩, by simpa only [PyData.shown] using q⟩
    | str z =>
      obtain ⟨t, rfl⟩ := (rx : ∃ t, _ = Value.str z t)
      cases hd
      exact PySem.P.repr_of_str ⟨.str _, H, I.tok _, ⟨_, rfl⟩, by simpa only [PyData.shown] using q⟩ (by simpa only [PyData.shown] using h4)
    | bl b =>
      obtain rfl := (rx : _ = Value.bool b)
      cases hd
      exact PySem.P.repr_of_bool ⟨.str _, H, I.tok _, ⟨_, rfl⟩, by simpa only [PyData.shown] using q⟩
    | non =>
      obtain rfl := (rx : _ = Value.none)
      cases hd
      exact PySem.P.repr_of_none ⟨.str _, H, I.tok _, ⟨_, rfl⟩, by simpa only [PyData.shown] using q⟩
    | byt b => cases hd
    | flt b => cases hd
    | ty n => cases hd
end
end My

set_option Elab.async false
set_option linter.all false
set_option maxRecDepth 100000
set_option maxHeartbeats 4000000
/-! plain machines of the laws: a dict of letters, turns and nexts -/
namespace My
open PySem PySem.Spec PyProof.Rows L2
theorem dictK {X : Cx} (K : PySem.W.Frag) (hc : X.calm = true) (h : X.K = K := by rfl) : CallR X (.type "dict") (fun xs H Q => ∃ (a : Addr) (ps : List Addr) (kvs : List (Key × V)), xs = [.ref a] ∧ SqL K H a (ps.map V.ref) ∧ Paired (fun p kv => SqT K H p [kV kv.1, kv.2]) ps kvs ∧ ∀ p, H p = none → Q (.ref p) (upd H p (.dK (mergeK [] kvs)))) := h ▸ call_dictP hc
theorem enumK {X : Cx} (K : PySem.W.Frag) {e : Expr} {ta : TA} {p pos tpos : Pos} {elts : List Expr} {kk : Nat} (hg : Gl X "enumerate") (hm : X.mg "enumerate" = none) (ha : PA X [e] ta) (h : X.K = K := by rfl) (hs : starEach [e] X.env = [(false, eval e X.env)] := by rfl) :
    PI X (.Tuple elts kk tpos) (.Call (.Name "enumerate" p) [e] [] pos) (iEnum K ta) := h ▸ pi_enum hg hm ha hs
theorem zipK {X : Cx} (K : PySem.W.Frag) {e e2 : Expr} {ta : TA} {p pos tpos : Pos} {elts : List Expr} {kk : Nat} (hg : Gl X "zip") (hm : X.mg "zip" = none) (ha : PA X [e, e2] ta) (h : X.K = K := by rfl)
    (hs : starEach [e, e2] X.env = (false, eval e X.env) :: starEach [e2] X.env := by rfl) (hpl : (backTo pos (starEach [e2] X.env)).any (·.1) = false := by rfl) :
    PI X (.Tuple elts kk tpos) (.Call (.Name "zip" p) [e, e2] [] pos) (iZip K ta) := h ▸ pi_zip hg hm ha hs hpl
theorem perm_back {α : Type} {f : α → V} (g : V → α) (hg : ∀ a, g (f a) = a) {ys : List V} {l : List α} (h : ys.Perm (l.map f)) : ∃ ns : List α, ys = ns.map f ∧ ns.Perm l := by
  refine ⟨ys.map g, ?_, ?_⟩
  · rw [List.map_map]
    refine ((List.map_congr_left fun y hy => ?_).trans (List.map_id ys)).symm
    obtain ⟨a, _, rfl⟩ := List.mem_map.mp (h.mem_iff.mp hy)
    show f (g (f a)) = f a
    rw [hg]
  · have q := h.map g
    rw [List.map_map] at q
    exact (List.map_congr_left (fun a _ => hg a) |>.trans (List.map_id l)) ▸ q
def unI : V → Int
  | .int i => i
  | _ => 0
def unS : V → Str
  | .str z => z
  | _ => ""
theorem rg_upto (n : Nat) : rgV 0 (n : Int) = (upto n).map V.int := by
  have e : ((n : Int) - 0).toNat = n := by omega
  simp only [rgV, upto, List.map_map, e]
  exact List.map_congr_left fun i _ => by simp
/-- a turn of n letters, drawn -/
def spTurnOf : Sp := fun vs H Q _ => ∃ (u : Addr) (n : Nat), vs = [.ref u, .int n] ∧ UrnOk H u ∧ n ≤ 60 ∧
  ∀ (H' : Hp) (p : Addr) (ns : List Int), Drew u H H' → H p = none → H' p = some (.tup (ns.map V.int)) → ns.Perm (upto n) → Q (.ref p) H'
theorem take_cap {α : Type} (l : List α) (k : Nat) : l.take (min k l.length) = l.take k := by
  rcases Nat.le_total k l.length with h | h
  · rw [Nat.min_eq_left h]
  · rw [Nat.min_eq_right h, List.take_length, List.take_of_length_le h]
theorem cut_to {α : Type} {f : α → V} {l : List α} {k : Nat} : cutV (l.map f) none (some (k : Int)) = (l.take k).map f := by
  unfold cutV
  rw [HT.sIx_nat, HT.sIx_none, List.drop_zero, Nat.sub_zero, ← List.map_take, List.length_map, take_cap]
theorem cut_mid {α : Type} {f : α → V} {l : List α} {i k : Nat} (h : i ≤ l.length) : cutV (l.map f) (some (i : Int)) (some ((i + k : Nat) : Int)) = ((l.drop i).take k).map f := by
  unfold cutV
  rw [HT.sIx_nat, HT.sIx_nat, List.length_map, Nat.min_eq_left h, ← List.map_drop, ← List.map_take]
  congr 1
  have e : (l.drop i).length = l.length - i := List.length_drop
  rw [← take_cap (l.drop i) k, e]
  congr 1
  omega
theorem merge1 {k : Key} {a : V} : mergeK [] [(k, a)] = [(k, a)] := rfl
theorem merge3 {k l m : Key} {a b c : V} (h1 : k ≠ l) (h2 : k ≠ m) (h3 : l ≠ m) : mergeK [] [(k, a), (l, b), (m, c)] = [(k, a), (l, b), (m, c)] := by
  simp [mergeK, putK, h1, h2, h3]
theorem keys_apart : (Sum.inr "letters" : Key) ≠ .inr "turns" ∧ (Sum.inr "letters" : Key) ≠ .inr "nexts" ∧ (Sum.inr "turns" : Key) ≠ .inr "nexts" := by decide +kernel
theorem rep_flat {α : Type} (z : α) : ∀ n : Nat, (List.replicate n [z]).flatten = List.replicate n z
  | 0 => rfl
  | n + 1 => by rw [List.replicate_succ, List.replicate_succ, List.flatten_cons, rep_flat z n]; rfl
theorem same_put {H H' : Hp} {a : Addr} {o : HO} (s : Same H H') (n : H a = none) : Same H (upd H' a o) := fun b u e => by
  rw [upd_ne (ne_of_none e n)]
  exact s b u e
def NAMES : List Str := ["a", "b", "c", "d", "e", "f", "g", "go", "up", "zz", "turner", "zzzzzzzz"]
theorem names_nodup : NAMES.Nodup := by decide +kernel
/-- all names that are met: the drawn ones, and one more -/
def ALLN : List Str := NAMES ++ (["new"] : List Str)
theorem names_all {z : Str} (h : z ∈ NAMES) : z ∈ ALLN := List.mem_append_left _ h
/-- the names of a plain machine, drawn -/
def spNames : Sp := fun vs H Q _ => ∃ (u : Addr) (n : Nat), vs = [.ref u, .int n] ∧ UrnOk H u ∧ 1 ≤ n ∧ n ≤ 11 ∧
  ∀ (H' : Hp) (p : Addr) (ns : List Str), Drew u H H' → H p = none → H' p = some (.lst (ns.map V.str)) → ns.Nodup → (∀ z ∈ ns, z ∈ NAMES) → ns.length = n → Q (.ref p) H'
/-- a row: a name, its turn and the names behind -/
structure Row where
  nm : Str
  ta : Addr
  turn : List Int
  xa : Addr
  nexts : List Str
/-- a plain machine at p -/
structure PlainAt (H : Hp) (p t x : Addr) (n : Nat) (rs : List Row) : Prop where
  top : H p = some (.dK [(.inr "letters", .int n), (.inr "turns", .ref t), (.inr "nexts", .ref x)])
  ts : H t = some (.dK (rs.map fun r => ((.inr r.nm : Key), V.ref r.ta)))
  xs : H x = some (.dK (rs.map fun r => ((.inr r.nm : Key), V.ref r.xa)))
  tt : ∀ r ∈ rs, H r.ta = some (.tup (r.turn.map V.int))
  xt : ∀ r ∈ rs, H r.xa = some (.tup (r.nexts.map V.str))
structure RowOk (n : Nat) (names : List Str) (r : Row) : Prop where
  turn : r.turn.Perm (upto n)
  many : r.nexts.length = n
  among : ∀ z ∈ r.nexts, z ∈ names
/-- a good plain machine of at most eight states -/
structure Good (n : Nat) (rs : List Row) : Prop where
  lo : 2 ≤ n
  hi : n ≤ 4
  nd : (rs.map Row.nm).Nodup
  nms : ∀ r ∈ rs, r.nm ∈ NAMES
  one : 1 ≤ rs.length
  most : rs.length ≤ 8
  ok : ∀ r ∈ rs, RowOk n (rs.map Row.nm) r
/-- the same of a machine, which may have the one more name -/
structure GoodM (n : Nat) (rs : List Row) : Prop where
  lo : 2 ≤ n
  hi : n ≤ 4
  nd : (rs.map Row.nm).Nodup
  nms : ∀ r ∈ rs, r.nm ∈ ALLN
  one : 1 ≤ rs.length
  most : rs.length ≤ 8
  ok : ∀ r ∈ rs, RowOk n (rs.map Row.nm) r
theorem Good.m {n : Nat} {rs : List Row} (g : Good n rs) : GoodM n rs := ⟨g.lo, g.hi, g.nd, fun r hr => names_all (g.nms r hr), g.one, g.most, g.ok⟩
/-- a plain machine of one state that does nothing -/
def spCalm (K : PySem.W.Frag) : Sp := fun vs H Q _ => ∃ (n : Nat) (a : Addr) (z : Str) (ns : List Str), vs = [.int n, .ref a] ∧ 2 ≤ n ∧ n ≤ 4 ∧ SqL K H a ((z :: ns).map V.str) ∧
  ∀ (H' : Hp) (p t x ta xa : Addr), Same H H' → H p = none → H t = none → H x = none → p ≠ t → p ≠ x → t ≠ x → PlainAt H' p t x n [⟨z, ta, upto n, xa, List.replicate n z⟩] → Q (.ref p) H'
/-- what stands at a but for the urn u stays -/
def Kept (u : Addr) (H H' : Hp) : Prop := UrnOk H' u ∧ ∀ b o, b ≠ u → H b = some o → H' b = some o
/-- a plain machine that is being made: the rows' turns and nexts so far -/
structure Made (H : Hp) (p t x : Addr) (n : Nat) (ts : List (Str × Addr × List Int)) (xs : List (Str × Addr × List Str)) : Prop where
  top : H p = some (.dK [(.inr "letters", .int n), (.inr "turns", .ref t), (.inr "nexts", .ref x)])
  tk : H t = some (.dK (ts.map fun r => ((.inr r.1 : Key), V.ref r.2.1)))
  xk : H x = some (.dK (xs.map fun r => ((.inr r.1 : Key), V.ref r.2.1)))
  tt : ∀ r ∈ ts, H r.2.1 = some (.tup (r.2.2.map V.int))
  xt : ∀ r ∈ xs, H r.2.1 = some (.tup (r.2.2.map V.str))
/-- its rows -/
def tsOf (rs : List Row) : List (Str × Addr × List Int) := rs.map fun r => (r.nm, r.ta, r.turn)
def xsOf (rs : List Row) : List (Str × Addr × List Str) := rs.map fun r => (r.nm, r.xa, r.nexts)
theorem PlainAt.made {H : Hp} {p t x : Addr} {n : Nat} {rs : List Row} (h : PlainAt H p t x n rs) : Made H p t x n (tsOf rs) (xsOf rs) := by
  refine ⟨h.top, ?_, ?_, fun r hr => ?_, fun r hr => ?_⟩
  · rw [h.ts, tsOf, List.map_map]
    rfl
  · rw [h.xs, xsOf, List.map_map]
    rfl
  · obtain ⟨q, hq, rfl⟩ := List.mem_map.mp hr
    exact h.tt q hq
  · obtain ⟨q, hq, rfl⟩ := List.mem_map.mp hr
    exact h.xt q hq
theorem Made.plain {H : Hp} {p t x : Addr} {n : Nat} {rs : List Row} (h : Made H p t x n (tsOf rs) (xsOf rs)) : PlainAt H p t x n rs := by
  refine ⟨h.top, ?_, ?_, fun r hr => h.tt (r.nm, r.ta, r.turn) (List.mem_map.mpr ⟨r, hr, rfl⟩), fun r hr => h.xt (r.nm, r.xa, r.nexts) (List.mem_map.mpr ⟨r, hr, rfl⟩)⟩
  · rw [h.tk, tsOf, List.map_map]
    rfl
  · rw [h.xk, xsOf, List.map_map]
    rfl
/-- it stays where only the urn is drawn from -/
theorem Made.drew {H H' : Hp} {u p t x : Addr} {n : Nat} {ts : List (Str × Addr × List Int)} {xs : List (Str × Addr × List Str)} (h : Made H p t x n ts xs) (hu : UrnOk H u) (d : Drew u H H') : Made H' p t x n ts xs := by
  obtain ⟨us, e, _⟩ := hu
  have k : ∀ b o, H b = some o → (∀ l, o ≠ .lst l) → H' b = some o := fun b o q nl => d.2 b o (fun z => by rw [z, e] at q; exact nl _ (Option.some.inj q).symm) q
  exact ⟨k _ _ h.top (fun _ z => by cases z), k _ _ h.tk (fun _ z => by cases z), k _ _ h.xk (fun _ z => by cases z), fun r hr => k _ _ (h.tt r hr) (fun _ z => by cases z), fun r hr => k _ _ (h.xt r hr) (fun _ z => by cases z)⟩
theorem Made.same {H H' : Hp} {p t x : Addr} {n : Nat} {ts : List (Str × Addr × List Int)} {xs : List (Str × Addr × List Str)} (h : Made H p t x n ts xs) (s : Same H H') : Made H' p t x n ts xs :=
  ⟨s _ _ h.top, s _ _ h.tk, s _ _ h.xk, fun r hr => s _ _ (h.tt r hr), fun r hr => s _ _ (h.xt r hr)⟩
theorem put_last {β : Type} {l : List (Str × Addr × β)} {z : Str} {a : Addr} {b : β} (h : z ∉ l.map (·.1)) : putK (l.map fun r => ((.inr r.1 : Key), V.ref r.2.1)) (.inr z) (.ref a) = ((l ++ [(z, a, b)]).map fun r => ((.inr r.1 : Key), V.ref r.2.1)) := by
  have e : ((l.map fun r => ((.inr r.1 : Key), V.ref r.2.1)).any fun kv => decide (kv.1 = (.inr z : Key))) = false := by
    rw [List.any_eq_false]
    intro kv hk
    obtain ⟨r, hr, rfl⟩ := List.mem_map.mp hk
    intro q
    have q' : (Sum.inr r.1 : Key) = .inr z := of_decide_eq_true q
    exact h (List.mem_map.mpr ⟨r, hr, by injection q'⟩)
  unfold putK
  rw [e, if_neg (by decide), List.map_append]
  rfl
/-- a list beside it is written -/
theorem Made.putL {H : Hp} {p t x D : Addr} {n : Nat} {ts : List (Str × Addr × List Int)} {xs : List (Str × Addr × List Str)} {o os : List V} (h : Made H p t x n ts xs) (pD : p ≠ D) (tD : t ≠ D) (xD : x ≠ D) (hD : H D = some (.lst os)) : Made (upd H D (.lst o)) p t x n ts xs := by
  have nt : ∀ b l, H b = some (.tup l) → b ≠ D := fun b l e q => by rw [q, hD] at e; cases e
  exact ⟨by rw [upd_ne pD]; exact h.top, by rw [upd_ne tD]; exact h.tk, by rw [upd_ne xD]; exact h.xk, fun r hr => by rw [upd_ne (nt _ _ (h.tt r hr))]; exact h.tt r hr, fun r hr => by rw [upd_ne (nt _ _ (h.xt r hr))]; exact h.xt r hr⟩
/-- turns[z] = ta -/
theorem Made.putT {H : Hp} {p t x ta : Addr} {n : Nat} {ts : List (Str × Addr × List Int)} {xs : List (Str × Addr × List Str)} {z : Str} {l : List Int} (h : Made H p t x n ts xs) (pt : p ≠ t) (tx : t ≠ x) (hz : z ∉ ts.map (·.1)) (ha : H ta = some (.tup (l.map V.int))) :
    Made (upd H t (.dK (putK (ts.map fun r => ((.inr r.1 : Key), V.ref r.2.1)) (.inr z) (.ref ta)))) p t x n (ts ++ [(z, ta, l)]) xs := by
  have nt : ∀ b xs', H b = some (.tup xs') → b ≠ t := fun b xs' e q => by rw [q, h.tk] at e; cases e
  refine ⟨by rw [upd_ne pt]; exact h.top, by rw [upd_same, put_last hz], by rw [upd_ne tx.symm]; exact h.xk, fun r hr => ?_, fun r hr => by rw [upd_ne (nt _ _ (h.xt r hr))]; exact h.xt r hr⟩
  rcases List.mem_append.mp hr with hr | hr
  · rw [upd_ne (nt _ _ (h.tt r hr))]
    exact h.tt r hr
  · obtain rfl := List.mem_singleton.mp hr
    rw [upd_ne (nt _ _ ha)]
    exact ha
/-- nexts[z] = xa -/
theorem Made.putX {H : Hp} {p t x xa : Addr} {n : Nat} {ts : List (Str × Addr × List Int)} {xs : List (Str × Addr × List Str)} {z : Str} {l : List Str} (h : Made H p t x n ts xs) (px : p ≠ x) (tx : t ≠ x) (hz : z ∉ xs.map (·.1)) (ha : H xa = some (.tup (l.map V.str))) :
    Made (upd H x (.dK (putK (xs.map fun r => ((.inr r.1 : Key), V.ref r.2.1)) (.inr z) (.ref xa)))) p t x n ts (xs ++ [(z, xa, l)]) := by
  have nt : ∀ b xs', H b = some (.tup xs') → b ≠ x := fun b xs' e q => by rw [q, h.xk] at e; cases e
  refine ⟨by rw [upd_ne px]; exact h.top, by rw [upd_ne tx]; exact h.tk, by rw [upd_same, put_last hz], fun r hr => by rw [upd_ne (nt _ _ (h.tt r hr))]; exact h.tt r hr, fun r hr => ?_⟩
  rcases List.mem_append.mp hr with hr | hr
  · rw [upd_ne (nt _ _ (h.xt r hr))]
    exact h.xt r hr
  · obtain rfl := List.mem_singleton.mp hr
    rw [upd_ne (nt _ _ ha)]
    exact ha
/-- d['letters'], d['turns'], d['nexts'] -/
theorem Made.get {H : Hp} {p t x : Addr} {n : Nat} {ts : List (Str × Addr × List Int)} {xs : List (Str × Addr × List Str)} (h : Made H p t x n ts xs) : DGet H p (.str "letters") (some (.int n)) ∧ DGet H p (.str "turns") (some (.ref t)) ∧ DGet H p (.str "nexts") (some (.ref x)) := by
  obtain ⟨ka, kb, kc⟩ := keys_apart
  refine ⟨?_, ?_, ?_⟩
  · have e : valV [((.inr "letters" : Key), V.int n), (.inr "turns", .ref t), (.inr "nexts", .ref x)] (.inr "letters") = some (.int n) := valV_pos rfl
    exact e ▸ DGet.k (k := .inr "letters") h.top
  · have e : valV [((.inr "letters" : Key), V.int n), (.inr "turns", .ref t), (.inr "nexts", .ref x)] (.inr "turns") = some (.ref t) := by rw [valV_neg ka, valV_pos rfl]
    exact e ▸ DGet.k (k := .inr "turns") h.top
  · have e : valV [((.inr "letters" : Key), V.int n), (.inr "turns", .ref t), (.inr "nexts", .ref x)] (.inr "nexts") = some (.ref x) := by rw [valV_neg kb, valV_neg kc, valV_pos rfl]
    exact e ▸ DGet.k (k := .inr "nexts") h.top
theorem Drew.put {u a : Addr} {H H' : Hp} {o : HO} (d : Drew u H H') (n : H a = none) (au : a ≠ u) : Drew u H (upd H' a o) := by
  obtain ⟨⟨us, e, g⟩, k⟩ := d
  exact ⟨⟨us, by rw [upd_ne au.symm]; exact e, g⟩, fun b o' bu q => by rw [upd_ne (ne_of_none q n)]; exact k b o' bu q⟩
theorem RowOk.mono {n : Nat} {l l' : List Str} {r : Row} (h : RowOk n l r) (k : ∀ z ∈ l, z ∈ l') : RowOk n l' r := ⟨h.turn, h.many, fun z hz => k z (h.among z hz)⟩
/-- so far: the rows of the first k names stand in the plain machine at p -/
def SoFar (u a p t x : Addr) (n : Nat) (names : List Str) (H : Hp) (k : Nat) (H' : Hp) : Prop :=
  ∃ rs : List Row, rs.map Row.nm = names.take k ∧ Made H' p t x n (tsOf rs) (xsOf rs) ∧ (∀ r ∈ rs, RowOk n names r) ∧ H' a = some (.lst (names.map V.str)) ∧ Drew u H H'
theorem tsOf_names (rs : List Row) : (tsOf rs).map (·.1) = rs.map Row.nm := by
  unfold tsOf
  rw [List.map_map]
  rfl
theorem xsOf_names (rs : List Row) : (xsOf rs).map (·.1) = rs.map Row.nm := by
  unfold xsOf
  rw [List.map_map]
  rfl
theorem not_in_take {α : Type} {l : List α} {k : Nat} (nd : l.Nodup) (h : k < l.length) : l[k] ∉ l.take k := fun m => by
  obtain ⟨j, hj, e⟩ := List.getElem_of_mem m
  rw [List.length_take] at hj
  rw [List.getElem_take] at e
  exact List.pairwise_iff_getElem.mp nd j k (by omega) h (by omega) e
theorem small_rows {H : Hp} {p t x : Addr} {n k : Nat} {rs : List Row} {xs : List (Str × Addr × List Str)} {names : List Str} (_h : Made H p t x n (tsOf rs) xs) (hk : names.length ≤ 100) (e : rs.map Row.nm = names.take k) : (tsOf rs).length < sizeLine := by
  have q := congrArg List.length e
  rw [List.length_map, List.length_take] at q
  unfold tsOf
  rw [List.length_map, sizeLine_eq]
  omega
theorem small_xs {k : Nat} {rs : List Row} {names : List Str} (hk : names.length ≤ 100) (e : rs.map Row.nm = names.take k) : (xsOf rs).length < sizeLine := by
  have q := congrArg List.length e
  rw [List.length_map, List.length_take] at q
  unfold xsOf
  rw [List.length_map, sizeLine_eq]
  omega
theorem take_next {α : Type} {l : List α} {k : Nat} (h : k < l.length) : l.take (k + 1) = l.take k ++ [l[k]] := by
  rw [List.take_succ, List.getElem?_eq_getElem h]
  rfl
theorem SoFar.add {u a p t x ta xa : Addr} {n k : Nat} {names : List Str} {H H' : Hp} {rs : List Row} {l : List Int} {acc : List Str} (hk : k < names.length) (e1 : rs.map Row.nm = names.take k)
    (md : Made H' p t x n (tsOf rs ++ [(names[k], ta, l)]) (xsOf rs ++ [(names[k], xa, acc)])) (ok : ∀ r ∈ rs, RowOk n names r) (pl : l.Perm (upto n)) (hl : acc.length = n) (ha : ∀ y ∈ acc, y ∈ names)
    (hn : H' a = some (.lst (names.map V.str))) (dr : Drew u H H') : SoFar u a p t x n names H (k + 1) H' := by
  refine ⟨rs ++ [⟨names[k], ta, l, xa, acc⟩], ?_, ?_, fun r hr => ?_, hn, dr⟩
  · rw [List.map_append, e1, take_next hk]
    rfl
  · unfold tsOf xsOf at *
    rw [List.map_append, List.map_append]
    exact md
  · rcases List.mem_append.mp hr with hr | hr
    · exact ok r hr
    · obtain rfl := List.mem_singleton.mp hr
      exact ⟨pl, hl, ha⟩
theorem SoFar.good {names : List Str} {n m : Nat} {rs : List Row} (e1 : rs.map Row.nm = names.take m) (hl : names.length = m) (nd : names.Nodup) (hin : ∀ z ∈ names, z ∈ NAMES) (n2 : 2 ≤ n) (n4 : n ≤ 4) (m1 : 1 ≤ m) (m8 : m ≤ 8) (ok : ∀ r ∈ rs, RowOk n names r) : Good n rs ∧ rs.length = m := by
  rw [← hl, List.take_length] at e1
  have el : rs.length = m := by rw [← hl, ← e1, List.length_map]
  exact ⟨⟨n2, n4, by rw [e1]; exact nd, fun r hr => hin _ (by rw [← e1]; exact List.mem_map.mpr ⟨r, hr, rfl⟩), by omega, by omega, fun r hr => by rw [e1]; exact ok r hr⟩, el⟩
/-- for i, y in enumerate(a list that stays) -/
theorem for_enum {K : PySem.W.Frag} {a : Addr} {xs : List V} {g : TG} {tb : TS} {D : Ends} {σ : L2.St} {H : Hp} (J : Nat → L2.St → Hp → Prop) (start : J 0 σ H) (stays : ∀ i σ H, i ≤ xs.length → J i σ H → SqL K H a xs)
    (turn : ∀ i y σ H T, xs[i]? = some y → J i σ H → H T = none → g (.ref T) σ (upd H T (.tup [.int (i : Nat), y])) fun σ2 H2 => tb { D with nx := J (i + 1), ct := J (i + 1), bk := D.nx } σ2 H2) (done : ∀ σ H, J xs.length σ H → D.nx σ H) :
    ∃ W : Nat → Nat → L2.St → Hp → Prop, (∃ m, W 0 m σ H) ∧ ∀ i m σ H, W i m σ H →
      ((Ite K a).stop i H ∧ D.nx σ H) ∨ ((Ite K a).go i H ∧ ∃ N : L2.St → Hp → Prop, (∀ σ' H', N σ' H' → ∃ m', m' < m ∧ W (i + 1) m' σ' H') ∧ ∀ x H', (Ite K a).yld i H x H' → g x σ H' fun σ2 H2 => tb { D with nx := N, ct := N, bk := D.nx } σ2 H2) := by
  refine ⟨fun i m σ H => m + i = xs.length ∧ J i σ H, ⟨xs.length, rfl, start⟩, fun i m σ H w => ?_⟩
  obtain ⟨em, j⟩ := w
  have sq := stays i σ H (by omega) j
  cases m with
  | zero =>
    have ei : i = xs.length := by omega
    exact .inl ⟨⟨xs, sq, by omega⟩, done σ H (ei ▸ j)⟩
  | succ m =>
    have hi : i < xs.length := by omega
    refine .inr ⟨⟨xs, xs[i], sq, List.getElem?_eq_getElem hi⟩, J (i + 1), fun σ' H' j' => ⟨m, Nat.lt_succ_self m, by omega, j'⟩, fun v H' y => ?_⟩
    obtain ⟨T, y, rfl, hT, rfl, hy⟩ := y
    exact turn i y σ H T (hy xs sq) j hT
theorem merge_apart : ∀ (more acc : List (Key × V)), ((acc ++ more).map (·.1)).Nodup → mergeK acc more = acc ++ more
  | [], acc, _ => by rw [List.append_nil]; rfl
  | kv :: more, acc, h => by
    have e : (acc.any fun y => decide (y.1 = kv.1)) = false := by
      rw [List.any_eq_false]
      intro y hy q
      rw [List.map_append, List.map_cons] at h
      exact (List.nodup_append.mp h).2.2 y.1 (List.mem_map.mpr ⟨y, hy, rfl⟩) kv.1 List.mem_cons_self (of_decide_eq_true q)
    have ep : putK acc kv.1 kv.2 = acc ++ [kv] := by
      unfold putK
      rw [e, if_neg (by decide)]
    show mergeK (putK acc kv.1 kv.2) more = acc ++ kv :: more
    rw [ep, merge_apart more (acc ++ [kv]) (by rw [List.append_assoc]; exact h), List.append_assoc]
    rfl
/-- the pairs (name, object) of a list made for dict(..) -/
def PairsAt (H : Hp) (names : List Str) (ws os : List Addr) : Prop := ∀ (i : Nat) (z : Str) (w o : Addr), names[i]? = some z → ws[i]? = some w → os[i]? = some o → H w = some (.tup [.str z, .ref o])
theorem pairs_kv {K : PySem.W.Frag} {H : Hp} : ∀ {names : List Str} {ws os : List Addr}, ws.length = names.length → os.length = names.length → PairsAt H names ws os → Paired (fun p (kv : Key × V) => SqT K H p [kV kv.1, kv.2]) ws ((names.zip os).map fun r => ((.inr r.1 : Key), V.ref r.2))
  | [], [], os, _, lo, _ => by
    cases os with
    | nil => exact .nil
    | cons o os => cases lo
  | [], w :: ws, _, lw, _, _ => by cases lw
  | z :: names, [], _, lw, _, _ => by cases lw
  | z :: names, w :: ws, [], _, lo, _ => by cases lo
  | z :: names, w :: ws, o :: os, lw, lo, each =>
    .cons (.of (each 0 z w o rfl rfl rfl)) (pairs_kv (Nat.succ.inj lw) (Nat.succ.inj lo) fun i z' w' o' h1 h2 h3 => each (i + 1) z' w' o' h1 h2 h3)
theorem PairsAt.add {H H' : Hp} {names : List Str} {ws os : List Addr} {w o : Addr} {z : Str} (h : PairsAt H names ws os) (lw : ws.length = os.length) (hz : names[ws.length]? = some z) (k : ∀ b l, H b = some (.tup l) → H' b = some (.tup l)) (hw : H' w = some (.tup [.str z, .ref o])) : PairsAt H' names (ws ++ [w]) (os ++ [o]) := fun i z' w' o' h1 h2 h3 => by
  by_cases hi : i < ws.length
  · rw [List.getElem?_append_left hi] at h2
    rw [List.getElem?_append_left (by omega)] at h3
    exact k _ _ (h i z' w' o' h1 h2 h3)
  · have hl : i < (ws ++ [w]).length := (List.getElem?_eq_some_iff.mp h2).1
    rw [List.length_append, List.length_singleton] at hl
    obtain rfl : i = ws.length := by omega
    rw [List.getElem?_append_right (Nat.le_refl _), Nat.sub_self] at h2
    rw [List.getElem?_append_right (by omega), lw, Nat.sub_self] at h3
    cases h2
    cases h3
    rw [hz] at h1
    cases h1
    exact hw
theorem UrnOk.ne' {H : Hp} {u p : Addr} {o : HO} (h : UrnOk H u) (e : H p = some o) (no : ∀ l, o ≠ .lst l := by intro l z; cases z) : p ≠ u := fun z => by
  obtain ⟨us, eu, _⟩ := h
  rw [z, eu] at e
  exact no _ (Option.some.inj e).symm
abbrev kvOf (ns : List Str) (os : List Addr) : List (Key × V) := (ns.zip os).map fun r => ((.inr r.1 : Key), V.ref r.2)
theorem keys_nodup {ns : List Str} {os : List Addr} (nd : ns.Nodup) (h : os.length = ns.length) : (((ns.zip os).map fun r => ((.inr r.1 : Key), V.ref r.2)).map (·.1)).Nodup := by
  have e : ((ns.zip os).map fun r => ((.inr r.1 : Key), V.ref r.2)).map (·.1) = ns.map (Sum.inr : Str → Key) := by
    rw [List.map_map]
    have : (ns.zip os).map (·.1) = ns := List.map_fst_zip (by omega)
    conv => rhs; rw [← this, List.map_map]
    rfl
  rw [e]
  exact List.pairwise_map.mpr (nd.imp fun hne z => hne (by injection z))
def mkRows : List Str → List (Addr × List Int) → List (Addr × List Str) → List Row
  | z :: ns, q :: tl, y :: xl => ⟨z, q.1, q.2, y.1, y.2⟩ :: mkRows ns tl xl
  | _, _, _ => []
theorem mkRows_nm : ∀ {ns : List Str} {tl : List (Addr × List Int)} {xl : List (Addr × List Str)}, tl.length = ns.length → xl.length = ns.length →
    (mkRows ns tl xl).map Row.nm = ns ∧ ((ns.zip (tl.map (·.1))).map fun r => ((.inr r.1 : Key), V.ref r.2)) = ((mkRows ns tl xl).map fun r => ((.inr r.nm : Key), V.ref r.ta)) ∧ ((ns.zip (xl.map (·.1))).map fun r => ((.inr r.1 : Key), V.ref r.2)) = ((mkRows ns tl xl).map fun r => ((.inr r.nm : Key), V.ref r.xa))
  | [], tl, xl, h1, h2 => by
    cases tl with
    | cons => cases h1
    | nil =>
      cases xl with
      | cons => cases h2
      | nil => exact ⟨rfl, rfl, rfl⟩
  | z :: ns, [], _, h1, _ => by cases h1
  | z :: ns, _ :: _, [], _, h2 => by cases h2
  | z :: ns, q :: tl, y :: xl, h1, h2 => by
    obtain ⟨a, b, c⟩ := mkRows_nm (Nat.succ.inj h1) (Nat.succ.inj h2)
    exact ⟨congrArg (z :: ·) a, congrArg ((((.inr z : Key), V.ref q.1)) :: ·) b, congrArg ((((.inr z : Key), V.ref y.1)) :: ·) c⟩
theorem mkRows_in : ∀ {ns : List Str} {tl : List (Addr × List Int)} {xl : List (Addr × List Str)} {r : Row}, r ∈ mkRows ns tl xl → (r.ta, r.turn) ∈ tl ∧ (r.xa, r.nexts) ∈ xl
  | [], _, _, _, h => by
    unfold mkRows at h
    cases h
  | z :: ns, [], _, _, h => by
    unfold mkRows at h
    cases h
  | z :: ns, _ :: _, [], _, h => by
    unfold mkRows at h
    cases h
  | z :: ns, q :: tl, y :: xl, r, h => by
    unfold mkRows at h
    rcases List.mem_cons.mp h with rfl | h
    · exact ⟨List.mem_cons_self, List.mem_cons_self⟩
    · obtain ⟨a, b⟩ := mkRows_in h
      exact ⟨List.mem_cons_of_mem _ a, List.mem_cons_of_mem _ b⟩
/-- a plain machine whose loops lead down, drawn -/
def spQuiet : Sp := fun vs H Q _ => ∃ (u : Addr) (n m : Nat), vs = [.ref u, .int n, .int m] ∧ UrnOk H u ∧ 2 ≤ n ∧ n ≤ 4 ∧ 1 ≤ m ∧ m ≤ 8 ∧
  ∀ (H' : Hp) (p t x : Addr) (rs : List Row), Drew u H H' → H p = none → H t = none → H x = none → p ≠ t → p ≠ x → t ≠ x → PlainAt H' p t x n rs → Good n rs → rs.length = m → Q (.ref p) H'
theorem sortD {X : Cx} (hc : X.calm = true) : CallR X (.builtin "sorted") (fun xs H Q => ∃ (a : Addr) (kvs : List (Key × V)) (ks : List Str), xs = [.ref a] ∧ Rd H a (.dK kvs) ∧ kvs.map (·.1) = ks.map Sum.inr ∧ ks.length < 64 ∧
    ∀ ys p, ys.Perm ks → sortedS ys = true → H p = none → Q (.ref p) (upd H p (.lst (ys.map V.str)))) := call_sortedD hc
/-- a plain machine, changed at one place or not at all -/
def spBent : Sp := fun vs H Q _ => ∃ (u p t x : Addr) (n : Nat) (rs : List Row), vs = [.ref u, .ref p] ∧ UrnOk H u ∧ PlainAt H p t x n rs ∧ Good n rs ∧
  ∀ (H' : Hp) (p' t' x' : Addr) (rs' : List Row), Drew u H H' → H p' = none → H t' = none → H x' = none → p' ≠ t' → p' ≠ x' → t' ≠ x' → PlainAt H' p' t' x' n rs' → Good n rs' → rs'.map Row.nm = rs.map Row.nm → Q (.ref p') H'
end My

set_option Elab.async false
set_option linter.all false
set_option maxRecDepth 100000
set_option maxHeartbeats 4000000
/-! plain machines of the laws, copied and changed at one place -/
namespace My
open PySem PySem.Spec PyProof.Rows L2
/-- a plain machine's two dicts, without the dict that holds them -/
structure Half (H : Hp) (t x : Addr) (rs : List Row) : Prop where
  ts : H t = some (.dK (rs.map fun r => ((.inr r.nm : Key), V.ref r.ta)))
  xs : H x = some (.dK (rs.map fun r => ((.inr r.nm : Key), V.ref r.xa)))
  tt : ∀ r ∈ rs, H r.ta = some (.tup (r.turn.map V.int))
  xt : ∀ r ∈ rs, H r.xa = some (.tup (r.nexts.map V.str))
theorem Half.same {H H' : Hp} {t x : Addr} {rs : List Row} (h : Half H t x rs) (s : Same H H') : Half H' t x rs := ⟨s _ _ h.ts, s _ _ h.xs, fun r hr => s _ _ (h.tt r hr), fun r hr => s _ _ (h.xt r hr)⟩
theorem Half.drew {H H' : Hp} {u t x : Addr} {rs : List Row} (h : Half H t x rs) (hu : UrnOk H u) (d : Drew u H H') : Half H' t x rs :=
  ⟨d.2 _ _ (hu.ne' h.ts) h.ts, d.2 _ _ (hu.ne' h.xs) h.xs, fun r hr => d.2 _ _ (hu.ne' (h.tt r hr)) (h.tt r hr), fun r hr => d.2 _ _ (hu.ne' (h.xt r hr)) (h.xt r hr)⟩
theorem PlainAt.half {H : Hp} {p t x : Addr} {n : Nat} {rs : List Row} (h : PlainAt H p t x n rs) : Half H t x rs := ⟨h.ts, h.xs, h.tt, h.xt⟩
theorem Half.plain {H : Hp} {p t x : Addr} {n : Nat} {rs : List Row} (h : Half H t x rs) (top : H p = some (.dK [(.inr "letters", .int n), (.inr "turns", .ref t), (.inr "nexts", .ref x)])) : PlainAt H p t x n rs := ⟨top, h.ts, h.xs, h.tt, h.xt⟩
def setT (rs : List Row) (z : Str) (a : Addr) (l : List Int) : List Row := rs.map fun r => if r.nm = z then { r with ta := a, turn := l } else r
def setX (rs : List Row) (z : Str) (a : Addr) (l : List Str) : List Row := rs.map fun r => if r.nm = z then { r with xa := a, nexts := l } else r
theorem setT_nm (rs : List Row) (z : Str) (a : Addr) (l : List Int) : (setT rs z a l).map Row.nm = rs.map Row.nm := by
  unfold setT
  rw [List.map_map]
  exact List.map_congr_left fun r _ => by
    show (if r.nm = z then { r with ta := a, turn := l } else r).nm = r.nm
    split <;> rfl
theorem setX_nm (rs : List Row) (z : Str) (a : Addr) (l : List Str) : (setX rs z a l).map Row.nm = rs.map Row.nm := by
  unfold setX
  rw [List.map_map]
  exact List.map_congr_left fun r _ => by
    show (if r.nm = z then { r with xa := a, nexts := l } else r).nm = r.nm
    split <;> rfl
theorem any_row {rs : List Row} {z : Str} {f : Row → V} (h : z ∈ rs.map Row.nm) : ((rs.map fun r => ((.inr r.nm : Key), f r)).any fun kv => decide (kv.1 = (.inr z : Key))) = true := by
  obtain ⟨r, hr, e⟩ := List.mem_map.mp h
  exact List.any_eq_true.mpr ⟨_, List.mem_map.mpr ⟨r, hr, rfl⟩, decide_eq_true (congrArg Sum.inr e)⟩
theorem putT {rs : List Row} {z : Str} {a : Addr} {l : List Int} (h : z ∈ rs.map Row.nm) : putK (rs.map fun r => ((.inr r.nm : Key), V.ref r.ta)) (.inr z) (.ref a) = (setT rs z a l).map fun r => ((.inr r.nm : Key), V.ref r.ta) := by
  unfold putK setT
  rw [if_pos (any_row h), List.map_map, List.map_map]
  refine List.map_congr_left fun r _ => ?_
  show (if (.inr r.nm : Key) = .inr z then ((.inr r.nm : Key), V.ref a) else (.inr r.nm, V.ref r.ta)) = _
  by_cases e : r.nm = z
  · rw [if_pos (congrArg Sum.inr e)]
    show _ = ((.inr (if r.nm = z then { r with ta := a, turn := l } else r).nm : Key), V.ref (if r.nm = z then { r with ta := a, turn := l } else r).ta)
    rw [if_pos e]
  · rw [if_neg (fun q => e (by injection q))]
    show _ = ((.inr (if r.nm = z then { r with ta := a, turn := l } else r).nm : Key), V.ref (if r.nm = z then { r with ta := a, turn := l } else r).ta)
    rw [if_neg e]
theorem putX {rs : List Row} {z : Str} {a : Addr} {l : List Str} (h : z ∈ rs.map Row.nm) : putK (rs.map fun r => ((.inr r.nm : Key), V.ref r.xa)) (.inr z) (.ref a) = (setX rs z a l).map fun r => ((.inr r.nm : Key), V.ref r.xa) := by
  unfold putK setX
  rw [if_pos (any_row h), List.map_map, List.map_map]
  refine List.map_congr_left fun r _ => ?_
  show (if (.inr r.nm : Key) = .inr z then ((.inr r.nm : Key), V.ref a) else (.inr r.nm, V.ref r.xa)) = _
  by_cases e : r.nm = z
  · rw [if_pos (congrArg Sum.inr e)]
    show _ = ((.inr (if r.nm = z then { r with xa := a, nexts := l } else r).nm : Key), V.ref (if r.nm = z then { r with xa := a, nexts := l } else r).xa)
    rw [if_pos e]
  · rw [if_neg (fun q => e (by injection q))]
    show _ = ((.inr (if r.nm = z then { r with xa := a, nexts := l } else r).nm : Key), V.ref (if r.nm = z then { r with xa := a, nexts := l } else r).xa)
    rw [if_neg e]
theorem keepT {rs : List Row} {z : Str} {a : Addr} {l : List Int} : ((setT rs z a l).map fun r => ((.inr r.nm : Key), V.ref r.xa)) = rs.map fun r => ((.inr r.nm : Key), V.ref r.xa) := by
  unfold setT
  rw [List.map_map]
  exact List.map_congr_left fun r _ => by
    show ((.inr (if r.nm = z then { r with ta := a, turn := l } else r).nm : Key), V.ref (if r.nm = z then { r with ta := a, turn := l } else r).xa) = _
    split <;> rfl
theorem keepX {rs : List Row} {z : Str} {a : Addr} {l : List Str} : ((setX rs z a l).map fun r => ((.inr r.nm : Key), V.ref r.ta)) = rs.map fun r => ((.inr r.nm : Key), V.ref r.ta) := by
  unfold setX
  rw [List.map_map]
  exact List.map_congr_left fun r _ => by
    show ((.inr (if r.nm = z then { r with xa := a, nexts := l } else r).nm : Key), V.ref (if r.nm = z then { r with xa := a, nexts := l } else r).ta) = _
    split <;> rfl
theorem mem_setT {rs : List Row} {z : Str} {a : Addr} {l : List Int} {r : Row} (h : r ∈ setT rs z a l) : ∃ q ∈ rs, r.nm = q.nm ∧ r.xa = q.xa ∧ r.nexts = q.nexts ∧ ((r.ta = q.ta ∧ r.turn = q.turn) ∨ (r.ta = a ∧ r.turn = l)) := by
  obtain ⟨q, hq, e⟩ := List.mem_map.mp h
  refine ⟨q, hq, ?_⟩
  by_cases hz : q.nm = z
  · rw [if_pos hz] at e
    subst e
    exact ⟨rfl, rfl, rfl, .inr ⟨rfl, rfl⟩⟩
  · rw [if_neg hz] at e
    subst e
    exact ⟨rfl, rfl, rfl, .inl ⟨rfl, rfl⟩⟩
theorem mem_setX {rs : List Row} {z : Str} {a : Addr} {l : List Str} {r : Row} (h : r ∈ setX rs z a l) : ∃ q ∈ rs, r.nm = q.nm ∧ r.ta = q.ta ∧ r.turn = q.turn ∧ ((r.xa = q.xa ∧ r.nexts = q.nexts) ∨ (r.xa = a ∧ r.nexts = l)) := by
  obtain ⟨q, hq, e⟩ := List.mem_map.mp h
  refine ⟨q, hq, ?_⟩
  by_cases hz : q.nm = z
  · rw [if_pos hz] at e
    subst e
    exact ⟨rfl, rfl, rfl, .inr ⟨rfl, rfl⟩⟩
  · rw [if_neg hz] at e
    subst e
    exact ⟨rfl, rfl, rfl, .inl ⟨rfl, rfl⟩⟩
/-- turns[z] = a -/
theorem Half.setT {H : Hp} {t x a : Addr} {rs : List Row} {z : Str} {l : List Int} (h : Half H t x rs) (tx : t ≠ x) (hz : z ∈ rs.map Row.nm) (ha : H a = some (.tup (l.map V.int))) : Half (upd H t (.dK (putK (rs.map fun r => ((.inr r.nm : Key), V.ref r.ta)) (.inr z) (.ref a)))) t x (My.setT rs z a l) := by
  have nt : ∀ b xs', H b = some (.tup xs') → b ≠ t := fun b xs' e q => by rw [q, h.ts] at e; cases e
  refine ⟨by rw [upd_same, putT hz], by rw [upd_ne tx.symm, keepT]; exact h.xs, fun r hr => ?_, fun r hr => ?_⟩
  · obtain ⟨q, hq, _, _, _, ⟨e1, e2⟩ | ⟨e1, e2⟩⟩ := mem_setT hr
    · rw [e1, e2, upd_ne (nt _ _ (h.tt q hq))]
      exact h.tt q hq
    · rw [e1, e2, upd_ne (nt _ _ ha)]
      exact ha
  · obtain ⟨q, hq, _, e1, e2, _⟩ := mem_setT hr
    rw [e1, e2, upd_ne (nt _ _ (h.xt q hq))]
    exact h.xt q hq
theorem Half.setX {H : Hp} {t x a : Addr} {rs : List Row} {z : Str} {l : List Str} (h : Half H t x rs) (tx : t ≠ x) (hz : z ∈ rs.map Row.nm) (ha : H a = some (.tup (l.map V.str))) : Half (upd H x (.dK (putK (rs.map fun r => ((.inr r.nm : Key), V.ref r.xa)) (.inr z) (.ref a)))) t x (My.setX rs z a l) := by
  have nt : ∀ b xs', H b = some (.tup xs') → b ≠ x := fun b xs' e q => by rw [q, h.xs] at e; cases e
  refine ⟨by rw [upd_ne tx, keepX]; exact h.ts, by rw [upd_same, putX hz], fun r hr => ?_, fun r hr => ?_⟩
  · obtain ⟨q, hq, _, e1, e2, _⟩ := mem_setX hr
    rw [e1, e2, upd_ne (nt _ _ (h.tt q hq))]
    exact h.tt q hq
  · obtain ⟨q, hq, _, _, _, ⟨e1, e2⟩ | ⟨e1, e2⟩⟩ := mem_setX hr
    · rw [e1, e2, upd_ne (nt _ _ (h.xt q hq))]
      exact h.xt q hq
    · rw [e1, e2, upd_ne (nt _ _ ha)]
      exact ha
theorem Good.setT {n : Nat} {rs : List Row} {z : Str} {a : Addr} {l : List Int} (g : Good n rs) (hl : l.Perm (upto n)) : Good n (My.setT rs z a l) := by
  refine ⟨g.lo, g.hi, by rw [setT_nm]; exact g.nd, fun r hr => ?_, by unfold My.setT; rw [List.length_map]; exact g.one, by unfold My.setT; rw [List.length_map]; exact g.most, fun r hr => ?_⟩
  · obtain ⟨q, hq, e, _⟩ := mem_setT hr
    rw [e]
    exact g.nms q hq
  · obtain ⟨q, hq, _, _, e3, ⟨_, e4⟩ | ⟨_, e4⟩⟩ := mem_setT hr
    · exact ⟨by rw [e4]; exact (g.ok q hq).turn, by rw [e3]; exact (g.ok q hq).many, by rw [e3, setT_nm]; exact (g.ok q hq).among⟩
    · exact ⟨by rw [e4]; exact hl, by rw [e3]; exact (g.ok q hq).many, by rw [e3, setT_nm]; exact (g.ok q hq).among⟩
theorem Good.setX {n : Nat} {rs : List Row} {z : Str} {a : Addr} {l : List Str} (g : Good n rs) (hl : l.length = n) (hm : ∀ y ∈ l, y ∈ rs.map Row.nm) : Good n (My.setX rs z a l) := by
  refine ⟨g.lo, g.hi, by rw [setX_nm]; exact g.nd, fun r hr => ?_, by unfold My.setX; rw [List.length_map]; exact g.one, by unfold My.setX; rw [List.length_map]; exact g.most, fun r hr => ?_⟩
  · obtain ⟨q, hq, e, _⟩ := mem_setX hr
    rw [e]
    exact g.nms q hq
  · obtain ⟨q, hq, _, _, e3, ⟨_, e4⟩ | ⟨_, e4⟩⟩ := mem_setX hr
    · exact ⟨by rw [e3]; exact (g.ok q hq).turn, by rw [e4]; exact (g.ok q hq).many, by rw [e4, setX_nm]; exact (g.ok q hq).among⟩
    · exact ⟨by rw [e3]; exact (g.ok q hq).turn, by rw [e4]; exact hl, by rw [e4, setX_nm]; exact hm⟩
/-- a name that stands among the rows has its objects in the dicts -/
theorem val_row {rs : List Row} {f : Row → V} (nd : (rs.map Row.nm).Nodup) {r : Row} (h : r ∈ rs) : valV (rs.map fun r => ((.inr r.nm : Key), f r)) (.inr r.nm) = some (f r) := by
  induction rs with
  | nil => cases h
  | cons q rs ih =>
    rw [List.map_cons] at nd ⊢
    rcases List.mem_cons.mp h with rfl | h
    · exact valV_pos rfl
    · have ne : ¬ (.inr q.nm : Key) = .inr r.nm := fun e => (List.nodup_cons.mp nd).1 (by
        have e' : q.nm = r.nm := by injection e
        rw [e']
        exact List.mem_map.mpr ⟨r, h, rfl⟩)
      rw [valV_neg ne]
      exact ih (List.nodup_cons.mp nd).2 h
/-- just such a tuple -/
def TupIs (xs : List V) (H : Hp) : VK := fun v H' => ∃ a, v = .ref a ∧ H' a = some (.tup xs) ∧ Same H H'
theorem slice_is {K : PySem.W.Frag} {H : Hp} {a : Addr} {xs : List V} (lo hi : Option Int) (h : H a = some (.tup xs)) : rSlA K (.ref a) lo hi H (TupIs (cutV xs lo hi) H) := by
  refine ⟨a, xs, rfl, .of h, fun e => ⟨a, rfl, ?_, Same.refl H⟩, fun _ p hp => ⟨p, rfl, upd_same, same_new hp⟩⟩
  have : cutV xs lo hi = xs := by
    unfold cutV
    rw [e.1, e.2, List.drop_zero, Nat.sub_zero, List.take_length]
  rw [this]
  exact h
theorem cat_is {K : PySem.W.Frag} {H0 H : Hp} {a b : Addr} {xs ys : List V} (s : Same H0 H) (h : H a = some (.tup xs)) (h2 : H b = some (.tup ys)) (few : xs.length + ys.length ≤ 1000) : rCatA K (.ref a) (.ref b) H (TupIs (xs ++ ys) H0) :=
  ⟨a, b, xs, ys, rfl, rfl, .of h, .of h2, by rw [sizeLine_eq]; omega, fun e => ⟨b, rfl, by rw [e]; exact h2, s⟩, fun _ e => ⟨a, rfl, by rw [e, List.append_nil]; exact h, s⟩, fun _ _ p hp => ⟨p, rfl, upd_same, s.trans (same_new hp)⟩⟩
theorem rCatA.mono {K : PySem.W.Frag} {x y : V} {H : Hp} {Q Q' : VK} (h : rCatA K x y H Q) (k : ∀ v H', Q v H' → Q' v H') : rCatA K x y H Q' := by
  obtain ⟨a, b, xs, ys, e1, e2, s1, s2, l, q1, q2, q3⟩ := h
  exact ⟨a, b, xs, ys, e1, e2, s1, s2, l, fun e => k _ _ (q1 e), fun e f => k _ _ (q2 e f), fun e f p hp => k _ _ (q3 e f p hp)⟩
theorem cut_from {α : Type} {f : α → V} {l : List α} {k : Nat} (h : k ≤ l.length) : cutV (l.map f) (some (k : Int)) none = (l.drop k).map f := by
  unfold cutV
  rw [HT.sIx_nat, HT.sIx_none, List.length_map, Nat.min_eq_left h, ← List.map_drop, ← List.map_take]
  congr 1
  rw [List.take_of_length_le]
  rw [List.length_drop]
  exact Nat.le_refl _
theorem paired_tups {K : PySem.W.Frag} {H : Hp} : ∀ {ts : List Addr} {kvs : List (Key × V)}, Paired (fun (t : Addr) (q : Key × V) => H t = some (.tup [kV q.1, q.2])) ts kvs → Paired (fun p (kv : Key × V) => SqT K H p [kV kv.1, kv.2]) ts kvs
  | _, _, .nil => .nil
  | _, _, .cons h t => .cons (.of h) (paired_tups t)
theorem merge_rows {rs : List Row} {f : Row → V} (nd : (rs.map Row.nm).Nodup) : mergeK [] (rs.map fun r => ((.inr r.nm : Key), f r)) = rs.map fun r => ((.inr r.nm : Key), f r) := by
  have := merge_apart (rs.map fun r => ((.inr r.nm : Key), f r)) [] (by
    rw [List.nil_append, List.map_map]
    exact List.pairwise_map.mpr ((List.pairwise_map.mp nd).imp fun hne z => hne (by injection z)))
  rw [List.nil_append] at this
  exact this
end My

set_option Elab.async false
set_option linter.all false
set_option maxRecDepth 100000
set_option maxHeartbeats 4000000
/-! plain machines of the laws, told by rows with names and signs -/
namespace My
open PySem PySem.Spec PyProof.Rows L2
theorem ixN_nat {n k : Nat} (h : k < n) : ixN n (k : Int) = some k := by
  unfold ixN
  rw [if_pos (Int.natCast_nonneg k), if_pos (Int.ofNat_lt.mpr h)]
  rfl
/-- a row as it is told: its list, its turn's tuple, its list of numbers of next rows -/
structure RowIn where
  ra : Addr
  ta : Addr
  turn : List Int
  fa : Addr
  nexts : List Int
structure RowsAt (H : Hp) (r : Addr) (rr : List RowIn) : Prop where
  top : H r = some (.lst (rr.map fun q => V.ref q.ra))
  row : ∀ q ∈ rr, H q.ra = some (.lst [.ref q.ta, .ref q.fa])
  turn : ∀ q ∈ rr, H q.ta = some (.tup (q.turn.map V.int))
  nexts : ∀ q ∈ rr, H q.fa = some (.lst (q.nexts.map V.int))
theorem RowsAt.same {H H' : Hp} {r : Addr} {rr : List RowIn} (h : RowsAt H r rr) (s : Same H H') : RowsAt H' r rr := ⟨s _ _ h.top, fun q hq => s _ _ (h.row q hq), fun q hq => s _ _ (h.turn q hq), fun q hq => s _ _ (h.nexts q hq)⟩
structure RowInOk (n m : Nat) (q : RowIn) : Prop where
  turn : q.turn.Perm (upto n)
  many : q.nexts.length = n
  among : ∀ z ∈ q.nexts, 0 ≤ z ∧ z < m
/-- two dicts that are being made -/
structure HM (H : Hp) (t x : Addr) (ts : List (Str × Addr × List Int)) (xs : List (Str × Addr × List Str)) : Prop where
  tk : H t = some (.dK (ts.map fun r => ((.inr r.1 : Key), V.ref r.2.1)))
  xk : H x = some (.dK (xs.map fun r => ((.inr r.1 : Key), V.ref r.2.1)))
  tt : ∀ r ∈ ts, H r.2.1 = some (.tup (r.2.2.map V.int))
  xt : ∀ r ∈ xs, H r.2.1 = some (.tup (r.2.2.map V.str))
theorem HM.same {H H' : Hp} {t x : Addr} {ts : List (Str × Addr × List Int)} {xs : List (Str × Addr × List Str)} (h : HM H t x ts xs) (s : Same H H') : HM H' t x ts xs :=
  ⟨s _ _ h.tk, s _ _ h.xk, fun r hr => s _ _ (h.tt r hr), fun r hr => s _ _ (h.xt r hr)⟩
theorem HM.half {H : Hp} {t x : Addr} {rs : List Row} (h : HM H t x (tsOf rs) (xsOf rs)) : Half H t x rs := by
  refine ⟨?_, ?_, fun r hr => h.tt (r.nm, r.ta, r.turn) (List.mem_map.mpr ⟨r, hr, rfl⟩), fun r hr => h.xt (r.nm, r.xa, r.nexts) (List.mem_map.mpr ⟨r, hr, rfl⟩)⟩
  · rw [h.tk, tsOf, List.map_map]
    rfl
  · rw [h.xk, xsOf, List.map_map]
    rfl
/-- a list beside them is written -/
theorem HM.putL {H : Hp} {t x D : Addr} {ts : List (Str × Addr × List Int)} {xs : List (Str × Addr × List Str)} {o os : List V} (h : HM H t x ts xs) (hD : H D = some (.lst os)) : HM (upd H D (.lst o)) t x ts xs := by
  have nt : ∀ b l, H b = some (.tup l) → b ≠ D := fun b l e q => by rw [q, hD] at e; cases e
  have nk : ∀ b l, H b = some (.dK l) → b ≠ D := fun b l e q => by rw [q, hD] at e; cases e
  exact ⟨by rw [upd_ne (nk _ _ h.tk)]; exact h.tk, by rw [upd_ne (nk _ _ h.xk)]; exact h.xk, fun r hr => by rw [upd_ne (nt _ _ (h.tt r hr))]; exact h.tt r hr, fun r hr => by rw [upd_ne (nt _ _ (h.xt r hr))]; exact h.xt r hr⟩
theorem HM.putT {H : Hp} {t x ta : Addr} {ts : List (Str × Addr × List Int)} {xs : List (Str × Addr × List Str)} {z : Str} {l : List Int} (h : HM H t x ts xs) (tx : t ≠ x) (hz : z ∉ ts.map (·.1)) (ha : H ta = some (.tup (l.map V.int))) :
    HM (upd H t (.dK (putK (ts.map fun r => ((.inr r.1 : Key), V.ref r.2.1)) (.inr z) (.ref ta)))) t x (ts ++ [(z, ta, l)]) xs := by
  have nt : ∀ b xs', H b = some (.tup xs') → b ≠ t := fun b xs' e q => by rw [q, h.tk] at e; cases e
  refine ⟨by rw [upd_same, put_last hz], by rw [upd_ne tx.symm]; exact h.xk, fun r hr => ?_, fun r hr => by rw [upd_ne (nt _ _ (h.xt r hr))]; exact h.xt r hr⟩
  rcases List.mem_append.mp hr with hr | hr
  · rw [upd_ne (nt _ _ (h.tt r hr))]
    exact h.tt r hr
  · obtain rfl := List.mem_singleton.mp hr
    rw [upd_ne (nt _ _ ha)]
    exact ha
theorem HM.putX {H : Hp} {t x xa : Addr} {ts : List (Str × Addr × List Int)} {xs : List (Str × Addr × List Str)} {z : Str} {l : List Str} (h : HM H t x ts xs) (tx : t ≠ x) (hz : z ∉ xs.map (·.1)) (ha : H xa = some (.tup (l.map V.str))) :
    HM (upd H x (.dK (putK (xs.map fun r => ((.inr r.1 : Key), V.ref r.2.1)) (.inr z) (.ref xa)))) t x ts (xs ++ [(z, xa, l)]) := by
  have nt : ∀ b xs', H b = some (.tup xs') → b ≠ x := fun b xs' e q => by rw [q, h.xk] at e; cases e
  refine ⟨by rw [upd_ne tx]; exact h.tk, by rw [upd_same, put_last hz], fun r hr => by rw [upd_ne (nt _ _ (h.tt r hr))]; exact h.tt r hr, fun r hr => ?_⟩
  rcases List.mem_append.mp hr with hr | hr
  · rw [upd_ne (nt _ _ (h.xt r hr))]
    exact h.xt r hr
  · obtain rfl := List.mem_singleton.mp hr
    rw [upd_ne (nt _ _ ha)]
    exact ha
theorem getD_in {β : Type} (z : β) {l : List β} {i : Nat} (h : i < l.length) : l.getD i z = l[i] := by
  rw [List.getD_eq_getElem?_getD, List.getElem?_eq_getElem h]
  rfl
/-- a list over a permutation of its places -/
theorem map_at {β : Type} (z : β) (l : List β) {n : Nat} (h : l.length = n) : (upto n).map (fun i => l.getD i.toNat z) = l := by
  refine List.ext_getElem (by rw [List.length_map, upto, List.length_map, List.length_range]; exact h.symm) fun i h1 h2 => ?_
  rw [List.getElem_map]
  unfold upto
  rw [List.getElem_map, List.getElem_range]
  show l.getD ((i : Int).toNat) z = l[i]
  rw [Int.toNat_natCast, getD_in z h2]
theorem conj_perm {s t l : List Int} {n : Nat} (hs : s.Perm (upto n)) (ht : t.Perm (upto n)) (hl : l.length = n) (h : ∀ (j : Nat) (hj : j < n), l.getD (s.getD j 0).toNat 0 = s.getD (t.getD j 0).toNat 0) : l.Perm (upto n) := by
  have ls : s.length = n := by rw [hs.length_eq, upto, List.length_map, List.length_range]
  have lt : t.length = n := by rw [ht.length_eq, upto, List.length_map, List.length_range]
  have a := (hs.map fun i => l.getD i.toNat 0)
  rw [map_at 0 l hl] at a
  have b := (ht.map fun i => s.getD i.toNat 0)
  rw [map_at 0 s ls] at b
  have c : (s.map fun i => l.getD i.toNat 0) = t.map fun i => s.getD i.toNat 0 := by
    refine List.ext_getElem (by rw [List.length_map, List.length_map]; omega) fun j h1 h2 => ?_
    rw [List.length_map] at h1 h2
    rw [List.getElem_map, List.getElem_map]
    have q := h j (by omega)
    rw [getD_in (l := s) 0 h1, getD_in (l := t) 0 h2] at q
    exact q
  exact a.symm.trans ((c ▸ b).trans hs)
theorem perm_in {l : List Int} {n : Nat} (h : l.Perm (upto n)) {i : Nat} (hi : i < n) : 0 ≤ l.getD i 0 ∧ l.getD i 0 < n := by
  have e : l.length = n := by rw [h.length_eq, upto_len]
  rw [getD_in 0 (by omega)]
  exact mem_upto.mp (h.mem_iff.mp (List.getElem_mem _))
theorem perm_inj {l : List Int} {n : Nat} (h : l.Perm (upto n)) {i j : Nat} (hi : i < n) (hj : j < n) (e : l.getD i 0 = l.getD j 0) : i = j := by
  have el : l.length = n := by rw [h.length_eq, upto_len]
  rw [getD_in 0 (by omega), getD_in 0 (by omega)] at e
  have nd := List.pairwise_iff_getElem.mp (h.nodup_iff.mpr (upto_nodup n))
  rcases Nat.lt_trichotomy i j with q | q | q
  · exact absurd e (nd i j (by omega) (by omega) q)
  · exact q
  · exact absurd e.symm (nd j i (by omega) (by omega) q)
theorem perm_hit {l : List Int} {n : Nat} (h : l.Perm (upto n)) {k : Nat} (hk : k < n) : ∃ i, i < n ∧ l.getD i 0 = k := by
  have el : l.length = n := by rw [h.length_eq, upto_len]
  have m : (k : Int) ∈ l := h.mem_iff.mpr (mem_upto.mpr ⟨Int.natCast_nonneg k, Int.ofNat_lt.mpr hk⟩)
  obtain ⟨i, hi, e⟩ := List.getElem_of_mem m
  exact ⟨i, by omega, by rw [getD_in 0 hi]; exact e⟩
theorem getD_set {β : Type} (z : β) {l : List β} {k m : Nat} {v : β} (hk : k < l.length) : (l.set k v).getD m z = if m = k then v else l.getD m z := by
  by_cases e : m = k
  · subst e
    rw [if_pos rfl, getD_in z (by rw [List.length_set]; exact hk), List.getElem_set_self]
  · rw [if_neg e, List.getD_eq_getElem?_getD, List.getD_eq_getElem?_getD, List.getElem?_set_ne (fun q => e q.symm)]
theorem atI_int {l : List Int} {i : Int} {k : Nat} (e : i = k) (h : k < l.length) : atI (l.map V.int) i = some (.int (l.getD k 0)) :=
  at_of (j := k) e (by rw [List.getElem?_map, List.getElem?_eq_getElem h, getD_in 0 h]; rfl)
theorem atI_str {l : List Str} {i : Int} {k : Nat} (e : i = k) (h : k < l.length) : atI (l.map V.str) i = some (.str (l.getD k "")) :=
  at_of (j := k) e (by rw [List.getElem?_map, List.getElem?_eq_getElem h, getD_in ("" : Str) h]; rfl)
/-- a plain machine, told by rows, with names and signs -/
def spNamed (K : PySem.W.Frag) : Sp := fun vs H Q _ => ∃ (r a sg : Addr) (n : Nat) (ns : List Str) (sl : List Int) (rr : List RowIn), vs = [.ref r, .ref a, .ref sg] ∧ H a = some (.lst (ns.map V.str)) ∧ H sg = some (.tup (sl.map V.int)) ∧ sl.Perm (upto n) ∧ 2 ≤ n ∧ n ≤ 4 ∧ ns.Nodup ∧ (∀ z ∈ ns, z ∈ NAMES) ∧ ns.length = rr.length ∧ 1 ≤ rr.length ∧ rr.length ≤ 8 ∧
  RowsAt H r rr ∧ (∀ q ∈ rr, RowInOk n rr.length q) ∧
  ∀ (H' : Hp) (p t x : Addr) (rs : List Row), Same H H' → H p = none → H t = none → H x = none → p ≠ t → p ≠ x → t ≠ x → PlainAt H' p t x n rs → Good n rs → rs.length = rr.length → Q (.ref p) H'
end My

set_option Elab.async false
set_option linter.all false
set_option maxRecDepth 100000
set_option maxHeartbeats 4000000
/-! tables of rows, written out -/
namespace My
open PySem PySem.Spec PyProof.Rows L2
def intsT : List Int → TA
  | [] => tNil
  | i :: l => tCons (tC (.int i)) (intsT l)
def rowT (q : List Int × List Int) : TE := tLst (tCons (tTup (intsT q.1)) (tCons (tLst (intsT q.2)) tNil))
def rowsT : List (List Int × List Int) → TA
  | [] => tNil
  | q :: l => tCons (rowT q) (rowsT l)
structure RowIn1 (H : Hp) (q : RowIn) : Prop where
  row : H q.ra = some (.lst [.ref q.ta, .ref q.fa])
  turn : H q.ta = some (.tup (q.turn.map V.int))
  nexts : H q.fa = some (.lst (q.nexts.map V.int))
theorem RowIn1.same {H H' : Hp} {q : RowIn} (h : RowIn1 H q) (s : Same H H') : RowIn1 H' q := ⟨s _ _ h.row, s _ _ h.turn, s _ _ h.nexts⟩
theorem ints_read : ∀ {l : List Int} {σ : L2.St} {H : Hp} {Q : List V → Hp → Prop}, Q (l.map V.int) H → intsT l σ H Q
  | [], _, _, _, h => h
  | i :: l, σ, H, Q, h => ints_read (l := l) (Q := fun xs H2 => Q (.int i :: xs) H2) h
theorem row_read {s : List Int × List Int} {σ : L2.St} {H : Hp} {Q : VK} (l1 : s.1.length ≤ 8) (l2 : s.2.length ≤ 8) (h : ∀ (ra ta fa : Addr) (H' : Hp), Same H H' → H ra = none → H fa = none → RowIn1 H' ⟨ra, ta, s.1, fa, s.2⟩ → Q (.ref ra) H') : rowT s σ H Q := by
  refine ints_read (l := s.1) ⟨by rw [List.length_map, sizeLine_eq]; omega, fun ta hta => ints_read (l := s.2) ⟨by rw [List.length_map, sizeLine_eq]; omega, fun fa hfa => ⟨by show 2 ≤ sizeLine; decide, fun ra hra => ?_⟩⟩⟩
  have sa := same_new (o := HO.tup (s.1.map V.int)) hta
  have sb := same_new (o := HO.lst (s.2.map V.int)) hfa
  have sc := same_new (o := HO.lst [V.ref ta, V.ref fa]) hra
  exact h ra ta fa _ ((sa.trans sb).trans sc) ((sa.trans sb).free hra) (sa.free hfa) ⟨upd_same, (sb.trans sc) _ _ upd_same, sc _ _ upd_same⟩
theorem rows_read : ∀ (l : List (List Int × List Int)) {σ : L2.St} {H : Hp} {Q : List V → Hp → Prop}, (∀ s ∈ l, s.1.length ≤ 8 ∧ s.2.length ≤ 8) → (∀ (H' : Hp) (rr : List RowIn), Same H H' → rr.map (fun q => (q.turn, q.nexts)) = l → (∀ q ∈ rr, RowIn1 H' q ∧ H q.ra = none ∧ H q.fa = none) → Q (rr.map fun q => V.ref q.ra) H') → rowsT l σ H Q
  | [], _, H, _, _, h => h H [] (Same.refl H) rfl fun q hq => absurd hq List.not_mem_nil
  | s :: l, σ, H, Q, hl, h => by
    show rowT s σ H fun x H1 => rowsT l σ H1 fun xs H2 => Q (x :: xs) H2
    refine row_read (s := s) (hl s List.mem_cons_self).1 (hl s List.mem_cons_self).2 fun ra ta fa H1 s1 f1 f2 r1 => ?_
    refine rows_read l (fun s' hs => hl s' (List.mem_cons_of_mem _ hs)) fun H2 rr s2 e r2 => ?_
    refine h H2 (⟨ra, ta, s.1, fa, s.2⟩ :: rr) (s1.trans s2) (by rw [List.map_cons, e]) fun q hq => ?_
    rcases List.mem_cons.mp hq with rfl | hq
    · exact ⟨r1.same s2, f1, f2⟩
    · exact ⟨(r2 q hq).1, s1.free (r2 q hq).2.1, s1.free (r2 q hq).2.2⟩
def SpecOk (n : Nat) (l : List (List Int × List Int)) : Prop := 2 ≤ n ∧ n ≤ 4 ∧ 1 ≤ l.length ∧ l.length ≤ 4 ∧ ∀ s ∈ l, s.1.Perm (upto n) ∧ s.2.length = n ∧ ∀ z ∈ s.2, 0 ≤ z ∧ z < (l.length : Nat)
instance (n : Nat) (l : List (List Int × List Int)) : Decidable (SpecOk n l) := by
  unfold SpecOk
  infer_instance
/-- a table of rows that is good -/
structure Table (n : Nat) (H : Hp) (rd : Addr) (rr : List RowIn) : Prop where
  at_ : RowsAt H rd rr
  ok : ∀ q ∈ rr, RowInOk n rr.length q
  lo : 2 ≤ n
  hi : n ≤ 4
  one : 1 ≤ rr.length
  most : rr.length ≤ 4
theorem Table.drew {n : Nat} {H H' : Hp} {u rd : Addr} {rr : List RowIn} (h : Table n H rd rr) (ne : rd ≠ u) (nr : ∀ q ∈ rr, q.ra ≠ u ∧ q.fa ≠ u) (hu : UrnOk H u) (d : Drew u H H') : Table n H' rd rr :=
  ⟨⟨d.2 _ _ ne h.at_.top, fun q hq => d.2 _ _ (nr q hq).1 (h.at_.row q hq), fun q hq => d.2 _ _ (hu.ne' (h.at_.turn q hq)) (h.at_.turn q hq), fun q hq => d.2 _ _ (nr q hq).2 (h.at_.nexts q hq)⟩, h.ok, h.lo, h.hi, h.one, h.most⟩
theorem table_read {n : Nat} {l : List (List Int × List Int)} (ok : SpecOk n l) {σ : L2.St} {H : Hp} {Q : VK} (h : ∀ (H' : Hp) (rd : Addr) (rr : List RowIn), Same H H' → H rd = none → (∀ q ∈ rr, H q.ra = none ∧ H q.fa = none) → Table n H' rd rr → Q (.ref rd) H') : tLst (rowsT l) σ H Q := by
  obtain ⟨a, b, c, d, e⟩ := ok
  refine rows_read l (fun s hs => ⟨by rw [(e s hs).1.length_eq, upto_len]; omega, by rw [(e s hs).2.1]; omega⟩) fun H' rr s1 er r1 => ⟨?_, fun rd hrd => ?_⟩
  · have := congrArg List.length er
    rw [List.length_map] at this
    rw [List.length_map, sizeLine_eq]
    omega
  · have el := congrArg List.length er
    rw [List.length_map] at el
    have sn := same_new (o := HO.lst (rr.map fun q => V.ref q.ra)) hrd
    refine h _ rd rr (s1.trans sn) (s1.free hrd) (fun q hq => (r1 q hq).2) ⟨⟨upd_same, fun q hq => sn _ _ (r1 q hq).1.row, fun q hq => sn _ _ (r1 q hq).1.turn, fun q hq => sn _ _ (r1 q hq).1.nexts⟩, fun q hq => ?_, a, b, by omega, by omega⟩
    have hm : (q.turn, q.nexts) ∈ l := by rw [← er]; exact List.mem_map.mpr ⟨q, hq, rfl⟩
    obtain ⟨f, g, k⟩ := e _ hm
    exact ⟨f, g, fun z hz => by rw [el]; exact k z hz⟩
/-- a plain machine that is known, drawn -/
def spKnown : Sp := fun vs H Q _ => ∃ (u : Addr), vs = [.ref u] ∧ UrnOk H u ∧
  ∀ (H' : Hp) (p t x : Addr) (n : Nat) (rs : List Row), Drew u H H' → H p = none → H t = none → H x = none → p ≠ t → p ≠ x → t ≠ x → PlainAt H' p t x n rs → Good n rs → rs.length ≤ 4 → Q (.ref p) H'
/-- a plain machine of at most so many states, drawn -/
def spMachine : Sp := fun vs H Q _ => ∃ (u : Addr) (m : Nat), vs = [.ref u, .int m] ∧ UrnOk H u ∧ 1 ≤ m ∧ m ≤ 8 ∧
  ∀ (H' : Hp) (p t x : Addr) (n : Nat) (rs : List Row), Drew u H H' → H p = none → H t = none → H x = none → p ≠ t → p ≠ x → t ≠ x → PlainAt H' p t x n rs → Good n rs → rs.length ≤ max m 4 → Q (.ref p) H'
end My

set_option Elab.async false
set_option linter.all false
set_option maxRecDepth 100000
/-! texts in order stand in one way -/
namespace My
open PySem PySem.Spec PyProof.Rows L2
def leS (a b : Str) : Prop := ltCps b.cps.toList a.cps.toList = false
theorem leS_iff {a b : Str} : leS a b ↔ a.cps.toList ≤ b.cps.toList := by
  unfold leS
  rw [ltCps_eq, decide_eq_false_iff_not]
  exact List.not_lt
theorem leS_trans {a b c : Str} (h : leS a b) (k : leS b c) : leS a c := leS_iff.mpr (List.le_trans (leS_iff.mp h) (leS_iff.mp k))
theorem leS_anti {a b : Str} (h : leS a b) (k : leS b a) : a = b := by
  have e : a.cps.toList = b.cps.toList := List.le_antisymm (leS_iff.mp h) (leS_iff.mp k)
  cases a with
  | mk x =>
    cases b with
    | mk y =>
      congr
      exact Array.toList_inj.mp e
theorem rising_all : ∀ {l : List Str} {p : Str}, risingS p l = true → (p :: l).Pairwise leS
  | [], p, _ => List.pairwise_singleton _ _
  | x :: r, p, h => by
    unfold risingS at h
    rw [Bool.and_eq_true] at h
    have px : leS p x := by
      have := h.1
      rw [Bool.not_eq_true'] at this
      exact this
    have ih := rising_all h.2
    refine List.pairwise_cons.mpr ⟨fun y hy => ?_, ih⟩
    rcases List.mem_cons.mp hy with rfl | hy
    · exact px
    · exact leS_trans px ((List.pairwise_cons.mp ih).1 y hy)
theorem sortedS_all {l : List Str} (h : sortedS l = true) : l.Pairwise leS := by
  cases l with
  | nil => exact List.Pairwise.nil
  | cons x r => exact rising_all h
theorem pair_unique : ∀ {l m : List Str}, l.Perm m → l.Pairwise leS → m.Pairwise leS → l = m
  | [], m, p, _, _ => (List.Perm.nil_eq p)
  | x :: l, [], p, _, _ => absurd p.length_eq (by simp)
  | x :: l, y :: m, p, h1, h2 => by
    have e : x = y := by
      have a : x ∈ y :: m := p.mem_iff.mp List.mem_cons_self
      have b : y ∈ x :: l := p.mem_iff.mpr List.mem_cons_self
      rcases List.mem_cons.mp a with q | a
      · exact q
      · rcases List.mem_cons.mp b with q | b
        · exact q.symm
        · exact leS_anti ((List.pairwise_cons.mp h1).1 y b) ((List.pairwise_cons.mp h2).1 x a)
    subst e
    rw [pair_unique (List.Perm.cons_inv p) (List.pairwise_cons.mp h1).2 (List.pairwise_cons.mp h2).2]
theorem sorted_unique {l m : List Str} (p : l.Perm m) (h1 : sortedS l = true) (h2 : sortedS m = true) : l = m := pair_unique p (sortedS_all h1) (sortedS_all h2)
end My

set_option Elab.async false
set_option linter.all false
set_option maxRecDepth 100000
set_option maxHeartbeats 4000000
/-! a plain machine, told as a text -/
namespace My
open PySem PySem.Spec PyProof.Rows L2
theorem joinS_le (sep : Str) : ∀ l : List Str, (Str.join sep l).length ≤ (l.map (·.length)).sum + l.length * sep.length
  | [] => Nat.zero_le _
  | [x] => by
    show x.length ≤ _
    simp only [List.map_cons, List.map_nil, List.sum_cons, List.sum_nil, List.length_cons, List.length_nil]
    omega
  | x :: y :: r => by
    have ih := joinS_le sep (y :: r)
    show (x ++ sep ++ Str.join sep (y :: r)).length ≤ _
    rw [Str.length_append, Str.length_append]
    simp only [List.map_cons, List.sum_cons, List.length_cons, Nat.add_mul, Nat.one_mul] at ih ⊢
    omega
theorem join_le (sep : Str) (l : List Str) : (Txt.join sep l).length ≤ (l.map (·.length)).sum + l.length * sep.length := by
  show (Builtin.Str.glued sep l).length ≤ _
  rw [StrLaws.glued_eq_join]
  exact joinS_le sep l
theorem sum_le {c : Nat} : ∀ {l : List Nat}, (∀ x ∈ l, x ≤ c) → l.sum ≤ l.length * c
  | [], _ => Nat.zero_le _
  | x :: l, h => by
    have ih := sum_le (l := l) fun y hy => h y (List.mem_cons_of_mem _ hy)
    have hx := h x List.mem_cons_self
    rw [List.sum_cons, List.length_cons, Nat.add_mul, Nat.one_mul]
    omega
theorem sum_map_le {α : Type} {f : α → Nat} {c : Nat} {l : List α} (h : ∀ x ∈ l, f x ≤ c) : (l.map f).sum ≤ l.length * c := by
  have := sum_le (c := c) (l := l.map f) fun y hy => by
    obtain ⟨x, hx, rfl⟩ := List.mem_map.mp hy
    exact h x hx
  rwa [List.length_map] at this
theorem names_short : ∀ z ∈ ALLN, z.length ≤ 8 := by decide +kernel
theorem dig_one : ∀ n : Nat, n < 4 → (Str.ofString (toString (n : Int))).length = 1 := by decide +kernel
theorem dig_len {i : Int} (h0 : 0 ≤ i) (h1 : i < 4) : (Str.ofString (toString i)).length = 1 := by
  obtain ⟨n, rfl⟩ := Int.eq_ofNat_of_zero_le h0
  exact dig_one n (by omega)
theorem small_log {i : Int} (h0 : 0 ≤ i) (h1 : i < 5) : i.natAbs.log2 < 1920 := by
  have : i.natAbs.log2 ≤ i.natAbs := Nat.log2_le_self _
  omega
def digTxt (l : List Int) : Str := Txt.join "" (l.map fun (i : Int) => (Str.ofString (toString i)))
def rowTxt (r : Row) : Str := Txt.join " " (r.nm :: digTxt r.turn :: r.nexts)
def tabTxt (rs : List Row) : Str := Txt.join ", " (rs.map rowTxt)
def lineTxt (n : Nat) (rs : List Row) : Str := Str.ofString "machine of " ++ Str.ofString (toString (n : Int)) ++ Str.ofString " letters: " ++ tabTxt rs
theorem turn_small {n : Nat} {names : List Str} {r : Row} (n4 : n ≤ 4) (h : RowOk n names r) : ∀ i ∈ r.turn, 0 ≤ i ∧ i < 4 := fun i hi => by
  have := mem_upto.mp (h.turn.mem_iff.mp hi)
  omega
theorem turn_len {n : Nat} {names : List Str} {r : Row} (h : RowOk n names r) : r.turn.length = n := by rw [h.turn.length_eq, upto_len]
theorem digs_sum {n : Nat} {names : List Str} {r : Row} (n4 : n ≤ 4) (h : RowOk n names r) : ((r.turn.map fun (i : Int) => (Str.ofString (toString i))).map (·.length)).sum ≤ 4 := by
  rw [List.map_map]
  have := sum_map_le (f := (fun x : Str => x.length) ∘ fun (i : Int) => (Str.ofString (toString i))) (c := 1) (l := r.turn) fun i hi => by
    show (Str.ofString (toString i)).length ≤ 1
    obtain ⟨a, b⟩ := turn_small n4 h i hi
    rw [dig_len a b]
    exact Nat.le_refl 1
  rw [turn_len h] at this
  omega
theorem digTxt_le {n : Nat} {names : List Str} {r : Row} (n4 : n ≤ 4) (h : RowOk n names r) : (digTxt r.turn).length ≤ 4 := by
  have a := join_le "" (r.turn.map fun (i : Int) => (Str.ofString (toString i)))
  have b := digs_sum n4 h
  have e : (Str.ofString "").length = 0 := rfl
  rw [e, Nat.mul_zero] at a
  exact Nat.le_trans a (by omega)
theorem row_sum {n : Nat} {rs : List Row} {r : Row} (gd : GoodM n rs) (hr : r ∈ rs) : ((r.nm :: digTxt r.turn :: r.nexts).map (·.length)).sum ≤ 44 := by
  have rk := gd.ok r hr
  have a := names_short _ (gd.nms r hr)
  have b := digTxt_le gd.hi rk
  have c := sum_map_le (f := (·.length)) (c := 8) (l := r.nexts) fun z hz => by
    obtain ⟨r2, h2, e⟩ := List.mem_map.mp (rk.among z hz)
    rw [← e]
    exact names_short _ (gd.nms r2 h2)
  rw [rk.many] at c
  have := gd.hi
  simp only [List.map_cons, List.sum_cons]
  omega
theorem rowTxt_le {n : Nat} {rs : List Row} {r : Row} (gd : GoodM n rs) (hr : r ∈ rs) : (rowTxt r).length ≤ 50 := by
  have a := join_le " " (r.nm :: digTxt r.turn :: r.nexts)
  have b := row_sum gd hr
  have e : (Str.ofString " ").length = 1 := rfl
  have l : (r.nm :: digTxt r.turn :: r.nexts).length = n + 2 := by rw [List.length_cons, List.length_cons, (gd.ok r hr).many]
  rw [e, l] at a
  have := gd.hi
  show (Txt.join " " _).length ≤ 50
  omega
theorem tab_sum {n : Nat} {rs rs' : List Row} (gd : GoodM n rs) (p : rs'.Perm rs) : ((rs'.map rowTxt).map (·.length)).sum ≤ 400 := by
  rw [List.map_map]
  have := sum_map_le (f := (fun x : Str => x.length) ∘ rowTxt) (c := 50) (l := rs') fun r hr => rowTxt_le gd (p.mem_iff.mp hr)
  rw [p.length_eq] at this
  have := gd.most
  omega
theorem tabTxt_le {n : Nat} {rs rs' : List Row} (gd : GoodM n rs) (p : rs'.Perm rs) : (tabTxt rs').length ≤ 420 := by
  have a := join_le ", " (rs'.map rowTxt)
  have b := tab_sum gd p
  have e : (Str.ofString ", ").length = 2 := rfl
  rw [e, List.length_map, p.length_eq] at a
  have := gd.most
  show (Txt.join ", " _).length ≤ 420
  omega
end My

set_option Elab.async false
set_option linter.all false
set_option maxRecDepth 100000
set_option maxHeartbeats 4000000
/-! an own class of three fields, and what is never reached -/
namespace My
open PySem PySem.Spec PyProof.Rows L2
theorem ps_never {X : Cx} {st : Stmt} : PS X st (fun _ _ _ => False) := ⟨fun _ _ _ _ _ _ h => h.elim⟩
theorem sortSK {X : Cx} (K : PySem.W.Frag) (h : X.K = K := by rfl) : CallR X (.builtin "sorted") (rSortedS K) := h ▸ cr_sortedS
/-- {k: v for .. in something that is walked} -/
theorem dc_walk {J : It} {n : Nat} {G : Hp → Prop} {Y : Nat → Hp → V → Hp → Prop} (wk : Walk J n G Y) {g : TG} {tt : TT} {tk tv : TE} {own : List Nat} {σ : L2.St} {H0 : Hp} {D : Addr} {R : Hp → Prop} (Inn : Nat → Hp → Prop)
    (start : Inn 0 (upd H0 D (.dK []))) (stay : ∀ i H, i ≤ n → Inn i H → G H)
    (step : ∀ i x H H', i < n → Inn i H → Y i H x H' → g x (wipe σ own) H' fun s2 H2 => wipe s2 own = wipe σ own ∧ tt s2 H2 fun b H3 =>
        if b = true then tk s2 H3 fun y H4 => tv s2 H4 fun z H5 => ∃ kvs k, y = kV k ∧ H5 D = some (.dK kvs) ∧ kvs.length < sizeLine ∧ Inn (i + 1) (upd H5 D (.dK (putK kvs k z))) else Inn (i + 1) H3)
    (done : ∀ H, Inn n H → R H) :
    ∃ W : Nat → Nat → Hp → Prop, (∃ m, W 0 m (upd H0 D (.dK []))) ∧ ∀ i m H, W i m H →
      ((J.stop i H ∧ R H) ∨ (J.go i H ∧ ∃ N : Hp → Prop, (∀ H', N H' → ∃ m', m' < m ∧ W (i + 1) m' H') ∧ ∀ x H', J.yld i H x H' → g x (wipe σ own) H' fun s2 H2 => wipe s2 own = wipe σ own ∧ tt s2 H2 fun b H3 =>
        if b = true then tk s2 H3 fun y H4 => tv s2 H4 fun z H5 => ∃ kvs k, y = kV k ∧ H5 D = some (.dK kvs) ∧ kvs.length < sizeLine ∧ N (upd H5 D (.dK (putK kvs k z))) else N H3)) := by
  refine ⟨fun i m H => m + i = n ∧ Inn i H, ⟨n, rfl, start⟩, fun i m H w => ?_⟩
  obtain ⟨em, j⟩ := w
  cases m with
  | zero =>
    have ei : i = n := by omega
    subst ei
    exact .inl ⟨wk.stops H (stay _ H (Nat.le_refl _) j), done H j⟩
  | succ m =>
    have hi : i < n := by omega
    exact .inr ⟨wk.goes i H hi (stay i H (by omega) j), Inn (i + 1), fun H' j' => ⟨m, Nat.lt_succ_self m, by omega, j'⟩, fun x H' y => step i x H H' hi j (wk.yields i H x H' hi (stay i H (by omega) j) y)⟩
theorem perm_lift {α β : Type} {f : α → β} {l m : List β} (p : l.Perm m) : ∀ rs : List α, m = rs.map f → ∃ rs' : List α, rs'.Perm rs ∧ rs'.map f = l := by
  induction p with
  | nil =>
    intro rs e
    exact ⟨rs, List.Perm.refl _, e.symm⟩
  | cons x _ ih =>
    intro rs e
    cases rs with
    | nil => cases e
    | cons r rs =>
      rw [List.map_cons] at e
      injection e with e1 e2
      obtain ⟨rs', p, q⟩ := ih rs e2
      exact ⟨r :: rs', p.cons r, by rw [List.map_cons, q, e1]⟩
  | swap x y l =>
    intro rs e
    cases rs with
    | nil => cases e
    | cons r rs =>
      cases rs with
      | nil => cases e
      | cons r2 rs =>
        rw [List.map_cons, List.map_cons] at e
        injection e with e1 e2
        injection e2 with e2 e3
        exact ⟨r2 :: r :: rs, .swap _ _ _, by rw [List.map_cons, List.map_cons, e1, e2, e3]⟩
  | trans _ _ ih1 ih2 =>
    intro rs e
    obtain ⟨m', p1, q1⟩ := ih2 rs e
    obtain ⟨l', p2, q2⟩ := ih1 m' q1.symm
    exact ⟨l', p2.trans p1, q2⟩
theorem putK_new {kvs : List (Key × V)} {k : Key} {v : V} (h : ∀ kv ∈ kvs, kv.1 ≠ k) : putK kvs k v = kvs ++ [(k, v)] := by
  have e : (kvs.any fun kv => decide (kv.1 = k)) = false := by
    rw [List.any_eq_false]
    intro kv hk q
    exact h kv hk (of_decide_eq_true q)
  unfold putK
  rw [e, if_neg (by decide)]
theorem putF_le (f : Str) (v : V) : ∀ fs : List (Str × V), (putF f v fs).length ≤ fs.length + 1
  | [] => Nat.le_refl _
  | (g, u) :: r => by
    have ih := putF_le f v r
    unfold putF
    split
    · simp only [List.length_cons]
      omega
    · simp only [List.length_cons]
      omega
/-- the three fields of a machine -/
def mF (n : Nat) (st td : Addr) : List (Str × V) := putF "_table" (.ref td) (putF "_states" (.ref st) (putF "_letters" (.int n) []))
theorem mF_apart : ¬ (("_letters" : Str) = "_states") ∧ ¬ (("_letters" : Str) = "_table") ∧ ¬ (("_states" : Str) = "_table") := by decide +kernel
theorem mF_letters (n : Nat) (st td : Addr) : (mF n st td).lookup ("_letters" : Str) = some (.int n) := by
  unfold mF
  rw [lookup_putF, if_neg mF_apart.2.1, lookup_putF, if_neg mF_apart.1, lookup_putF, if_pos rfl]
theorem mF_states (n : Nat) (st td : Addr) : (mF n st td).lookup ("_states" : Str) = some (.ref st) := by
  unfold mF
  rw [lookup_putF, if_neg mF_apart.2.2, lookup_putF, if_pos rfl]
theorem mF_table (n : Nat) (st td : Addr) : (mF n st td).lookup ("_table" : Str) = some (.ref td) := by
  unfold mF
  rw [lookup_putF, if_pos rfl]
theorem mF_no (n : Nat) (st td : Addr) {m : Str} (h1 : ¬ m = "_table") (h2 : ¬ m = "_states") (h3 : ¬ m = "_letters") : (mF n st td).lookup m = none := by
  unfold mF
  rw [lookup_putF, if_neg h1, lookup_putF, if_neg h2, lookup_putF, if_neg h3]
  rfl
end My

set_option Elab.async false
set_option linter.all false
set_option maxRecDepth 100000
set_option maxHeartbeats 4000000
/-! exceptions of the program's own classes as values: made, kept, asked for their class and their fields, said as text -/
namespace My
open PySem PySem.Spec PyProof.Rows L2
/-- an exception at a with its own dict at d -/
def ExD (C d a : Addr) : HO := .ext fun h => ∃ (oe : Obj) (vs : Array Value), h.get? a = some oe ∧ Zc (.ref C) (some d) oe ∧ oe.data = .fields vs
theorem exD_ok {P : Program} {w : World} {H : Hp} {h : Heap} {a C d : Addr} {oe : Obj} {vs : Array Value} (e : h.get? a = some oe) (z : Zc (.ref C) (some d) oe) (q : oe.data = .fields vs) : ObjOk P w H h a (ExD C d a) :=
  ⟨⟨oe, vs, e, z, q⟩, ⟨oe, e⟩, fun _ _ ⟨o, v, q, r⟩ k => ⟨o, v, k o q, r⟩⟩
/-- behind the making of an exception with a dict of its own -/
theorem made_value {X : Cx} {pins : List (Addr × Obj)} {σ : L2.St} {H : Hp} {s : Shared} {h' : Heap} {tk' : Nat} {e C d : Addr} {u : HO} {oe : Obj} {fv : Array Value} {Q : VK} (I : Inv X pins σ H s) (kp : ∀ b o, s.heap.get? b = some o → h'.get? b = some o) (ne : s.heap.objs.size ≤ e) (nd : s.heap.objs.size ≤ d) (de : d ≠ e)
    (ob : ∀ G' : Heap, (∀ o, h'.get? d = some o → G'.get? d = some o) → ObjOk X.prog X.w (upd H d u) G' d u) (he : h'.get? e = some oe) (hc : oe.cls = .ref C) (hd : oe.dict = some d) (hf : oe.data = .fields fv)
    (q : H d = none → H e = none → d ≠ e → Q (.ref e) (upd (upd H d u) e (ExD C d e))) : EP X pins σ Q (.ref e) { s with heap := h', toks := tk' } := by
  obtain ⟨G', g1, g2⟩ := restrict h' fun b => decide (b ≠ e)
  have gk : ∀ b, b ≠ e → G'.get? b = h'.get? b := fun b hb => g1 b (decide_eq_true hb)
  have ge : G'.get? e = none := g2 e (by simp)
  have up : ∀ b o, G'.get? b = some o → h'.get? b = some o := fun b o z => by
    by_cases hb : b = e
    · rw [hb, ge] at z; cases z
    · exact (gk b hb).symm.trans z
  have old : ∀ b o, s.heap.get? b = some o → G'.get? b = some o := fun b o z => (gk b (Nat.ne_of_lt (Nat.lt_of_lt_of_le (Heap.lt_size z) ne))).trans (kp b o z)
  have J : Inv X pins σ (upd H d u) { s with heap := G', toks := tk' } := I.laid (t' := tk') old nd (ob G' fun o z => (gk d de).trans z)
  have f1 : H d = none := I.hok.fresh nd
  have f2 : H e = none := I.hok.fresh ne
  have f3 : upd H d u e = none := by rw [upd_ne de.symm]; exact f2
  have J2 : Inv X pins σ (upd (upd H d u) e (ExD C d e)) { s with heap := h', toks := tk' } := J.laidN up ge f3 (exD_ok he ⟨hc, hd⟩ hf)
  exact ⟨.ref e, _, J2, rfl, q f1 f2 de⟩
/-- an exception of the class C stands at a, with these fields of its own -/
def ErrAt (H : Hp) (a C : Addr) (fs : List (Str × V)) : Prop := (H a = some (ExO (.ref C) a) ∧ fs = []) ∨ ∃ d, H a = some (ExD C d a) ∧ H d = some (.xd fs)
theorem ErrAt.same {H H' : Hp} {a C : Addr} {fs : List (Str × V)} (h : ErrAt H a C fs) (s : Same H H') : ErrAt H' a C fs := by
  rcases h with ⟨h, e⟩ | ⟨d, h, e⟩
  · exact .inl ⟨s _ _ h, e⟩
  · exact .inr ⟨d, s _ _ h, s _ _ e⟩
section
variable {X : Cx} {pins : List (Addr × Obj)} {σ : L2.St} {H : Hp} {s : Shared}
theorem err_inst {a C : Addr} {fs : List (Str × V)} (I : Inv X pins σ H s) (h : ErrAt H a C fs) : ∃ oe od, PySem.W.InstAt s.heap a oe C od := by
  rcases h with ⟨h, _⟩ | ⟨d, h, e⟩
  · obtain ⟨⟨oe, vs, ho, hz, hd, _⟩, _, _⟩ := I.hok a _ h
    exact ⟨oe, none, ho, hz.1, by unfold PySem.W.notCls; rw [hd] <;> rfl, by rw [hz.2]; trivial⟩
  · obtain ⟨⟨oe, vs, ho, hz, hd⟩, _, _⟩ := I.hok a _ h
    obtain ⟨mA, hns, hr⟩ := (show ObjOk X.prog X.w H s.heap d (.xd fs) from I.hok d _ e)
    obtain ⟨od, hod, hl⟩ := lookIn_ns hns
    exact ⟨oe, some od, ho, hz.1, by unfold PySem.W.notCls; rw [hd] <;> rfl, by rw [hz.2]; exact hod⟩
end
/-- what the written part says of an exception class -/
structure ExKit (K : PySem.W.Frag) (C : Addr) : Prop where
  cl : (PySem.W.clsIn K C).isSome = true
  ga : PySem.W.findIn K (.ref C) "__getattribute__" = some (some (.builtin "BaseException.__getattribute__"))
  gg : PySem.W.findIn K (.ref C) "__getattr__" = some none
  ex : PySem.W.subIn K (.ref C) (.type "BaseException") = some true
  cc : PySem.W.findIn K (.ref C) "__class__" = some (some (.builtin "object.__class__"))
  cg : PySem.W.specialIn K (.builtin "object.__class__") "__get__" = some (some (.builtin "getset_descriptor.__get__"))
  ct : PySem.W.takesIn K (.builtin "object.__class__") = some true
  mo : PySem.W.mroIn K C (.type "object") = some true
/-- isinstance of such an exception -/
def rIsE (K : PySem.W.Frag) : List V → Hp → VK → Prop := fun xs H Q => ∃ (a C : Addr) (fs : List (Str × V)) (c : V) (u : Value) (b : Bool), xs = [.ref a, c] ∧ ClsV c u ∧ ErrAt H a C fs ∧ ExKit K C ∧ PySem.W.kitOne K (.ref C) u = some b ∧ Q (.bl b) H
theorem isiE {X : Cx} (K : PySem.W.Frag) (hK : X.K = K := by rfl) : CallR X (.builtin "isinstance") (rIsE K) := by
  subst hK
  intro pins s σ H xs us Q I r h
  obtain ⟨a, C, fs, c, u, b, rfl, k, er, kt, e, q⟩ := h
  obtain ⟨u1, u2, rfl, r1, r2⟩ := vals2 r
  have e2 := k.eq r2
  subst e2
  cases (show u1 = Value.ref a from r1)
  obtain ⟨oe, od, J⟩ := err_inst I er
  exact PySem.W.kia_one (PySem.W.kitx_exc kt.cl kt.ga kt.gg kt.ex kt.cc kt.cg kt.ct kt.mo) I.kIn J e (fun z => nomatch z) fun tk => ⟨.bl b, H, I.tok tk, rfl, q⟩
/-- e.f of such an exception -/
def tExAt (C : Addr) (f : Str) (te : TE) : TE := fun σ H Q => te σ H fun x H1 => ∃ a d v, x = .ref a ∧ H1 a = some (ExD C d a) ∧ H1 d = some (.xd [(f, v)]) ∧ Q v H1
theorem pe_exAt {X : Cx} {C : Addr} {f : Str} {e : Expr} {te : TE} {pos : Pos} (kt : ExKit X.K C) (hd : PySem.W.hasDictIn X.K C = true) (no : PySem.W.findIn X.K (.ref C) f = some none) (he : PE X e te) (hb : attributeBase e f X.env (eval e X.env) = eval e X.env := by rfl) :
    PE X (.Attribute e f pos) (tExAt C f te) := by
  refine ⟨fun pins s σ H Q I h => attr_of hb (thn (he.run pins s σ H _ I h) fun u s1 hh => ?_)⟩
  obtain ⟨x, H1, I1, rx, a, d, v, ex, ea, ed, q⟩ := hh
  subst ex
  obtain rfl : u = Value.ref a := rx
  obtain ⟨⟨oe, vs, ho, hz, hdt⟩, _, _⟩ := I1.hok a _ ea
  obtain ⟨mA, hns, hr⟩ := (show ObjOk X.prog X.w H1 s1.heap d (.xd [(f, v)]) from I1.hok d _ ed)
  obtain ⟨od, hod, hl⟩ := lookIn_ns hns
  have l : List.lookup f [(f, v)] = some v := by simp [List.lookup]
  obtain ⟨u, hu, ru⟩ := RelO.some_of (v := v) (o := mA f) (by rw [← l]; exact hr f)
  have J : PySem.W.InstAt s1.heap a oe C (some od) := ⟨ho, hz.1, by unfold PySem.W.notCls; rw [hdt] <;> rfl, by rw [hz.2]; exact hod⟩
  exact HandSPX.exc_get I1.kIn J kt.ga kt.gg kt.ex (PySem.W.findObj_own hd no rfl (by rw [hl, hu])) (handed_of ru) ⟨v, H1, I1.tok _, ru, q⟩
/-- str(e) by an own __str__ -/
def rStrE (C : Addr) (sp : Sp) (E : XK) : List V → Hp → VK → Prop := fun xs H Q => ∃ (a : Addr) (fs : List (Str × V)), xs = [.ref a] ∧ ErrAt H a C fs ∧ sp [.ref a] H (fun v H' => ∃ z, v = .str z ∧ Q v H') E
theorem strE {X : Cx} {C g : Addr} {gd : FuncData} {k : Nat} {sp : Sp} {E : XK} {CX : CXT} (hs : PySem.W.findIn X.K (.ref C) "__str__" = some (some (.ref g))) (hf : PySem.W.isFn X.K (.ref g) = true) (F : FnG X.prog X.w X.K X.mg X.base CX k g gd ["self"] sp) (hg : X.A.guards = some []) (hr : Room (k + 2) X.A) (hb : Binds X.K gd ["self"] []) (hx : Passes CX X E) :
    CallR X (.type "str") (rStrE C sp E) := by
  intro pins s σ H xs us Q I r h
  obtain ⟨a, fs, rfl, er, q⟩ := h
  obtain ⟨u, rfl, ru⟩ := vals1 r
  cases (show u = Value.ref a from ru)
  obtain ⟨oe, od, J⟩ := err_inst I er
  have hr1 : Room (k + 1) X.A.in1 := hr.in1
  refine PySem.W.kso_call (by have := hr.un; show X.A.units + 1 + 1 < cLine; omega) I.kIn J hs hf (wpAny_call (codeAny_mono (F.runs X.A.in1.in1 X.stack s H ⟨[.ref a], []⟩ [.ref a] [.ref a] _ E hg hr1.in1 I.env0.in1.in1 (hb s [.ref a] I.kIn rfl) (.cons rfl .nil) q) fun z s' hq => ?_))
  match z, hq with
  | .error e, hq => exact hx pins σ H s e s' I hq
  | .ok .next, hq => exact hq.elim
  | .ok .brk, hq => exact hq.elim
  | .ok .cont, hq => exact hq.elim
  | .ok (.ret u), hq =>
    obtain ⟨v, H', I', rv, z, rfl, q'⟩ := I.after hq
    obtain ⟨t, rfl⟩ := (show ∃ t, u = Value.str z t from rv)
    exact ⟨.str z, H', I', ⟨t, rfl⟩, q'⟩
end My

set_option Elab.async false
set_option linter.all false
set_option maxRecDepth 100000
set_option maxHeartbeats 4000000
/-! x in an own object, len of one -/
namespace My
open PySem PySem.Spec PyProof.Rows L2
section
variable {X : Cx} {CX : CXT} {k : Nat} {C f : Addr} {fd : FuncData} {ps : List Str} {sp : Sp} {E : XK}
/-- x in o, o an own object: its method's promise; a truth value comes -/
def rInO (C : Addr) (sp : Sp) (E : XK) (neg : Bool) : R2 := fun x y H Q => ∃ (p dx : Addr) (fs : List (Str × V)), y = .ref p ∧ H p = some (.ins C dx fs) ∧ sp [.ref p, x] H (fun r H' => ∃ b, r = .bl b ∧ Q (.bl (if neg then !b else b)) H') E
theorem op_inO (F : FnOk X.prog X.w X.K X.mg X.base CX k f fd ps sp) (hr : Room k X.A) (hb : Binds X.K fd ps []) (hx : Passes CX X E) (m : Meth X.K C "__contains__" f) : OpR X (compareOp .In) (rInO C sp E false) := by
  intro pins s σ H x y v u Q I rx ry h
  obtain ⟨p, dx, fs, rfl, hp, q⟩ := h
  obtain rfl : u = Value.ref p := ry
  obtain ⟨mA, J, _⟩ := ins_get I.hok hp
  obtain ⟨od, J, _⟩ := J.look
  obtain ⟨m', hF⟩ := I.fr
  refine PySem.W.in_K hF I.ok.mod.kin J m.at_ m.fn ?_
  refine wpAny_mono (run_fn (us := [.ref p, v]) (vs := [.ref p, x]) F hr hb .nil hx I (.cons rfl (.cons rx .nil)) q) (fun r s' z => ?_) (fun _ _ z => z)
  obtain ⟨w, H', I', rw_, b, rfl, q⟩ := z
  cases rw_
  exact wpAny_truthy_bool ⟨.bl b, H', I', rfl, q⟩
theorem op_notInO (F : FnOk X.prog X.w X.K X.mg X.base CX k f fd ps sp) (hr : Room k X.A) (hb : Binds X.K fd ps []) (hx : Passes CX X E) (m : Meth X.K C "__contains__" f) : OpR X (compareOp .NotIn) (rInO C sp E true) := by
  intro pins s σ H x y v u Q I rx ry h
  obtain ⟨p, dx, fs, rfl, hp, q⟩ := h
  obtain rfl : u = Value.ref p := ry
  obtain ⟨mA, J, _⟩ := ins_get I.hok hp
  obtain ⟨od, J, _⟩ := J.look
  obtain ⟨m', hF⟩ := I.fr
  refine PySem.W.notIn_K hF I.ok.mod.kin J m.at_ m.fn ?_
  refine wpAny_mono (run_fn (us := [.ref p, v]) (vs := [.ref p, x]) F hr hb .nil hx I (.cons rfl (.cons rx .nil)) q) (fun r s' z => ?_) (fun _ _ z => z)
  obtain ⟨w, H', I', rw_, b, rfl, q⟩ := z
  cases rw_
  exact wpAny_truthy_bool ⟨.bl (!b), H', I', rfl, q⟩
/-- len(o), o an own object -/
def rLenO (C : Addr) (sp : Sp) (E : XK) : List V → Hp → VK → Prop := fun xs H Q => ∃ (p dx : Addr) (fs : List (Str × V)), xs = [.ref p] ∧ H p = some (.ins C dx fs) ∧ sp [.ref p] H (fun r H' => ∃ n : Nat, r = .int n ∧ n ≤ sizeLine ∧ Q (.int n) H') E
theorem call_lenO (F : FnOk X.prog X.w X.K X.mg X.base CX k f fd ps sp) (hr : Room (k + 1) X.A) (hb : Binds X.K fd ps []) (hx : Passes CX X E) (m : Meth X.K C "__len__" f) : CallR X (.builtin "len") (rLenO C sp E) := by
  intro pins s σ H xs us Q I r h
  obtain ⟨p, dx, fs, rfl, hp, q⟩ := h
  rw [Vals.ref1 r]
  obtain ⟨mA, J, _⟩ := ins_get I.hok hp
  obtain ⟨od, J, _⟩ := J.look
  obtain ⟨m', hF⟩ := I.fr
  refine PySem.W.len_K hF I.ok.mod.kin J m.at_ m.fn ?_
  have e0 : Env0 X.prog X.w X.K X.mg X.base X.A.in1 X.stack s H := by
    have e := I.env0
    exact ⟨e.frames, e.mod, e.bs, e.bsz, e.funs, e.frf, e.hok, e.bare⟩
  have hl := F.len _ _ _ _ q
  have r2 : Vals [V.ref p] [Value.ref p] := .cons rfl .nil
  refine wpAny_call (codeAny_mono (F.run X.A.in1 X.stack s H ⟨[.ref p], []⟩ [.ref p] [.ref p] _ E hr.in1 e0 (by
    have := hb s [.ref p] I.kIn (by simpa using hl)
    simpa using this) r2 q) fun r s' hq => ?_)
  cases r with
  | error e => exact hx pins σ H s e s' I hq
  | ok fl =>
    cases fl with
    | ret w =>
      obtain ⟨z, H', I', rz, n, ez, few, hQ⟩ := I.after hq
      subst ez
      obtain ⟨t, rfl⟩ := rz
      have : sizeLine < 2 ^ 63 := by rw [sizeLine_eq]; decide
      exact ⟨⟨Int.natCast_nonneg n, by omega⟩, .int n, H', I'.tok _, ⟨_, rfl⟩, hQ⟩
    | next => exact False.elim hq
    | brk => exact False.elim hq
    | cont => exact False.elim hq
/-- str(o), o an own object -/
def rStrO (C : Addr) (sp : Sp) (E : XK) : List V → Hp → VK → Prop := fun xs H Q => ∃ (p dx : Addr) (fs : List (Str × V)), xs = [.ref p] ∧ H p = some (.ins C dx fs) ∧ sp [.ref p] H (fun r H' => ∃ z : Str, r = .str z ∧ Q (.str z) H') E
theorem call_strO (F : FnOk X.prog X.w X.K X.mg X.base CX k f fd ps sp) (hr : Room (k + 2) X.A) (hb : Binds X.K fd ps []) (hx : Passes CX X E) (m : Meth X.K C "__str__" f) : CallR X (.type "str") (rStrO C sp E) := by
  intro pins s σ H xs us Q I r h
  obtain ⟨p, dx, fs, rfl, hp, q⟩ := h
  rw [Vals.ref1 r]
  obtain ⟨mA, J, _⟩ := ins_get I.hok hp
  obtain ⟨od, J, _⟩ := J.look
  have hl := F.len _ _ _ _ q
  have r2 : Vals [V.ref p] [Value.ref p] := .cons rfl .nil
  have e0 : Env0 X.prog X.w X.K X.mg X.base X.A.in1.in1 X.stack s H := by
    have e := I.env0
    exact ⟨e.frames, e.mod, e.bs, e.bsz, e.funs, e.frf, e.hok, e.bare⟩
  have hr1 : Room (k + 1) X.A.in1 := hr.in1
  refine PySem.W.kso_call (by have := hr.units; show X.A.units + 1 + 1 < cLine; omega) I.kIn J m.at_ m.fn (wpAny_call (codeAny_mono (F.run X.A.in1.in1 X.stack s H ⟨[.ref p], []⟩ [.ref p] [.ref p] _ E hr1.in1 e0 (by
    have := hb s [.ref p] I.kIn (by simpa using hl)
    simpa using this) r2 q) fun r s' hq => ?_))
  cases r with
  | error e => exact hx pins σ H s e s' I hq
  | ok fl =>
    cases fl with
    | ret w =>
      obtain ⟨z, H', I', rz, y, ez, hQ⟩ := I.after hq
      subst ez
      obtain ⟨t, rfl⟩ := rz
      exact ⟨.str y, H', I', ⟨_, rfl⟩, hQ⟩
    | next => exact False.elim hq
    | brk => exact False.elim hq
    | cont => exact False.elim hq
/-- o == p, both objects of the class: its own __eq__; a truth value comes -/
def rEqO (C : Addr) (sp : Sp) (E : XK) : R2 := fun x y H Q => ∃ (p dx q dy : Addr) (fs gs : List (Str × V)), x = .ref p ∧ y = .ref q ∧ H p = some (.ins C dx fs) ∧ H q = some (.ins C dy gs) ∧ sp [.ref p, .ref q] H (fun r H' => ∃ b, r = .bl b ∧ Q (.bl b) H') E
theorem op_eqO (F : FnOk X.prog X.w X.K X.mg X.base CX k f fd ps sp) (hr : Room k X.A) (hb : Binds X.K fd ps []) (hx : Passes CX X E) (m : Meth X.K C "__eq__" f) : OpR X (compareOp .Eq) (rEqO C sp E) := by
  intro pins s σ H x y v u Q I rx ry h
  obtain ⟨p, dx, o, dy, fs, gs, rfl, rfl, hp, ho, q⟩ := h
  obtain rfl : v = Value.ref p := rx
  obtain rfl : u = Value.ref o := ry
  obtain ⟨mA, J, _⟩ := ins_get I.hok hp
  obtain ⟨mB, J', _⟩ := ins_get I.hok ho
  obtain ⟨od, J, _⟩ := J.look
  obtain ⟨od', J', _⟩ := J'.look
  obtain ⟨m', hF⟩ := I.fr
  show wpAny _ _ (richCompare .Eq (.ref p) (.ref o)) _ _ s
  refine PySem.W.cmp_K (op := .Eq) (tb := .ref C) hr.units0 hF I.ok.mod.kin J J'.type (by simp [PySem.W.notFirst]) m.at_ m.fn ?_
  refine wpAny_mono (run_fn (us := [.ref p, .ref o]) (vs := [.ref p, .ref o]) F hr hb .nil hx I (.cons rfl (.cons rfl .nil)) q) (fun r s' z => ?_) (fun _ _ z => z)
  obtain ⟨w, H', I', rw_, b, rfl, hq⟩ := z
  cases rw_
  exact ⟨.bl b, H', I', rfl, hq⟩
end
end My

set_option Elab.async false
set_option linter.all false
set_option maxRecDepth 100000
set_option maxHeartbeats 4000000
/-! == and != where an own object stands on the left -/
namespace My
open PySem PySem.Spec PyProof.Rows L2
section
variable {X : Cx} {CX : CXT} {k : Nat} {C f : Addr} {fd : FuncData} {ps : List Str} {sp : Sp} {E : XK}
theorem looks_ty {M : Model} {pins : List (Addr × Obj)} {σ : L2.St} {H : Hp} {s : Shared} {x : V} {u t : Value} (I : Inv X pins σ H s) (rx : RelV x u) (ty : TyOf X.K H x t) : PySem.W.Looks M s.heap (typeOf u) t := by
  cases ty with
  | non => cases (show u = Value.none from rx); exact PySem.W.Looks.of_pure rfl
  | bl y => cases (show u = Value.bool y from rx); exact PySem.W.Looks.of_pure rfl
  | int i => obtain ⟨t, q⟩ := (show ∃ t, u = Value.int i t from rx); cases q; exact PySem.W.Looks.of_pure rfl
  | str y => obtain ⟨t, q⟩ := (show ∃ t, u = Value.str y t from rx); cases q; exact PySem.W.Looks.of_pure rfl
  | flt y => obtain ⟨t, q⟩ := (show ∃ t, u = Value.float y t from rx); cases q; exact PySem.W.Looks.of_pure rfl
  | @lst a xs ea =>
    cases (show u = Value.ref a from rx)
    obtain ⟨_, _, n, _, h1⟩ := (show ObjOk X.prog X.w H s.heap a (.lst xs) from I.hok a _ ea)
    exact (PySem.W.Looks.ld h1).andThen .now
  | @frz a ob xs ea =>
    cases (show u = Value.ref a from rx)
    obtain ⟨_, _, _, n, _, h1⟩ := (show ObjOk X.prog X.w H s.heap a (.frz ob (.lst xs)) from I.hok a _ ea)
    exact (PySem.W.Looks.ld h1).andThen .now
  | @tup a xs ea =>
    cases (show u = Value.ref a from rx)
    obtain ⟨_, _, _, p⟩ := (show ObjOk X.prog X.w H s.heap a (.tup xs) from I.hok a _ ea)
    obtain ⟨o, h1, h2, _⟩ := p
    exact h2 ▸ (PySem.W.Looks.ld h1).andThen .now
  | @dK a kvs ea =>
    cases (show u = Value.ref a from rx)
    obtain ⟨_, _, vs, _, p⟩ := (show ObjOk X.prog X.w H s.heap a (.dK kvs) from I.hok a _ ea)
    obtain ⟨o, es, ep, h1, h2, _⟩ := p
    exact h2.1 ▸ (PySem.W.Looks.ld h1).andThen .now
  | @dT a kvs ea =>
    cases (show u = Value.ref a from rx)
    obtain ⟨_, _, xs, _, o, es, ep, h1, h2, _⟩ := (show ObjOk X.prog X.w H s.heap a (.dT kvs) from I.hok a _ ea)
    exact h2.1 ▸ (PySem.W.Looks.ld h1).andThen .now
  | @ins a C dx fs ea cl ha hn htk hm =>
    cases (show u = Value.ref a from rx)
    obtain ⟨mA, J, _⟩ := ins_get I.hok ea
    obtain ⟨od, J, _⟩ := J.look
    exact J.type
/-- o == y, o an own object, y of any kind: o's own __eq__; a truth value comes -/
def rEqV (K : PySem.W.Frag) (C : Addr) (sp : Sp) (E : XK) : R2 := fun x y H Q => ∃ (p dx : Addr) (fs : List (Str × V)) (t : Value), x = .ref p ∧ H p = some (.ins C dx fs) ∧ TyOf K H y t ∧ PySem.W.notFirst K C t = true ∧ sp [.ref p, y] H (fun r H' => ∃ b, r = .bl b ∧ Q (.bl b) H') E
theorem op_eqV (F : FnOk X.prog X.w X.K X.mg X.base CX k f fd ps sp) (hr : Room k X.A) (hb : Binds X.K fd ps []) (hx : Passes CX X E) (m : Meth X.K C "__eq__" f) : OpR X (compareOp .Eq) (rEqV X.K C sp E) := by
  intro pins s σ H x y v u Q I rx ry h
  obtain ⟨p, dx, fs, t, rfl, hp, ty, nf, q⟩ := h
  obtain rfl : v = Value.ref p := rx
  obtain ⟨mA, J, _⟩ := ins_get I.hok hp
  obtain ⟨od, J, _⟩ := J.look
  obtain ⟨m', hF⟩ := I.fr
  show wpAny _ _ (richCompare .Eq (.ref p) u) _ _ s
  refine PySem.W.cmp_K (op := .Eq) (tb := t) hr.units0 hF I.ok.mod.kin J (looks_ty I ry ty) nf m.at_ m.fn ?_
  refine wpAny_mono (run_fn (us := [.ref p, u]) (vs := [.ref p, y]) F hr hb .nil hx I (.cons rfl (.cons ry .nil)) q) (fun r s' z => ?_) (fun _ _ z => z)
  obtain ⟨w, H', I', rw_, b, rfl, hq⟩ := z
  cases rw_
  exact ⟨.bl b, H', I', rfl, hq⟩
theorem eqVK (K : PySem.W.Frag) (F : FnOk X.prog X.w X.K X.mg X.base CX k f fd ps sp) (hr : Room k X.A) (hb : Binds X.K fd ps []) (hx : Passes CX X E) (m : Meth X.K C "__eq__" f) (h : X.K = K := by rfl) : OpR X (compareOp .Eq) (rEqV K C sp E) := by
  subst h
  exact op_eqV F hr hb hx m
/-- the class has object's __ne__ -/
structure NeOf (K : PySem.W.Frag) (C : Addr) : Prop where
  ne : PySem.W.findIn K (.ref C) "__ne__" = some (some (.builtin "object.__ne__"))
  sub : PySem.W.mroIn K C (.type "object") = some true
/-- o != p, both objects of the class, by object's __ne__: its own __eq__ turned round -/
def rNeO (C : Addr) (sp : Sp) (E : XK) : R2 := fun x y H Q => ∃ (p dx q dy : Addr) (fs gs : List (Str × V)), x = .ref p ∧ y = .ref q ∧ H p = some (.ins C dx fs) ∧ H q = some (.ins C dy gs) ∧ sp [.ref p, .ref q] H (fun r H' => ∃ b, r = .bl b ∧ Q (.bl (!b)) H') E
theorem op_neO (F : FnOk X.prog X.w X.K X.mg X.base CX k f fd ps sp) (hr : Room (k + 1) X.A) (hb : Binds X.K fd ps []) (hx : Passes CX X E) (m : Meth X.K C "__eq__" f) (n : NeOf X.K C) : OpR X (compareOp .NotEq) (rNeO C sp E) := by
  intro pins s σ H x y v u Q I rx ry h
  obtain ⟨p, dx, o, dy, fs, gs, rfl, rfl, hp, ho, q⟩ := h
  obtain rfl : v = Value.ref p := rx
  obtain rfl : u = Value.ref o := ry
  obtain ⟨mA, J, _⟩ := ins_get I.hok hp
  obtain ⟨mB, J', _⟩ := ins_get I.hok ho
  obtain ⟨od, J, _⟩ := J.look
  obtain ⟨od', J', _⟩ := J'.look
  obtain ⟨m', hF⟩ := I.fr
  have KX : X.K.In s.heap := I.kIn
  have sbn : ∀ (M : Model), PySem.W.Looks M s.heap (specialOf (.ref p) "__ne__") (some (.builtin "object.__ne__")) := fun M => J.type.andThen (PySem.W.looks_findIn KX n.ne)
  have e0 : Env0 X.prog X.w X.K X.mg X.base X.A.in1 X.stack s H := by
    have e := I.env0
    exact ⟨e.frames, e.mod, e.bs, e.bsz, e.funs, e.frf, e.hok, e.bare⟩
  have hr1 : Room k X.A.in1 := hr.in1
  have hl := F.len _ _ _ _ q
  have r2 : Vals [V.ref p, V.ref o] [Value.ref p, Value.ref o] := .cons rfl (.cons rfl .nil)
  have inner : wpAny (model X.prog X.w) X.A.in1 (call (.ref f) [.ref p, .ref o]) (fun r s' => ∃ b, r = .bool b ∧ EP X pins σ Q (.bool (!b)) s') X.xe s := by
    refine wpAny_call (codeAny_mono (F.run X.A.in1 X.stack s H ⟨[.ref p, .ref o], []⟩ [.ref p, .ref o] [.ref p, .ref o] _ E hr1 e0 (by
      have := hb s [.ref p, .ref o] I.kIn (by simpa using hl)
      simpa using this) r2 q) fun r s' hq => ?_)
    cases r with
    | error e => exact hx pins σ H s e s' I hq
    | ok fl =>
      cases fl with
      | ret w =>
        obtain ⟨z, H', I', rz, b, ez, hQ⟩ := I.after hq
        subst ez
        cases rz
        exact ⟨b, rfl, .bl (!b), H', I', rfl, hQ⟩
      | next => exact False.elim hq
      | brk => exact False.elim hq
      | cont => exact False.elim hq
  have one : wpAny (model X.prog X.w) X.A (tryCompare (.ref p) (cmpInfo .NotEq).2.1 (.ref o)) (fun r s' => ∃ v, r = some v ∧ EP X pins σ Q v s') X.xe s := by
    unfold tryCompare
    refine wpAny_bind ?_
    show wpAny _ _ (callSpecialIfBound? (.ref p) "__ne__" [.ref o]) _ _ s
    have fin : wpAny (model X.prog X.w) X.A (call (.builtin "object.__ne__") ([.ref p] ++ [.ref o])) (fun r s' => ∃ b, r = .bool b ∧ EP X pins σ Q (.bool b) s') X.xe s := by
      refine wpAny_call (codeAny_call_builtin PySem.F.cmp_object.ne.plain PySem.F.cmpEntry_ne (PySem.W.check_slot PySem.F.cmpKind_ne PySem.F.cmpSplit_ne (J.type.andThen (PySem.W.looks_mroIn KX n.sub)) (PySem.F.cmpArgs_ne _ _) ?_))
      unfold Builtin.«object.__ne__»
      repeat (first | with_reducible refine wpAny_cRoomFor hr1.units0 ?_ | with_reducible refine PySem.W.ifBound_K KX J m.at_ m.fn (wpAny_mono inner (fun r s' z => ?_) fun _ _ z => z) | wp_step)
      obtain ⟨b, rfl, q⟩ := z
      show wpAny _ _ (do let b ← truthy (.bool b); ret (.bool (!b))) _ _ _
      refine wpAny_bind ?_
      show wpAny _ _ (pure b) _ _ _
      refine wpAny_pure ?_
      exact wpAny_pure ⟨_, rfl, q⟩
    have bnd : bindSpecial (.builtin "object.__ne__") (.ref p) = pure (.builtin "object.__ne__", [.ref p]) := PySem.F.cmp_object.ne.bind _
    have fin2 : wpAny (model X.prog X.w) X.A (call (.builtin "object.__ne__") ([.ref p] ++ [.ref o]) >>= fun v => pure (some v)) (fun r s' => wpAny (model X.prog X.w) X.A (match r with | some .notImplemented | none => pure none | some v => pure (some v)) (fun r s' => ∃ v, r = some v ∧ EP X pins σ Q v s') X.xe s') X.xe s :=
      wpAny_bind (wpAny_mono fin (fun v s' z => by
        obtain ⟨b, rfl, q⟩ := z
        exact wpAny_pure (wpAny_pure ⟨_, rfl, q⟩)) fun _ _ z => z)
    simp only [callSpecialIfBound?, bindSpecialIfBound?]
    refine wpAny_holding (wpAny_bind (wpAny_bind ((sbn _).here ?_)))
    refine wpAny_bind (wpAny_askSetting (wpAny_ite ?_))
    split
    · exact wpAny_bind (wpAny_pure (wpAny_pure fin2))
    · exact wpAny_tryCatch (wpAny_bind (wpAny_pure (wpAny_pure fin2)))
  show wpAny _ _ (richCompare .NotEq (.ref p) (.ref o)) _ _ s
  unfold richCompare
  simp only [oneThing_ref]
  refine wpAny_holding (wpAny_bind (wpAny_cRoomFor hr.units0 ?_))
  refine wpAny_bind (J.type.here (wpAny_bind (J'.type.here ?_)))
  rw [if_neg (by simp)]
  refine wpAny_bind (wpAny_pure ?_)
  simp only [Bool.false_eq_true, if_false]
  refine wpAny_bind (wpAny_mono one (fun r s' z => ?_) fun _ _ e => e)
  obtain ⟨v, rfl, hq⟩ := z
  exact wpAny_pure hq
theorem fldK (K : PySem.W.Frag) {e : Expr} {ta : TE} {fn : Str} {pos : Pos} (he : PE X e ta) (hb : attributeBase e fn X.env (eval e X.env) = eval e X.env) (h : X.K = K := by rfl) : PE X (.Attribute e fn pos) (tFld K ta fn) := h ▸ pe_fld he hb
end
end My

set_option Elab.async false
set_option linter.all false
set_option maxRecDepth 100000
set_option maxHeartbeats 4000000
/-! iter(t) of a tuple; list(o) of an own object whose __iter__ returns such an iterator and that has a __len__ -/
namespace My
open PySem PySem.Spec PyProof.Rows L2
/-- at it an iterator over the tuple at t, the next place is i -/
def TiO (t it : Addr) (i : Nat) : HO := .ext fun h => IsTupIter h it t i
theorem tiO_ok {P : Program} {w : World} {H : Hp} {h : Heap} {t it : Addr} {i : Nat} (e : IsTupIter h it t i) : ObjOk P w H h it (TiO t it i) :=
  ⟨e, (by obtain ⟨o, a, _⟩ := e; exact ⟨o, a⟩), fun h1 h2 q k => by obtain ⟨o, a, b, c⟩ := q; exact ⟨o, k _ a, b, c⟩⟩
def rIterT (n : Nat) : List V → Hp → VK → Prop := fun xs H Q => ∃ (t : Addr) (zs : List V), xs = [.ref t] ∧ H t = some (.tup zs) ∧ ∀ it, H it = none → n ≤ it → Q (.ref it) (upd H it (TiO t it 0))
section
variable {X : Cx}
theorem tup_of {pins : List (Addr × Obj)} {σ : L2.St} {H : Hp} {s : Shared} {t : Addr} {zs : List V} (I : Inv X pins σ H s) (h : H t = some (.tup zs)) : ∃ its : List Value, Vals zs its ∧ IsTup s.heap t its.toArray ∧ zs.length ≤ sizeLine := by
  obtain ⟨z, its, r, p⟩ := (show ObjOk X.prog X.w H s.heap t (.tup zs) from I.hok t _ h)
  exact ⟨its, r, p, z⟩
theorem call_iterT : CallR X (.builtin "iter") (rIterT X.s_0.heap.objs.size) := by
  intro pins s σ H xs us Q I r h
  obtain ⟨t, zs, rfl, hq, q⟩ := h
  obtain rfl := Vals.ref1 r
  obtain ⟨its, rv, pl, hz⟩ := tup_of I hq
  refine Calls.call_function_entry (by decide +kernel) (by decide +kernel) PySem.W.kdk_entry_iter (PySem.W.kdk_args_iter _) ?_
  unfold Builtin.«iter»
  refine wpAny_bind (m := someArgs "iter" 1 2 _) (wpAny_of_eq (a := [Value.ref t]) (by first | rfl | kernel_rfl!) ?_)
  show wpAny _ _ (pyIter (.ref t) >>= _) _ _ _
  refine wpAny_bind (iter_tuple pl ?_)
  refine wpAny_pure ⟨_, rfl, ?_⟩
  exact ⟨.ref s.heap.objs.size, _, I.laid (t' := s.toks) (fun b u e => Heap.get?_push_of_some _ e) (Nat.le_refl _) (tiO_ok ⟨_, Heap.get?_push_size _ rfl, rfl, rfl⟩), rfl, q _ (I.hok.fresh (Nat.le_refl _)) I.sz⟩
end
/-- FnOk whose promise may speak of how many things stood at its call -/
structure FnN (P : Program) (w : World) (K : PySem.W.Frag) (mg : Str → Option Value) (base : Heap) (CX : CXT) (k : Nat) (g : Addr) (gd : FuncData) (ns : List Str) (sp : Nat → Sp) : Prop where
  many : ∀ n vs H Q E, sp n vs H Q E → vs.length = ns.length
  runs : ∀ (A : Around) (stk : List Env) (t : Shared) (H : Hp) (args : Args) (us : List Value) (vs : List V) (Q : VK) (E : XK), Room k A → Env0 P w K mg base A stk t H → BindsTo t gd args (ns.zip us) → Vals vs us → sp t.heap.objs.size vs H Q E →
    codeAny (model P w) A (.call (.ref g) args) (CR CX stk P w H t Q E) t
section
variable {P : Program} {w : World} {K : PySem.W.Frag} {mg : Str → Option Value} {base : Heap} {k : Nat} {g : Addr} {gd : FuncData} {ns : List Str} {sp : Nat → Sp}
theorem fun_n0 {x qual : Str} {st : Stmt} {N : List Str} (F : L2.Fun K x qual st g gd) (S : FnScope N ns (L2.defScope st)) (many : ∀ n vs H Q E, sp n vs H Q E → vs.length = ns.length)
    (body : ∀ (cdv : Value) (A : Around) (stk : List Env) (t : Shared) (H : Hp) (vs : List V) (Q : VK) (E : XK), Room k (A.deeper (envOfC qual (L2.defScope st) t.heap.objs.size g cdv)) → sp t.heap.objs.size vs H Q E →
      ∃ r, PSs (cxOf CX0 P w K mg base N qual (L2.defScope st) g cdv A stk t H E).nox (L2.defBody st) r ∧ r { nx := fun _ H' => Q .non H', rt := Q } (L2.start N vs) H) : FnN P w K mg base CX0 (k + 1) g gd ns sp := by
  obtain ⟨oc, od, kV, doc, pm, an, cdv, ct, osl, rfl, lk, hcd⟩ := F.ex
  refine ⟨many, fun A stk t H args us vs Q E hr e0 hb r h => LamX.run_ofS lk hcd S hr e0 hb r (many _ _ _ _ _ h) fun hr' => ?_⟩
  obtain ⟨t, h, q⟩ := body cdv A stk t H vs Q E hr' h
  exact ⟨t, h.nox, q⟩
end
/-- the class has an __iter__ and a __len__ of its own -/
structure ItL (K : PySem.W.Frag) (C fi fl : Addr) : Prop where
  it : PySem.W.findIn K (.ref C) "__iter__" = some (some (.ref fi))
  itF : PySem.W.isFn K (.ref fi) = true
  le : PySem.W.findIn K (.ref C) "__len__" = some (some (.ref fl))
  leF : PySem.W.isFn K (.ref fl) = true
section
variable {X : Cx} {pins : List (Addr × Obj)} {σ : L2.St} {H : Hp} {s : Shared} {q it t : Addr} {ys : List V} {A1 : Around} {Rs : Result → Shared → Prop}
theorem fp_upd {H : Hp} {q it : Addr} {o : HO} (h : FpOk X pins H it) (n : it ≠ q) : FpOk X pins (upd H q o) it := ⟨(upd_ne n).trans h.1, h.2⟩
theorem tup_loop (hh : A1.in1.handled = none) (ht : H t = some (.tup ys)) (hq : H q = none) (hf : FpOk X pins H it) (nq : it ≠ q) (done : ∀ s, Inv X pins σ (upd H q (.lst ys)) s → Rs (.ok (.ret .none)) s) :
    ∀ (m i : Nat) (s : Shared), i + m = ys.length → Inv X pins σ (upd H q (.lst (ys.take i))) s → IsTupIter s.heap it t i → codeAny (model X.prog X.w) A1 (.builtin "list.extend.loop" ⟨[.ref q, .ref it, .none], []⟩) Rs s := by
  have tq : t ≠ q := ne_of_none ht hq
  intro m
  induction m with
  | zero =>
    intro i s hi I st
    obtain ⟨its, rv, pl, hz⟩ := tup_of I ((upd_ne tq).trans ht)
    have hl : its.toArray[i]? = none := by
      have := rv.length
      rw [List.getElem?_toArray, List.getElem?_eq_none]
      omega
    refine codeAny_builtin PySem.F.entry_extend_loop ?_
    rw [Around.under_plainId PySem.F.plain_extend_loop _]
    show wpAny _ A1.in1 (pyNext (.ref it) >>= _) _ _ s
    refine wpAny_bind (next_tuple_end hh st pl hl fun h' e => ?_)
    have I2 : Inv X pins σ (upd H q (.lst (ys.take i))) { s with heap := h' } := I.turnedL (ch := [it]) (t' := s.toks) (fun b o nb e' => e b o (by simpa using nb) e') (fun b hb => by
      have : b = it := by simpa using hb
      subst this
      exact fp_upd hf nq)
    rw [List.take_of_length_le (by omega)] at I2
    exact wpAny_pure (done _ I2)
  | succ m ih =>
    intro i s hi I st
    obtain ⟨its, rv, pl, hz⟩ := tup_of I ((upd_ne tq).trans ht)
    have lv := rv.length
    have hi2 : i < its.length := by omega
    have hx : its.toArray[i]? = some its[i] := by rw [List.getElem?_toArray, List.getElem?_eq_getElem hi2]
    have hy : ys[i]? = some ys[i] := List.getElem?_eq_getElem (by omega)
    have rxy : RelV ys[i] its[i] := by
      obtain ⟨u, e1, e2⟩ := rv.get hy
      rw [List.getElem?_eq_getElem hi2] at e1
      exact (Option.some.inj e1) ▸ e2
    refine codeAny_builtin PySem.F.entry_extend_loop ?_
    rw [Around.under_plainId PySem.F.plain_extend_loop _]
    show wpAny _ A1.in1 (pyNext (.ref it) >>= _) _ _ s
    refine wpAny_bind (next_tuple_item st pl hx fun h' st' sb => ?_)
    have I2 : Inv X pins σ (upd H q (.lst (ys.take i))) { s with heap := h' } := I.turnedL (ch := [it]) (t' := s.toks) (fun b o nb e' => sb.extBut b o (by simpa using nb) e') (fun b hb => by
      have : b = it := by simpa using hb
      subst this
      exact fp_upd hf nq)
    show wpAny _ A1.in1 (updateSeq q (·.push its[i]) >>= _) _ _ _
    obtain ⟨z, js, c, r2, hl, e⟩ := I2.lstM upd_same
    have lt : (ys.take i).length = i := by rw [List.length_take]; omega
    have lj := r2.length
    refine wpAny_bind (wpAny_updateSeq e rfl (wpAny_pure ⟨plainId_quiet PySem.F.plain_extend_loop _, ?_⟩) (by rw [List.size_toArray]; omega) (by show (js.toArray.push its[i]).size ≤ sizeLine + 1; rw [Array.size_push, List.size_toArray]; omega))
    have I3 := I2.lset (f := (·.push its[i])) (its' := js ++ [its[i]]) (t' := s.toks) (ys := ys.take i ++ [ys[i]]) upd_same e (by simp) (r2.append (.cons rxy .nil)) (by rw [List.length_append, List.length_singleton]; omega)
    rw [upd_upd, ← take_snoc hy] at I3
    refine ih (i + 1) _ (by omega) I3 ?_
    obtain ⟨o, a, b, c'⟩ := st'
    exact ⟨o, (Heap.SameBut.update ..).extBut _ _ nq a, b, c'⟩
end
section
variable {X : Cx} {pins : List (Addr × Obj)} {σ : L2.St} {H : Hp} {s : Shared} {q p t dx : Addr} {fs : List (Str × V)} {ys : List V} {n : Nat} {A1 : Around} {Rs : Result → Shared → Prop}
variable {k : Nat} {C fi fl : Addr} {fdI fdL : FuncData} {psI psL : List Str} {spI : Nat → Sp} {spL : Sp}
theorem extendT (hh : A1.in1.handled = none) (sb : Sub X (k + 1) A1.in1) (c : ItL X.K C fi fl) (FI : FnN X.prog X.w X.K X.mg X.base CX0 k fi fdI psI spI) (bI : Binds X.K fdI psI []) (FL : FnOk X.prog X.w X.K X.mg X.base CX0 k fl fdL psL spL) (bL : Binds X.K fdL psL [])
    (I : Inv X pins σ (upd H q (.lst [])) s) (hq : H q = none) (hp : H p = some (.ins C dx fs)) (ht : H t = some (.tup ys)) (nl : n ≤ 1000)
    (hI : ∀ (k : Nat) (Q' : VK) (E' : XK), (∀ it, upd H q (.lst []) it = none → k ≤ it → Q' (.ref it) (upd (upd H q (.lst [])) it (TiO t it 0))) → spI k [.ref p] (upd H q (.lst [])) Q' E')
    (hL : ∀ it, upd H q (.lst []) it = none → ∀ (Q' : VK) (E' : XK), Q' (.int n) (upd (upd H q (.lst [])) it (TiO t it 0)) → spL [.ref p] (upd (upd H q (.lst [])) it (TiO t it 0)) Q' E')
    (done : ∀ s, Inv X pins σ (upd H q (.lst ys)) s → Rs (.ok (.ret .none)) s) :
    wpAny (model X.prog X.w) A1.in1 (Builtin.List.listExtendWith (.ref q) (.ref p) .none)
      (fun fin s' => match fin with | .done f => Rs (.ok f) s' | .again c' => c'.quiet = true ∧ codeAny (model X.prog X.w) A1 c' Rs s') (fun e s' => Rs (.error e) s') s := by
  have hp2 : upd H q (.lst []) p = some (.ins C dx fs) := by rw [upd_ne (ne_of_none hp hq)]; exact hp
  have hne : q ≠ p := (ne_of_none hp hq).symm
  have hs0 : X.s_0.heap.objs.size ≤ s.heap.objs.size := I.sz
  obtain ⟨mA, J, _⟩ := ins_get I.hok hp2
  obtain ⟨od, J, _⟩ := J.look
  obtain ⟨m0, hF⟩ := I.fr
  unfold Builtin.List.listExtendWith
  refine wpAny_bind (J.type.here ?_)
  have h1 : Builtin.List.listSameRef (.ref q) (.ref p) = false := by simp [Builtin.List.listSameRef, hne]
  have h2 : (Value.ref C == Value.type "list") = false := rfl
  have h3 : (Value.ref C == Value.type "tuple") = false := rfl
  simp only [h1, h2, h3, Bool.or_false, Bool.false_eq_true, if_false]
  refine wpAny_bind (PySem.W.owit_iter hF I.ok.mod.kin J c.it c.itF ?_)
  have e0 : Env0 X.prog X.w X.K X.mg X.base A1.in1 X.stack s (upd H q (.lst [])) := by
    have e := I.env0
    exact ⟨by rw [sb.fr]; exact e.frames, e.mod, e.bs, e.bsz, e.funs, e.frf, e.hok, e.bare⟩
  have hspI := hI s.heap.objs.size (fun v H' => ∃ it, v = .ref it ∧ s.heap.objs.size ≤ it ∧ upd H q (.lst []) it = none ∧ H' = upd (upd H q (.lst [])) it (TiO t it 0)) E0 fun it i0 ik => ⟨it, rfl, ik, i0, rfl⟩
  have hl := FI.many _ _ _ _ _ hspI
  have r2 : Vals [V.ref p] [Value.ref p] := .cons rfl .nil
  refine wpAny_call (codeAny_mono (FI.runs A1.in1 X.stack s _ ⟨[.ref p], []⟩ [.ref p] [.ref p] _ E0 (sb.mono (Nat.le_succ _)).room e0 (by
    have := bI s [.ref p] I.kIn (by simpa using hl)
    simpa using this) r2 hspI) fun r s' hq' => ?_)
  cases r with
  | error e => exact False.elim hq'
  | ok fl' =>
    cases fl' with
    | next => exact False.elim hq'
    | brk => exact False.elim hq'
    | cont => exact False.elim hq'
    | ret u =>
      obtain ⟨v, H', I', rv, it, ev, ik, i0, eH⟩ := I.after hq'
      subst ev
      rw [eH] at I'
      cases rv
      have hit := (I'.hok it _ upd_same).1
      have hit : IsTupIter s'.heap it t 0 := hit
      have hT : s'.TypeIs (.ref it) "tuple_iterator" := hit.typeIs
      have pit : upd (upd H q (.lst [])) it (TiO t it 0) p = some (.ins C dx fs) := by rw [upd_ne (ne_of_none hp2 i0)]; exact hp2
      unfold PySem.W.OwitIt
      refine wpAny_specialOf hT slot_tupleiter_next.lookup ?_
      obtain ⟨mA', J', _⟩ := ins_get I'.hok pit
      obtain ⟨od', J', _⟩ := J'.look
      obtain ⟨m1, hF'⟩ := I'.fr
      have nq : it ≠ q := fun z => by rw [z, upd_same] at i0; cases i0
      refine wpAny_bind (wpAny_holding ?_)
      unfold Builtin.List.listLengthHint
      refine wpAny_bind (wpAny_bind (J'.type.here ((PySem.W.looks_findIn I'.kIn c.le).here ?_)))
      refine PySem.W.KFB.if_not rfl ?_
      refine wpAny_ite_split (fun _ => ?_) (fun z => absurd rfl z)
      refine wpAny_bind (wpAny_rule ?_)
      refine wpAny_bind (wpAny_attempt ?_)
      refine PySem.W.len_K hF' I'.ok.mod.kin J' c.le c.leF ?_
      have e1 : Env0 X.prog X.w X.K X.mg X.base A1.in1.in1 X.stack s' (upd (upd H q (.lst [])) it (TiO t it 0)) := by
        have e := I'.env0
        exact ⟨by rw [sb.in1.fr]; exact e.frames, e.mod, e.bs, e.bsz, e.funs, e.frf, e.hok, e.bare⟩
      have hspL := hL it i0 (fun v H' => v = .int n ∧ H' = upd (upd H q (.lst [])) it (TiO t it 0)) E0 ⟨rfl, rfl⟩
      have hl2 := FL.len _ _ _ _ hspL
      refine wpAny_call (codeAny_mono (FL.run A1.in1.in1 X.stack s' _ ⟨[.ref p], []⟩ [.ref p] [.ref p] _ E0 sb.in1.room e1 (by
        have := bL s' [.ref p] I'.kIn (by simpa using hl2)
        simpa using this) r2 hspL) fun r s2 hq2 => ?_)
      cases r with
      | error e => exact False.elim hq2
      | ok fl2 =>
        cases fl2 with
        | next => exact False.elim hq2
        | brk => exact False.elim hq2
        | cont => exact False.elim hq2
        | ret u2 =>
          obtain ⟨v2, H2, I2, rv2, ev2, eH2⟩ := I'.after hq2
          subst ev2
          rw [eH2] at I2
          obtain ⟨t2, rfl⟩ := rv2
          refine ⟨⟨Int.natCast_nonneg n, by omega⟩, ?_⟩
          have tl : Builtin.List.listTooLong ((n : Nat) : Int).toNat = false := by
            unfold Builtin.List.listTooLong
            rw [Int.toNat_natCast]
            have : ¬ n > sizeLine := by rw [sizeLine_eq]; omega
            simpa using this
          refine wpAny_bind ?_
          show wpAny _ _ (pure (some ((n : Nat) : Int))) _ _ _
          refine wpAny_pure ?_
          refine PySem.W.KFB.if_not tl ?_
          refine wpAny_pure ?_
          have Id := ItX.inv_drop I2 upd_same
          have hf := ItX.inv_fp I2 upd_same (Nat.le_trans hs0 ik)
          have hit : IsTupIter s2.heap it t 0 := (I2.hok it _ upd_same).1
          rw [ItX.dropH_upd i0] at Id hf
          have Id := Id.tok (s2.toks + 1)
          have hf' : FpOk X pins H it := ⟨by rw [← i0, upd_ne nq], hf.2⟩
          have fin : ∀ (s3 : Shared), Inv X pins σ (upd H q (.lst [])) s3 → IsTupIter s3.heap it t 0 → codeAny (model X.prog X.w) A1 (.builtin "list.extend.loop" ⟨[.ref q, .ref it, .none], []⟩) Rs s3 := fun s3 J3 T3 =>
            tup_loop hh ht hq hf' nq done ys.length 0 s3 (by omega) (by rw [List.take_zero]; exact J3) T3
          refine wpAny_ite_split (fun _ => ?_) (fun _ => wpAny_pure ⟨plainId_quiet PySem.F.plain_extend_loop _, fin _ Id hit⟩)
          refine wpAny_bind (wpAny_rule ?_)
          refine wpAny_bind ?_
          show wpAny _ _ (updateSeq q (·.push .none) >>= fun _ => updateSeq q (·.pop)) _ _ _
          obtain ⟨z, its, k3, r3, hl3, e3⟩ := Id.lstM upd_same
          cases r3
          refine wpAny_bind (wpAny_updateSeq e3 rfl ?_)
          have J2 := Id.lset (f := (·.push Value.none)) (its' := [Value.none]) (ys := [.non]) (t' := s2.toks + 1) upd_same e3 (by simp) (.cons rfl .nil) (by rw [List.length_singleton, sizeLine_eq]; decide)
          obtain ⟨z4, its4, k4, r4, hl4, e4⟩ := J2.lstM upd_same
          obtain ⟨u4, rfl, ru4⟩ := r4.one
          refine wpAny_updateSeq e4 rfl ?_ (by show 1 ≤ sizeLine; rw [sizeLine_eq]; decide) (by show 0 ≤ sizeLine + 1; exact Nat.zero_le _)
          have J3 := J2.lset (f := (·.pop)) (its := [u4]) (its' := []) (ys := []) (t' := s2.toks + 1) upd_same e4 (by rfl) .nil (Nat.zero_le _)
          rw [upd_upd, upd_upd] at J3
          refine wpAny_pure ⟨plainId_quiet PySem.F.plain_extend_loop _, fin _ J3 ?_⟩
          obtain ⟨o, a, b, c'⟩ := hit
          exact ⟨o, (Heap.SameBut.update ..).extBut _ _ nq ((Heap.SameBut.update ..).extBut _ _ nq a), b, c'⟩
end
/-- list(o) -/
def rListIt (C : Addr) (spI : Nat → Sp) (spL : Sp) : List V → Hp → VK → Prop := fun xs H Q => ∃ (p dx t : Addr) (fs : List (Str × V)) (ys : List V) (n : Nat), xs = [.ref p] ∧ H p = some (.ins C dx fs) ∧ H t = some (.tup ys) ∧ n ≤ 1000 ∧
  ∀ q, H q = none →
    (∀ (k : Nat) (Q' : VK) (E' : XK), (∀ it, upd H q (.lst []) it = none → k ≤ it → Q' (.ref it) (upd (upd H q (.lst [])) it (TiO t it 0))) → spI k [.ref p] (upd H q (.lst [])) Q' E') ∧
    (∀ it, upd H q (.lst []) it = none → ∀ (Q' : VK) (E' : XK), Q' (.int n) (upd (upd H q (.lst [])) it (TiO t it 0)) → spL [.ref p] (upd (upd H q (.lst [])) it (TiO t it 0)) Q' E') ∧
    Q (.ref q) (upd H q (.lst ys))
section
variable {X : Cx} {k : Nat} {C fi fl : Addr} {fdI fdL : FuncData} {psI psL : List Str} {spI : Nat → Sp} {spL : Sp}
theorem call_listIt (hc : X.calm = true) (c : ItL X.K C fi fl) (FI : FnN X.prog X.w X.K X.mg X.base CX0 k fi fdI psI spI) (bI : Binds X.K fdI psI []) (FL : FnOk X.prog X.w X.K X.mg X.base CX0 k fl fdL psL spL) (bL : Binds X.K fdL psL []) (hr : Room (k + 4) X.A) : CallR X (.type "list") (rListIt C spI spL) := by
  intro pins s σ H xs us Q I rv h
  obtain ⟨p, dx, t, fs, ys, n, rfl, hp, ht, nl, hq⟩ := h
  obtain ⟨u, rfl, ru⟩ := rv.one
  cases ru
  refine callType_codes (Q₁ := fun obj s₁ => obj = .ref s.heap.objs.size ∧ s₁ = { s with heap := s.heap.push { cls := .type "list", data := .seq #[] } }) PySem.F.called_list (PySem.F.typeCall_list_1 _) PySem.F.entry_list_init
    (code_list_new _ ⟨rfl, rfl⟩) fun obj s₁ h₁ => ?_
  obtain ⟨rfl, rfl⟩ := h₁
  have hS : (s.heap.push { cls := .type "list", data := .seq #[] }).get? s.heap.objs.size = some { cls := .type "list", data := .seq #[] } := Heap.get?_push_size _ rfl
  refine ⟨⟨_, hS, rfl⟩, PySem.F.args_list_init_2 _ _, ?_⟩
  have fr : H s.heap.objs.size = none := I.hok.fresh (Nat.le_refl _)
  obtain ⟨hI, hL, hQ⟩ := hq _ fr
  have hS0 : X.s_0.heap.objs.size ≤ s.heap.objs.size := I.sz
  have I1 : Inv X pins σ (upd H s.heap.objs.size (.lst [])) { s with heap := s.heap.push { cls := .type "list", data := .seq #[] } } := I.lnew (its := []) (t' := s.toks) .nil (Nat.zero_le _)
  show wpAny _ _ (do let old ← Builtin.List.listItems (.ref s.heap.objs.size); Builtin.List.listUpdate (.ref s.heap.objs.size) (fun _ => #[]); letGo old.toList.reverse; Builtin.List.listExtendWith (.ref s.heap.objs.size) (.ref p) .none) _ _ _
  refine wpAny_bind ?_
  unfold Builtin.List.listItems
  refine wpAny_bind (wpAny_seqItems hS rfl (wpAny_pure ?_))
  show wpAny _ _ (updateSeq s.heap.objs.size (fun _ => #[]) >>= fun _ => letGo (#[] : Array Value).toList.reverse >>= fun _ => Builtin.List.listExtendWith (.ref s.heap.objs.size) (.ref p) .none) _ _ _
  refine wpAny_bind (wpAny_updateSeq hS rfl ?_)
  have I2 := I1.lset (f := fun _ => #[]) (its := []) (its' := []) (ys := []) (t' := s.toks) upd_same hS rfl .nil (Nat.zero_le _)
  rw [upd_upd] at I2
  refine wpAny_bind (wpAny_letGo ?_)
  have hu := hr.un
  exact extendT (A1 := X.A.in1) (Rs := wants (fun r s₂ => r = .none ∧ EP X pins σ Q (.ref s.heap.objs.size) s₂) X.xe) (I.ok.hd hc) ((Sub.in1 (Sub.in1 (⟨hr, rfl⟩ : Sub X (k + 4) X.A))).mono (by omega)) c FI bI FL bL I2 fr hp ht nl hI hL
    (fun s' I' => ⟨rfl, .ref s.heap.objs.size, _, I', rfl, hQ⟩)
end
end My

set_option Elab.async false
set_option linter.all false
set_option maxRecDepth 100000
set_option maxHeartbeats 4000000
/-! == of two dicts whose values are data (texts, numbers, lists and tuples of them, however deep), true or false -/
namespace My
open PySem PySem.Spec PyProof.Rows L2
theorem units65 {k : Nat} {A : Around} (r : Room k A) : A.units + 65 < cLine := by
  have := r.un
  omega
/-- what the look at one dict's entries in the other one comes to -/
inductive Hits (K : PySem.W.Frag) (H : Hp) (ls : List (Key × V)) : List (Key × V) → Bool → Prop where
  | nil : Hits K H ls [] true
  | miss {k : Key} {v : V} {r : List (Key × V)} : valV ls k = none → Hits K H ls ((k, v) :: r) false
  | hit {k : Key} {v y : V} {r : List (Key × V)} {d e : PyData} {b : Bool} : valV ls k = some y → Dp K H v d → Dp K H y e → SeqAt.shaped d = true → SeqAt.shaped e = true → Hits K H ls r b → Hits K H ls ((k, v) :: r) (PyData.eqv d e && b)
def rEqT (K : PySem.W.Frag) (neg : Bool) : R2 := fun x y H Q => ∃ (a b : Addr) (ks ls : List (Key × V)) (r : Bool), x = .ref a ∧ y = .ref b ∧ H a = some (.dK ks) ∧ H b = some (.dK ls) ∧ (ks.length = ls.length → Hits K H ls ks r) ∧ Q (.bl (if neg then !(ks.length == ls.length && r) else ks.length == ls.length && r)) H
section
variable {X : Cx}
theorem hits_of {pins : List (Addr × Obj)} {σ : L2.St} {H : Hp} {s : Shared} {A : Around} (I : Inv X pins σ H s) (hu : A.in1.units + 64 < cLine) {ls : List (Key × V)} {vb : List (Key × Value)} (rb : KV ls vb) :
    ∀ {ks : List (Key × V)} {va : List (Key × Value)} {b : Bool}, KV ks va → Hits X.K H ls ks b → PySem.W.KeqHits A.in1 s vb va b
  | [], va, b, ra, h => by
    cases ra
    cases h
    exact .nil
  | (k, v) :: ks, va, b, ra, h => by
    unfold KV at ra
    cases ra with
    | @cons p q ps qs hpq t =>
      obtain ⟨k', u⟩ := q
      obtain ⟨e1, e2⟩ := hpq
      have e1 : k = k' := e1
      have e2 : RelV v u := e2
      subst e1
      cases h with
      | miss hn => exact .miss ((show RelO none (valueAt vb k) from hn ▸ rb.val k).none_of)
      | hit hy d1 d2 s1 s2 hr =>
        obtain ⟨y', hy', ry⟩ := (show RelO (some _) (valueAt vb k) from hy ▸ rb.val k).some_of
        obtain ⟨as, r1⟩ := Dp.reads I _ v u d1 e2
        obtain ⟨bs, r2⟩ := Dp.reads I _ _ y' d2 ry
        exact .hit hy' (PySem.W.keq_at r1 r2 s1 s2 hu) (hits_of I hu rb t hr)
theorem op_eqT (hu : X.A.units + 65 < cLine) : OpR X (compareOp .Eq) (rEqT X.K false) := by
  intro pins s σ H x y v u Q I rx ry h
  obtain ⟨a, b, ks, ls, r, rfl, rfl, ea, eb, hp, q⟩ := h
  obtain rfl : v = Value.ref a := rx
  obtain rfl : u = Value.ref b := ry
  obtain ⟨_, ya, va, ra, da⟩ := (show ObjOk X.prog X.w H s.heap a (.dK ks) from I.hok a _ ea)
  obtain ⟨_, yb, vb, rb, db⟩ := (show ObjOk X.prog X.w H s.heap b (.dK ls) from I.hok b _ eb)
  refine PySem.W.keq_eq (knd := mixKind X.prog X.w) (r := r) ya yb da db (by omega) (fun e => hits_of I (by show X.A.units + 1 + 64 < cLine; omega) rb ra (hp (by rw [ra.length, rb.length]; exact e))) ?_
  rw [← ra.length, ← rb.length]
  exact ⟨.bl _, H, I, rfl, q⟩
theorem op_neT (hu : X.A.units + 65 < cLine) : OpR X (compareOp .NotEq) (rEqT X.K true) := by
  intro pins s σ H x y v u Q I rx ry h
  obtain ⟨a, b, ks, ls, r, rfl, rfl, ea, eb, hp, q⟩ := h
  obtain rfl : v = Value.ref a := rx
  obtain rfl : u = Value.ref b := ry
  obtain ⟨_, ya, va, ra, da⟩ := (show ObjOk X.prog X.w H s.heap a (.dK ks) from I.hok a _ ea)
  obtain ⟨_, yb, vb, rb, db⟩ := (show ObjOk X.prog X.w H s.heap b (.dK ls) from I.hok b _ eb)
  refine PySem.W.keq_ne (knd := mixKind X.prog X.w) (r := r) ya yb da db (by omega) (fun e => hits_of I (by show X.A.units + 1 + 64 < cLine; omega) rb ra (hp (by rw [ra.length, rb.length]; exact e))) ?_
  rw [← ra.length, ← rb.length]
  exact ⟨.bl _, H, I, rfl, q⟩
end
end My

set_option Elab.async false
set_option linter.all false
set_option maxRecDepth 100000
set_option maxHeartbeats 4000000
/-! == of two dicts whose values are data or dicts of data, true or false -/
namespace My
open PySem PySem.Spec PyProof.Rows L2
/-- what the look at two values comes to: data, or two dicts of data at two places -/
inductive Val2 (K : PySem.W.Frag) (H : Hp) : V → V → Bool → Prop where
  | dat {v y : V} {d e : PyData} : Dp K H v d → Dp K H y e → SeqAt.shaped d = true → SeqAt.shaped e = true → Val2 K H v y (PyData.eqv d e)
  | dct {a b : Addr} {ks ls : List (Key × V)} {r : Bool} : a ≠ b → H a = some (.dK ks) → H b = some (.dK ls) → (ks.length = ls.length → Hits K H ls ks r) → Val2 K H (.ref a) (.ref b) (ks.length == ls.length && r)
inductive Hits2 (K : PySem.W.Frag) (H : Hp) (ls : List (Key × V)) : List (Key × V) → Bool → Prop where
  | nil : Hits2 K H ls [] true
  | hit {k : Key} {v y : V} {r : List (Key × V)} {e b : Bool} : valV ls k = some y → Val2 K H v y e → Hits2 K H ls r b → Hits2 K H ls ((k, v) :: r) (e && b)
def rEqD2 (K : PySem.W.Frag) : R2 := fun x y H Q => ∃ (a b : Addr) (ks ls : List (Key × V)) (r : Bool), x = .ref a ∧ y = .ref b ∧ H a = some (.dK ks) ∧ H b = some (.dK ls) ∧ Hits2 K H ls ks r ∧ Q (.bl (ks.length == ls.length && r)) H
section
variable {X : Cx}
theorem val2_run {pins : List (Addr × Obj)} {σ : L2.St} {H : Hp} {s : Shared} {A : Around} (I : Inv X pins σ H s) (hu : A.units + 66 < cLine) {v y : V} {v' y' : Value} {e : Bool} (rv : RelV v v') (ry : RelV y y') (h : Val2 X.K H v y e) : SeqAt.EqP X.prog X.w A s v' y' e := by
  cases h with
  | dat d1 d2 s1 s2 =>
    obtain ⟨as, r1⟩ := Dp.reads I _ v v' d1 rv
    obtain ⟨bs, r2⟩ := Dp.reads I _ y y' d2 ry
    exact SeqAt.EqAt.eqP (SeqAt.eqAt_reads _ _ A s v' y' as bs r1 r2 (SeqAt.canLay_of_shaped s1) (SeqAt.canLay_of_shaped s2) (SeqAt.room_of_shaped s1 (by omega)))
  | @dct a b ks ls r ne ea eb hp =>
    obtain rfl : v' = Value.ref a := rv
    obtain rfl : y' = Value.ref b := ry
    obtain ⟨_, ya, va, ra, da⟩ := (show ObjOk X.prog X.w H s.heap a (.dK ks) from I.hok a _ ea)
    obtain ⟨_, yb, vb, rb, db⟩ := (show ObjOk X.prog X.w H s.heap b (.dK ls) from I.hok b _ eb)
    refine SeqAt.eqP_refs ne fun E Q q => ?_
    refine PySem.W.keq_eq (knd := mixKind X.prog X.w) (r := r) ya yb da db (by omega) (fun e => hits_of I (by show A.units + 1 + 64 < cLine; omega) rb ra (hp (by rw [ra.length, rb.length]; exact e))) ?_
    rw [← ra.length, ← rb.length]
    exact q
theorem hits2_of {pins : List (Addr × Obj)} {σ : L2.St} {H : Hp} {s : Shared} {A : Around} (I : Inv X pins σ H s) (hu : A.units + 66 < cLine) {ls : List (Key × V)} {vb : List (Key × Value)} (rb : KV ls vb) :
    ∀ {ks : List (Key × V)} {va : List (Key × Value)} {b : Bool}, KV ks va → Hits2 X.K H ls ks b → PySem.W.KeqHitsP X.prog X.w A s vb va b
  | [], va, b, ra, h => by
    cases ra
    cases h
    exact .nil
  | (k, v) :: ks, va, b, ra, h => by
    unfold KV at ra
    cases ra with
    | @cons p q ps qs hpq t =>
      obtain ⟨k', u⟩ := q
      obtain ⟨e1, e2⟩ := hpq
      have e1 : k = k' := e1
      have e2 : RelV v u := e2
      subst e1
      cases h with
      | hit hy hv hr =>
        obtain ⟨y', hy', ry⟩ := (show RelO (some _) (valueAt vb k) from hy ▸ rb.val k).some_of
        exact .hit hy' (val2_run I hu e2 ry hv) (hits2_of I hu rb t hr)
theorem op_eqD2 (hu : X.A.units + 67 < cLine) : OpR X (compareOp .Eq) (rEqD2 X.K) := by
  intro pins s σ H x y v u Q I rx ry h
  obtain ⟨a, b, ks, ls, r, rfl, rfl, ea, eb, hp, q⟩ := h
  obtain rfl : v = Value.ref a := rx
  obtain rfl : u = Value.ref b := ry
  obtain ⟨_, ya, va, ra, da⟩ := (show ObjOk X.prog X.w H s.heap a (.dK ks) from I.hok a _ ea)
  obtain ⟨_, yb, vb, rb, db⟩ := (show ObjOk X.prog X.w H s.heap b (.dK ls) from I.hok b _ eb)
  show wpAny _ _ (richCompare .Eq (.ref a) (.ref b)) _ _ s
  refine PySem.W.rcP_dicts (knd := mixKind X.prog X.w) (r := r) ya yb da db (by omega) (fun e => hits2_of I (by show X.A.units + 1 + 66 < cLine; omega) rb ra hp) _ _ ?_
  rw [← ra.length, ← rb.length]
  exact ⟨.bl _, H, I, rfl, q⟩
theorem units67 {k : Nat} {A : Around} (r : Room k A) : A.units + 67 < cLine := by
  have := r.un
  omega
end
end My

set_option Elab.async false
set_option linter.all false
set_option maxRecDepth 100000
set_option maxHeartbeats 2000000
namespace My
open PySem PySem.Spec PyProof.Rows L2
def top (i : Nat) : Stmt := PySem.Challenge.pw_textmovers_k07_known_machines.main.body.getD i (.Pass ⟨0, 0, 0, 0⟩)
abbrev s_is_whole : Stmt := top 2
abbrev n_is_whole : List Str := ["value"]
abbrev p_is_whole : List Str := ["value"]
theorem sc_is_whole : FnScope n_is_whole p_is_whole (defScope s_is_whole) := ⟨rfl, rfl, rfl, by decide +kernel, rfl, by decide +kernel, by decide +kernel⟩
abbrev s_is_between : Stmt := top 3
abbrev n_is_between : List Str := ["value", "low", "high"]
abbrev p_is_between : List Str := ["value", "low", "high"]
theorem sc_is_between : FnScope n_is_between p_is_between (defScope s_is_between) := ⟨rfl, rfl, rfl, by decide +kernel, rfl, by decide +kernel, by decide +kernel⟩
abbrev s_InvalidNumber_init : Stmt := inClass (top 8) 0
abbrev n_InvalidNumber_init : List Str := ["self", "value"]
abbrev p_InvalidNumber_init : List Str := ["self", "value"]
theorem sc_InvalidNumber_init : FnScope n_InvalidNumber_init p_InvalidNumber_init (defScope s_InvalidNumber_init) := ⟨rfl, rfl, rfl, by decide +kernel, rfl, by decide +kernel, by decide +kernel⟩
abbrev s_InvalidNumber_str : Stmt := inClass (top 8) 1
abbrev n_InvalidNumber_str : List Str := ["self"]
abbrev p_InvalidNumber_str : List Str := ["self"]
theorem sc_InvalidNumber_str : FnScope n_InvalidNumber_str p_InvalidNumber_str (defScope s_InvalidNumber_str) := ⟨rfl, rfl, rfl, by decide +kernel, rfl, by decide +kernel, by decide +kernel⟩
abbrev s_UnknownName_init : Stmt := inClass (top 9) 0
abbrev n_UnknownName_init : List Str := ["self", "name"]
abbrev p_UnknownName_init : List Str := ["self", "name"]
theorem sc_UnknownName_init : FnScope n_UnknownName_init p_UnknownName_init (defScope s_UnknownName_init) := ⟨rfl, rfl, rfl, by decide +kernel, rfl, by decide +kernel, by decide +kernel⟩
abbrev s_UnknownName_str : Stmt := inClass (top 9) 1
abbrev n_UnknownName_str : List Str := ["self"]
abbrev p_UnknownName_str : List Str := ["self"]
theorem sc_UnknownName_str : FnScope n_UnknownName_str p_UnknownName_str (defScope s_UnknownName_str) := ⟨rfl, rfl, rfl, by decide +kernel, rfl, by decide +kernel, by decide +kernel⟩
abbrev s_is_name : Stmt := top 16
abbrev n_is_name : List Str := ["value", "sign"]
abbrev p_is_name : List Str := ["value"]
theorem sc_is_name : FnScope n_is_name p_is_name (defScope s_is_name) := ⟨rfl, rfl, rfl, by decide +kernel, rfl, by decide +kernel, by decide +kernel⟩
abbrev s_is_text : Stmt := top 17
abbrev n_is_text : List Str := ["letters", "value", "sign"]
abbrev p_is_text : List Str := ["letters", "value"]
theorem sc_is_text : FnScope n_is_text p_is_text (defScope s_is_text) := ⟨rfl, rfl, rfl, by decide +kernel, rfl, by decide +kernel, by decide +kernel⟩
abbrev s_is_turn : Stmt := top 18
abbrev n_is_turn : List Str := ["letters", "value", "letter", "part"]
abbrev p_is_turn : List Str := ["letters", "value"]
theorem sc_is_turn : FnScope n_is_turn p_is_turn (defScope s_is_turn) := ⟨rfl, rfl, rfl, by decide +kernel, rfl, by decide +kernel, by decide +kernel⟩
abbrev s_check_letters : Stmt := top 19
abbrev n_check_letters : List Str := ["letters"]
abbrev p_check_letters : List Str := ["letters"]
theorem sc_check_letters : FnScope n_check_letters p_check_letters (defScope s_check_letters) := ⟨rfl, rfl, rfl, by decide +kernel, rfl, by decide +kernel, by decide +kernel⟩
abbrev s_check_text : Stmt := top 20
abbrev n_check_text : List Str := ["letters", "text"]
abbrev p_check_text : List Str := ["letters", "text"]
theorem sc_check_text : FnScope n_check_text p_check_text (defScope s_check_text) := ⟨rfl, rfl, rfl, by decide +kernel, rfl, by decide +kernel, by decide +kernel⟩
abbrev s_undone_turn : Stmt := top 22
abbrev n_undone_turn : List Str := ["turn", "back", "letter", "come"]
abbrev p_undone_turn : List Str := ["turn"]
theorem sc_undone_turn : FnScope n_undone_turn p_undone_turn (defScope s_undone_turn) := ⟨rfl, rfl, rfl, by decide +kernel, rfl, by decide +kernel, by decide +kernel⟩
abbrev s_undone_row : Stmt := top 23
abbrev n_undone_row : List Str := ["turn", "nexts", "back", "letter"]
abbrev p_undone_row : List Str := ["turn", "nexts"]
theorem sc_undone_row : FnScope n_undone_row p_undone_row (defScope s_undone_row) := ⟨rfl, rfl, rfl, by decide +kernel, rfl, by decide +kernel, by decide +kernel⟩
abbrev s_led_from : Stmt := top 24
abbrev n_led_from : List Str := ["table", "place", "text", "signs", "sign", "turn", "nexts", "letter"]
abbrev p_led_from : List Str := ["table", "place", "text"]
theorem sc_led_from : FnScope n_led_from p_led_from (defScope s_led_from) := ⟨rfl, rfl, rfl, by decide +kernel, rfl, by decide +kernel, by decide +kernel⟩
abbrev s_shown_turn : Stmt := top 25
abbrev n_shown_turn : List Str := ["turn", "letter"]
abbrev p_shown_turn : List Str := ["turn"]
theorem sc_shown_turn : FnScope n_shown_turn p_shown_turn (defScope s_shown_turn) := ⟨rfl, rfl, rfl, by decide +kernel, rfl, by decide +kernel, by decide +kernel⟩
abbrev s_Machine_init : Stmt := inClass (top 27) 0
abbrev n_Machine_init : List Str := ["self", "letters", "states", "names", "name"]
abbrev p_Machine_init : List Str := ["self", "letters", "states"]
theorem sc_Machine_init : FnScope n_Machine_init p_Machine_init (defScope s_Machine_init) := ⟨rfl, rfl, rfl, by decide +kernel, rfl, by decide +kernel, by decide +kernel⟩
abbrev s_Machine_letters : Stmt := inClass (top 27) 1
abbrev n_Machine_letters : List Str := ["self"]
abbrev p_Machine_letters : List Str := ["self"]
theorem sc_Machine_letters : FnScope n_Machine_letters p_Machine_letters (defScope s_Machine_letters) := ⟨rfl, rfl, rfl, by decide +kernel, rfl, by decide +kernel, by decide +kernel⟩
abbrev s_Machine_states : Stmt := inClass (top 27) 2
abbrev n_Machine_states : List Str := ["self"]
abbrev p_Machine_states : List Str := ["self"]
theorem sc_Machine_states : FnScope n_Machine_states p_Machine_states (defScope s_Machine_states) := ⟨rfl, rfl, rfl, by decide +kernel, rfl, by decide +kernel, by decide +kernel⟩
abbrev s_Machine_turn : Stmt := inClass (top 27) 3
abbrev n_Machine_turn : List Str := ["self", "state"]
abbrev p_Machine_turn : List Str := ["self", "state"]
theorem sc_Machine_turn : FnScope n_Machine_turn p_Machine_turn (defScope s_Machine_turn) := ⟨rfl, rfl, rfl, by decide +kernel, rfl, by decide +kernel, by decide +kernel⟩
abbrev s_Machine_nexts : Stmt := inClass (top 27) 4
abbrev n_Machine_nexts : List Str := ["self", "state"]
abbrev p_Machine_nexts : List Str := ["self", "state"]
theorem sc_Machine_nexts : FnScope n_Machine_nexts p_Machine_nexts (defScope s_Machine_nexts) := ⟨rfl, rfl, rfl, by decide +kernel, rfl, by decide +kernel, by decide +kernel⟩
abbrev s_Machine_step : Stmt := inClass (top 27) 5
abbrev n_Machine_step : List Str := ["self", "state", "text"]
abbrev p_Machine_step : List Str := ["self", "state", "text"]
theorem sc_Machine_step : FnScope n_Machine_step p_Machine_step (defScope s_Machine_step) := ⟨rfl, rfl, rfl, by decide +kernel, rfl, by decide +kernel, by decide +kernel⟩
abbrev s_Machine_with_state : Stmt := inClass (top 27) 6
abbrev n_Machine_with_state : List Str := ["self", "name", "turn", "nexts"]
abbrev p_Machine_with_state : List Str := ["self", "name", "turn", "nexts"]
theorem sc_Machine_with_state : FnScope n_Machine_with_state p_Machine_with_state (defScope s_Machine_with_state) := ⟨rfl, rfl, rfl, by decide +kernel, rfl, by decide +kernel, by decide +kernel⟩
abbrev s_Machine_part : Stmt := inClass (top 27) 7
abbrev n_Machine_part : List Str := ["self", "state", "names", "name"]
abbrev p_Machine_part : List Str := ["self", "state"]
theorem sc_Machine_part : FnScope n_Machine_part p_Machine_part (defScope s_Machine_part) := ⟨rfl, rfl, rfl, by decide +kernel, rfl, by decide +kernel, by decide +kernel⟩
abbrev s_Machine_undone : Stmt := inClass (top 27) 8
abbrev n_Machine_undone : List Str := ["self", "table", "name", "turn", "nexts"]
abbrev p_Machine_undone : List Str := ["self"]
theorem sc_Machine_undone : FnScope n_Machine_undone p_Machine_undone (defScope s_Machine_undone) := ⟨rfl, rfl, rfl, by decide +kernel, rfl, by decide +kernel, by decide +kernel⟩
abbrev s_Machine_invert : Stmt := inClass (top 27) 9
abbrev n_Machine_invert : List Str := ["self"]
abbrev p_Machine_invert : List Str := ["self"]
theorem sc_Machine_invert : FnScope n_Machine_invert p_Machine_invert (defScope s_Machine_invert) := ⟨rfl, rfl, rfl, by decide +kernel, rfl, by decide +kernel, by decide +kernel⟩
abbrev s_Machine_beside : Stmt := inClass (top 27) 10
abbrev n_Machine_beside : List Str := ["self", "other"]
abbrev p_Machine_beside : List Str := ["self", "other"]
theorem sc_Machine_beside : FnScope n_Machine_beside p_Machine_beside (defScope s_Machine_beside) := ⟨rfl, rfl, rfl, by decide +kernel, rfl, by decide +kernel, by decide +kernel⟩
abbrev s_Machine_renamed : Stmt := inClass (top 27) 11
abbrev n_Machine_renamed : List Str := ["self", "names"]
abbrev p_Machine_renamed : List Str := ["self", "names"]
theorem sc_Machine_renamed : FnScope n_Machine_renamed p_Machine_renamed (defScope s_Machine_renamed) := ⟨rfl, rfl, rfl, by decide +kernel, rfl, by decide +kernel, by decide +kernel⟩
abbrev s_Machine_contains : Stmt := inClass (top 27) 12
abbrev n_Machine_contains : List Str := ["self", "value"]
abbrev p_Machine_contains : List Str := ["self", "value"]
theorem sc_Machine_contains : FnScope n_Machine_contains p_Machine_contains (defScope s_Machine_contains) := ⟨rfl, rfl, rfl, by decide +kernel, rfl, by decide +kernel, by decide +kernel⟩
abbrev s_Machine_len : Stmt := inClass (top 27) 13
abbrev n_Machine_len : List Str := ["self"]
abbrev p_Machine_len : List Str := ["self"]
theorem sc_Machine_len : FnScope n_Machine_len p_Machine_len (defScope s_Machine_len) := ⟨rfl, rfl, rfl, by decide +kernel, rfl, by decide +kernel, by decide +kernel⟩
abbrev s_Machine_iter : Stmt := inClass (top 27) 14
abbrev n_Machine_iter : List Str := ["self"]
abbrev p_Machine_iter : List Str := ["self"]
theorem sc_Machine_iter : FnScope n_Machine_iter p_Machine_iter (defScope s_Machine_iter) := ⟨rfl, rfl, rfl, by decide +kernel, rfl, by decide +kernel, by decide +kernel⟩
abbrev s_Machine_eq : Stmt := inClass (top 27) 15
abbrev n_Machine_eq : List Str := ["self", "other"]
abbrev p_Machine_eq : List Str := ["self", "other"]
theorem sc_Machine_eq : FnScope n_Machine_eq p_Machine_eq (defScope s_Machine_eq) := ⟨rfl, rfl, rfl, by decide +kernel, rfl, by decide +kernel, by decide +kernel⟩
abbrev s_Machine_str : Stmt := inClass (top 27) 16
abbrev n_Machine_str : List Str := ["self"]
abbrev p_Machine_str : List Str := ["self"]
theorem sc_Machine_str : FnScope n_Machine_str p_Machine_str (defScope s_Machine_str) := ⟨rfl, rfl, rfl, by decide +kernel, rfl, by decide +kernel, by decide +kernel⟩
abbrev s_check_state : Stmt := top 28
abbrev n_check_state : List Str := ["machine", "state"]
abbrev p_check_state : List Str := ["machine", "state"]
theorem sc_check_state : FnScope n_check_state p_check_state (defScope s_check_state) := ⟨rfl, rfl, rfl, by decide +kernel, rfl, by decide +kernel, by decide +kernel⟩
abbrev s_is_state_table : Stmt := top 29
abbrev n_is_state_table : List Str := ["letters", "value", "name"]
abbrev p_is_state_table : List Str := ["letters", "value"]
theorem sc_is_state_table : FnScope n_is_state_table p_is_state_table (defScope s_is_state_table) := ⟨rfl, rfl, rfl, by decide +kernel, rfl, by decide +kernel, by decide +kernel⟩
abbrev s_is_state_row : Stmt := top 30
abbrev n_is_state_row : List Str := ["letters", "value", "names", "turn", "nexts", "name"]
abbrev p_is_state_row : List Str := ["letters", "value", "names"]
theorem sc_is_state_row : FnScope n_is_state_row p_is_state_row (defScope s_is_state_row) := ⟨rfl, rfl, rfl, by decide +kernel, rfl, by decide +kernel, by decide +kernel⟩
abbrev s_shown_table : Stmt := top 32
abbrev n_shown_table : List Str := ["table", "parts", "name", "turn", "nexts"]
abbrev p_shown_table : List Str := ["table"]
theorem sc_shown_table : FnScope n_shown_table p_shown_table (defScope s_shown_table) := ⟨rfl, rfl, rfl, by decide +kernel, rfl, by decide +kernel, by decide +kernel⟩
abbrev s_counter : Stmt := top 34
abbrev n_counter : List Str := ["letters", "last", "adding", "behind", "letter"]
abbrev p_counter : List Str := ["letters"]
theorem sc_counter : FnScope n_counter p_counter (defScope s_counter) := ⟨rfl, rfl, rfl, by decide +kernel, rfl, by decide +kernel, by decide +kernel⟩
abbrev s_gray : Stmt := top 35
abbrev n_gray : List Str := ["states"]
abbrev p_gray : List Str := []
theorem sc_gray : FnScope n_gray p_gray (defScope s_gray) := ⟨rfl, rfl, rfl, by decide +kernel, rfl, by decide +kernel, by decide +kernel⟩
abbrev s_towers : Stmt := top 36
abbrev n_towers : List Str := ["states"]
abbrev p_towers : List Str := []
theorem sc_towers : FnScope n_towers p_towers (defScope s_towers) := ⟨rfl, rfl, rfl, by decide +kernel, rfl, by decide +kernel, by decide +kernel⟩
abbrev s_folded : Stmt := top 37
abbrev n_folded : List Str := ["states"]
abbrev p_folded : List Str := []
theorem sc_folded : FnScope n_folded p_folded (defScope s_folded) := ⟨rfl, rfl, rfl, by decide +kernel, rfl, by decide +kernel, by decide +kernel⟩
abbrev s_idle_row : Stmt := top 38
abbrev n_idle_row : List Str := ["letters"]
abbrev p_idle_row : List Str := ["letters"]
theorem sc_idle_row : FnScope n_idle_row p_idle_row (defScope s_idle_row) := ⟨rfl, rfl, rfl, by decide +kernel, rfl, by decide +kernel, by decide +kernel⟩
abbrev s_texts_of : Stmt := top 40
abbrev n_texts_of : List Str := ["_law_letters", "_law_length", "_law_found", "_law_turn", "_law_longer", "_law_some", "_law_k"]
abbrev p_texts_of : List Str := ["_law_letters", "_law_length"]
theorem sc_texts_of : FnScope n_texts_of p_texts_of (defScope s_texts_of) := ⟨rfl, rfl, rfl, by decide +kernel, rfl, by decide +kernel, by decide +kernel⟩
abbrev s_urn : Stmt := top 41
abbrev n_urn : List Str := ["_law_script", "_law_at", "_law_cell", "_law_great", "_law_mixed"]
abbrev p_urn : List Str := ["_law_script", "_law_at"]
theorem sc_urn : FnScope n_urn p_urn (defScope s_urn) := ⟨rfl, rfl, rfl, by decide +kernel, rfl, by decide +kernel, by decide +kernel⟩
abbrev s_dip : Stmt := top 42
abbrev n_dip : List Str := ["_law_urn_here", "_law_total", "_law_one", "_law_two", "_law_found"]
abbrev p_dip : List Str := ["_law_urn_here", "_law_total"]
theorem sc_dip : FnScope n_dip p_dip (defScope s_dip) := ⟨rfl, rfl, rfl, by decide +kernel, rfl, by decide +kernel, by decide +kernel⟩
abbrev s_text : Stmt := top 43
abbrev n_text : List Str := ["_law_urn_here", "_law_letters", "_law_most", "_law_turn"]
abbrev p_text : List Str := ["_law_urn_here", "_law_letters", "_law_most"]
theorem sc_text : FnScope n_text p_text (defScope s_text) := ⟨rfl, rfl, rfl, by decide +kernel, rfl, by decide +kernel, by decide +kernel⟩
abbrev s_digits : Stmt := top 44
abbrev n_digits : List Str := ["_law_number", "_law_letters", "_law_length", "_law_found", "_law_turn"]
abbrev p_digits : List Str := ["_law_number", "_law_letters", "_law_length"]
theorem sc_digits : FnScope n_digits p_digits (defScope s_digits) := ⟨rfl, rfl, rfl, by decide +kernel, rfl, by decide +kernel, by decide +kernel⟩
abbrev s_counts : Stmt := top 45
abbrev n_counts : List Str := ["_law_urn_here", "_law_letters", "_law_length", "_law_whole", "_law_turn", "_law_number", "_law_told"]
abbrev p_counts : List Str := ["_law_urn_here", "_law_letters"]
theorem sc_counts : FnScope n_counts p_counts (defScope s_counts) := ⟨rfl, rfl, rfl, by decide +kernel, rfl, by decide +kernel, by decide +kernel⟩
abbrev s_gray_right : Stmt := top 46
abbrev n_gray_right : List Str := ["_law_length", "_law_found", "_law_here", "_law_turn", "_law_at"]
abbrev p_gray_right : List Str := ["_law_length"]
theorem sc_gray_right : FnScope n_gray_right p_gray_right (defScope s_gray_right) := ⟨rfl, rfl, rfl, by decide +kernel, rfl, by decide +kernel, by decide +kernel⟩
abbrev s_towers_right : Stmt := top 47
abbrev n_towers_right : List Str := ["_law_urn_here", "_law_some", "_law_state", "_law_one", "_law_other", "_law_discs", "_law_due", "_law_told", "_law_at"]
abbrev p_towers_right : List Str := ["_law_urn_here"]
theorem sc_towers_right : FnScope n_towers_right p_towers_right (defScope s_towers_right) := ⟨rfl, rfl, rfl, by decide +kernel, rfl, by decide +kernel, by decide +kernel⟩
abbrev s_folded_right : Stmt := top 48
abbrev n_folded_right : List Str := ["_law_urn_here", "_law_some", "_law_state", "_law_odd", "_law_size", "_law_due", "_law_at"]
abbrev p_folded_right : List Str := ["_law_urn_here"]
theorem sc_folded_right : FnScope n_folded_right p_folded_right (defScope s_folded_right) := ⟨rfl, rfl, rfl, by decide +kernel, rfl, by decide +kernel, by decide +kernel⟩
abbrev s_law : Stmt := top 49
abbrev n_law : List Str := ["_law_script", "_law_at", "_law_told", "_law_due", "_law_urn_here", "_law_length", "_law_letters"]
abbrev p_law : List Str := ["_law_script"]
theorem sc_law : FnScope n_law p_law (defScope s_law) := ⟨rfl, rfl, rfl, by decide +kernel, rfl, by decide +kernel, by decide +kernel⟩
structure Tx (K : PySem.W.Frag) (mg : Str → Option Value) where
  C_InvalidNumber : Addr
  i_InvalidNumber : Addr
  x_InvalidNumber : ExInvalidNumber.TxtInvalidNumber K mg C_InvalidNumber i_InvalidNumber
  ValueError : mg "ValueError" = none
  IndexError : mg "IndexError" = none
  KeyError : mg "KeyError" = none
  all : mg "all" = none
  list : mg "list" = none
  enumerate : mg "enumerate" = none
  tuple : mg "tuple" = none
  range : mg "range" = none
  isinstance : mg "isinstance" = none
  int : mg "int" = none
  repr : mg "repr" = none
  sorted : mg "sorted" = none
  len : mg "len" = none
  iter : mg "iter" = none
  max : mg "max" = none
  str : mg "str" = none
  bool : mg "bool" = none
  dict : mg "dict" = none
  abs : mg "abs" = none
  min : mg "min" = none
  sum : mg "sum" = none
  t_MAX_TEXT : Tok
  g_MAX_TEXT : mg "MAX_TEXT" = some (.int 200 t_MAX_TEXT)
  t_MAX_STATES : Tok
  g_MAX_STATES : mg "MAX_STATES" = some (.int 8 t_MAX_STATES)
  t_MAX_NAME : Tok
  g_MAX_NAME : mg "MAX_NAME" = some (.int 8 t_MAX_NAME)
  t_NAME_SIGNS : Tok
  g_NAME_SIGNS : mg "NAME_SIGNS" = some (.str "abcdefghijklmnopqrstuvwxyz" t_NAME_SIGNS)
  t_DIGITS : Tok
  g_DIGITS : mg "DIGITS" = some (.str "0123" t_DIGITS)
  f_is_whole : Addr
  d_is_whole : FuncData
  F_is_whole : Fun K "is_whole" "is_whole" s_is_whole f_is_whole d_is_whole
  m_is_whole : mg "is_whole" = some (.ref f_is_whole)
  b_is_whole : Binds K d_is_whole p_is_whole []
  f_is_between : Addr
  d_is_between : FuncData
  F_is_between : Fun K "is_between" "is_between" s_is_between f_is_between d_is_between
  m_is_between : mg "is_between" = some (.ref f_is_between)
  b_is_between : Binds K d_is_between p_is_between []
  f_is_name : Addr
  d_is_name : FuncData
  F_is_name : Fun K "is_name" "is_name" s_is_name f_is_name d_is_name
  m_is_name : mg "is_name" = some (.ref f_is_name)
  b_is_name : Binds K d_is_name p_is_name []
  f_is_text : Addr
  d_is_text : FuncData
  F_is_text : Fun K "is_text" "is_text" s_is_text f_is_text d_is_text
  m_is_text : mg "is_text" = some (.ref f_is_text)
  b_is_text : Binds K d_is_text p_is_text []
  f_is_turn : Addr
  d_is_turn : FuncData
  F_is_turn : Fun K "is_turn" "is_turn" s_is_turn f_is_turn d_is_turn
  m_is_turn : mg "is_turn" = some (.ref f_is_turn)
  b_is_turn : Binds K d_is_turn p_is_turn []
  f_check_letters : Addr
  d_check_letters : FuncData
  F_check_letters : Fun K "check_letters" "check_letters" s_check_letters f_check_letters d_check_letters
  m_check_letters : mg "check_letters" = some (.ref f_check_letters)
  b_check_letters : Binds K d_check_letters p_check_letters []
  f_check_text : Addr
  d_check_text : FuncData
  F_check_text : Fun K "check_text" "check_text" s_check_text f_check_text d_check_text
  m_check_text : mg "check_text" = some (.ref f_check_text)
  b_check_text : Binds K d_check_text p_check_text []
  f_undone_turn : Addr
  d_undone_turn : FuncData
  F_undone_turn : Fun K "undone_turn" "undone_turn" s_undone_turn f_undone_turn d_undone_turn
  m_undone_turn : mg "undone_turn" = some (.ref f_undone_turn)
  b_undone_turn : Binds K d_undone_turn p_undone_turn []
  f_undone_row : Addr
  d_undone_row : FuncData
  F_undone_row : Fun K "undone_row" "undone_row" s_undone_row f_undone_row d_undone_row
  m_undone_row : mg "undone_row" = some (.ref f_undone_row)
  b_undone_row : Binds K d_undone_row p_undone_row []
  f_led_from : Addr
  d_led_from : FuncData
  F_led_from : Fun K "led_from" "led_from" s_led_from f_led_from d_led_from
  m_led_from : mg "led_from" = some (.ref f_led_from)
  b_led_from : Binds K d_led_from p_led_from []
  f_shown_turn : Addr
  d_shown_turn : FuncData
  F_shown_turn : Fun K "shown_turn" "shown_turn" s_shown_turn f_shown_turn d_shown_turn
  m_shown_turn : mg "shown_turn" = some (.ref f_shown_turn)
  b_shown_turn : Binds K d_shown_turn p_shown_turn []
  f_check_state : Addr
  d_check_state : FuncData
  F_check_state : Fun K "check_state" "check_state" s_check_state f_check_state d_check_state
  m_check_state : mg "check_state" = some (.ref f_check_state)
  b_check_state : Binds K d_check_state p_check_state []
  f_is_state_table : Addr
  d_is_state_table : FuncData
  F_is_state_table : Fun K "is_state_table" "is_state_table" s_is_state_table f_is_state_table d_is_state_table
  m_is_state_table : mg "is_state_table" = some (.ref f_is_state_table)
  b_is_state_table : Binds K d_is_state_table p_is_state_table []
  f_is_state_row : Addr
  d_is_state_row : FuncData
  F_is_state_row : Fun K "is_state_row" "is_state_row" s_is_state_row f_is_state_row d_is_state_row
  m_is_state_row : mg "is_state_row" = some (.ref f_is_state_row)
  b_is_state_row : Binds K d_is_state_row p_is_state_row []
  f_shown_table : Addr
  d_shown_table : FuncData
  F_shown_table : Fun K "shown_table" "shown_table" s_shown_table f_shown_table d_shown_table
  m_shown_table : mg "shown_table" = some (.ref f_shown_table)
  b_shown_table : Binds K d_shown_table p_shown_table []
  f_counter : Addr
  d_counter : FuncData
  F_counter : Fun K "counter" "counter" s_counter f_counter d_counter
  m_counter : mg "counter" = some (.ref f_counter)
  b_counter : Binds K d_counter p_counter []
  f_gray : Addr
  d_gray : FuncData
  F_gray : Fun K "gray" "gray" s_gray f_gray d_gray
  m_gray : mg "gray" = some (.ref f_gray)
  b_gray : Binds K d_gray p_gray []
  f_towers : Addr
  d_towers : FuncData
  F_towers : Fun K "towers" "towers" s_towers f_towers d_towers
  m_towers : mg "towers" = some (.ref f_towers)
  b_towers : Binds K d_towers p_towers []
  f_folded : Addr
  d_folded : FuncData
  F_folded : Fun K "folded" "folded" s_folded f_folded d_folded
  m_folded : mg "folded" = some (.ref f_folded)
  b_folded : Binds K d_folded p_folded []
  f_idle_row : Addr
  d_idle_row : FuncData
  F_idle_row : Fun K "idle_row" "idle_row" s_idle_row f_idle_row d_idle_row
  m_idle_row : mg "idle_row" = some (.ref f_idle_row)
  b_idle_row : Binds K d_idle_row p_idle_row []
  f_texts_of : Addr
  d_texts_of : FuncData
  F_texts_of : Fun K "_law_texts_of" "_law_texts_of" s_texts_of f_texts_of d_texts_of
  m_texts_of : mg "_law_texts_of" = some (.ref f_texts_of)
  b_texts_of : Binds K d_texts_of p_texts_of []
  f_urn : Addr
  d_urn : FuncData
  F_urn : Fun K "_law_urn" "_law_urn" s_urn f_urn d_urn
  m_urn : mg "_law_urn" = some (.ref f_urn)
  b_urn : Binds K d_urn p_urn []
  f_dip : Addr
  d_dip : FuncData
  F_dip : Fun K "_law_dip" "_law_dip" s_dip f_dip d_dip
  m_dip : mg "_law_dip" = some (.ref f_dip)
  b_dip : Binds K d_dip p_dip []
  f_text : Addr
  d_text : FuncData
  F_text : Fun K "_law_text" "_law_text" s_text f_text d_text
  m_text : mg "_law_text" = some (.ref f_text)
  b_text : Binds K d_text p_text []
  f_digits : Addr
  d_digits : FuncData
  F_digits : Fun K "_law_digits" "_law_digits" s_digits f_digits d_digits
  m_digits : mg "_law_digits" = some (.ref f_digits)
  b_digits : Binds K d_digits p_digits []
  f_counts : Addr
  d_counts : FuncData
  F_counts : Fun K "_law_counts" "_law_counts" s_counts f_counts d_counts
  m_counts : mg "_law_counts" = some (.ref f_counts)
  b_counts : Binds K d_counts p_counts []
  f_gray_right : Addr
  d_gray_right : FuncData
  F_gray_right : Fun K "_law_gray_right" "_law_gray_right" s_gray_right f_gray_right d_gray_right
  m_gray_right : mg "_law_gray_right" = some (.ref f_gray_right)
  b_gray_right : Binds K d_gray_right p_gray_right []
  f_towers_right : Addr
  d_towers_right : FuncData
  F_towers_right : Fun K "_law_towers_right" "_law_towers_right" s_towers_right f_towers_right d_towers_right
  m_towers_right : mg "_law_towers_right" = some (.ref f_towers_right)
  b_towers_right : Binds K d_towers_right p_towers_right []
  f_folded_right : Addr
  d_folded_right : FuncData
  F_folded_right : Fun K "_law_folded_right" "_law_folded_right" s_folded_right f_folded_right d_folded_right
  m_folded_right : mg "_law_folded_right" = some (.ref f_folded_right)
  b_folded_right : Binds K d_folded_right p_folded_right []
  f_law : Addr
  d_law : FuncData
  F_law : Fun K "law" "law" s_law f_law d_law
  m_law : mg "law" = some (.ref f_law)
  b_law : Binds K d_law p_law []
  C_Machine : Addr
  g_Machine : mg "Machine" = some (.ref C_Machine)
  cl_Machine : Cls K C_Machine
  ki_Machine : PySem.W.kitOne K (.ref C_Machine) (.ref C_Machine) = some true
  kn_Machine : ((["list", "tuple", "dict", "str", "int", "bool", "NoneType"] : List String).all fun t => PySem.W.kitOne K (.type t) (.ref C_Machine) == some false) = true
  ty_Machine : ∀ (H : Hp) (a dx : Addr) (fs : List (Str × V)), H a = some (.ins C_Machine dx fs) → TyOf K H (.ref a) (.ref C_Machine)
  no_Machine : NeOf K C_Machine
  n_Machine_letters : NoAttr K C_Machine "_letters"
  n_Machine_states : NoAttr K C_Machine "_states"
  n_Machine_table : NoAttr K C_Machine "_table"
  f_Machine_init : Addr
  d_Machine_init : FuncData
  F_Machine_init : Fun K "__init__" "Machine.__init__" s_Machine_init f_Machine_init d_Machine_init
  b_Machine_init : Binds K d_Machine_init p_Machine_init []
  mk_Machine : Mk K C_Machine f_Machine_init
  f_Machine_states : Addr
  d_Machine_states : FuncData
  F_Machine_states : Fun K "states" "Machine.states" s_Machine_states f_Machine_states d_Machine_states
  b_Machine_states : Binds K d_Machine_states p_Machine_states []
  pp_Machine_states : Addr
  pr_Machine_states : PropOf K C_Machine "states" pp_Machine_states f_Machine_states
  f_Machine_turn : Addr
  d_Machine_turn : FuncData
  F_Machine_turn : Fun K "turn" "Machine.turn" s_Machine_turn f_Machine_turn d_Machine_turn
  b_Machine_turn : Binds K d_Machine_turn p_Machine_turn []
  mt_Machine_turn : Meth K C_Machine "turn" f_Machine_turn
  f_Machine_step : Addr
  d_Machine_step : FuncData
  F_Machine_step : Fun K "step" "Machine.step" s_Machine_step f_Machine_step d_Machine_step
  b_Machine_step : Binds K d_Machine_step p_Machine_step []
  mt_Machine_step : Meth K C_Machine "step" f_Machine_step
  f_Machine_undone : Addr
  d_Machine_undone : FuncData
  F_Machine_undone : Fun K "undone" "Machine.undone" s_Machine_undone f_Machine_undone d_Machine_undone
  b_Machine_undone : Binds K d_Machine_undone p_Machine_undone []
  mt_Machine_undone : Meth K C_Machine "undone" f_Machine_undone
  f_Machine_invert : Addr
  d_Machine_invert : FuncData
  F_Machine_invert : Fun K "__invert__" "Machine.__invert__" s_Machine_invert f_Machine_invert d_Machine_invert
  b_Machine_invert : Binds K d_Machine_invert p_Machine_invert []
  mt_Machine_invert : Meth K C_Machine "__invert__" f_Machine_invert
  f_Machine_contains : Addr
  d_Machine_contains : FuncData
  F_Machine_contains : Fun K "__contains__" "Machine.__contains__" s_Machine_contains f_Machine_contains d_Machine_contains
  b_Machine_contains : Binds K d_Machine_contains p_Machine_contains []
  mt_Machine_contains : Meth K C_Machine "__contains__" f_Machine_contains
  f_Machine_len : Addr
  d_Machine_len : FuncData
  F_Machine_len : Fun K "__len__" "Machine.__len__" s_Machine_len f_Machine_len d_Machine_len
  b_Machine_len : Binds K d_Machine_len p_Machine_len []
  mt_Machine_len : Meth K C_Machine "__len__" f_Machine_len
  f_Machine_str : Addr
  d_Machine_str : FuncData
  F_Machine_str : Fun K "__str__" "Machine.__str__" s_Machine_str f_Machine_str d_Machine_str
  b_Machine_str : Binds K d_Machine_str p_Machine_str []
  mt_Machine_str : Meth K C_Machine "__str__" f_Machine_str
section
variable {P : Program} {w : World} {K : PySem.W.Frag} {mg : Str → Option Value} {base : Heap}
theorem ok_urn (T : Tx K mg) : FnOk P w K mg base CX0 1 T.f_urn T.d_urn p_urn (spUrn K) := by
  refine T.F_urn.ok sc_urn (fun vs H Q E h => ?_) (fun cdv A outer s H vs Q E hr h => ?_)
  · obtain ⟨a, ns, k, rfl, _⟩ := h
    rfl
  · obtain ⟨a, ns, k, rfl, hS, hk, q⟩ := h
    refine ⟨_, (C8.pss_cut (ps_set (i := 2) sc_urn.nd rfl (by first | exact Or.inl rfl | exact Or.inr rfl) (pe_ifExp (pt_cmpR op_lt (pv 1) (pe_callB (lenS K) (by rfl) T.len (by decide +kernel) (pa_cons (pv 0) pa_nil)) (nomark _)) (pe_ix (ixL K) (pv 0) (pv 1) (fun _ _ => rfl)) (pe_op op_add (pe_op op_add (pe_callB (sumK K rfl) (by rfl) T.sum (by decide +kernel) (pa_cons (pe_slice (slL K) (pv 0) po_none (po_some pe_int)) pa_nil)) (pe_op op_mul pe_int (pv 1))) pe_int)))
    (pss_cons (ps_set (i := 3) sc_urn.nd rfl (by first | exact Or.inl rfl | exact Or.inr rfl) (pe_op op_mod (pe_callTy call_int1 (by rfl) T.int (by decide +kernel) (pa_cons (pe_callB call_abs (by rfl) T.abs (by decide +kernel) (pa_cons (pv 2) pa_nil)) pa_nil)) (pe_op op_powB (pe_op op_powB pe_int pe_int) pe_int)))
    (pss_cons (ps_set (i := 4) sc_urn.nd rfl (by first | exact Or.inl rfl | exact Or.inr rfl) (pe_op op_add (pe_op op_add (pe_op op_add (pe_op op_mul (pe_op op_mod (pe_callTy call_int1 (by rfl) T.int (by decide +kernel) (pa_cons (pv 3) pa_nil)) pe_int) pe_int) (pe_op op_mul pe_int (pv 1))) (pe_op op_mul pe_int (pe_callTy call_int1 (by rfl) T.int (by decide +kernel) (pa_cons (pe_cmpR op_lt (pv 2) pe_int (nomark _)) pa_nil)))) pe_int))
    (pss_one (ps_ret (pe_lst (pa_cons (pe_callB (call_max2 rfl) (by rfl) T.max (by decide +kernel) (pa_cons pe_int (pa_cons (pe_op op_sub (pv 3) (pe_op op_powB pe_int pe_int)) pa_nil))) (pa_cons (pe_op op_mod (pe_callTy call_int1 (by rfl) T.int (by decide +kernel) (pa_cons (pv 4) pa_nil)) pe_int) (pa_cons pe_int pa_nil))))))))), ?_⟩
    refine ⟨fun σ H' => ∃ z : Int, σ = [some (.ref a), some (.int k), some (.int z), none, none] ∧ Same H H', ?_, ?_⟩
    · refine ⟨_, rfl, _, rfl, a, _, rfl, .inl hS, _, _, rfl, rfl, _, rfl, ?_⟩
      refine ite2 (fun hc => ?_) (fun hc => ?_)
      · have hc : k < ((ns.map V.int).length : Nat) := of_decide_eq_true hc
        rw [List.length_map] at hc
        refine ⟨_, rfl, _, rfl, a, _, k, .int ns[k.toNat], rfl, rfl, hS, at_of (j := k.toNat) (by omega) (get_map (by omega)), ?_⟩
        exact ⟨_, rfl, Same.refl H⟩
      · refine ⟨_, rfl, _, rfl, _, _, rfl, hS, fun p hp => ?_⟩
        refine ⟨p, ns.take 1, rfl, by rw [cut_first]; exact .of upd_same, _, rfl, _, _, rfl, rfl, .inl ⟨by decide, by decide⟩, _, _, rfl, rfl, _, _, rfl, rfl, ?_⟩
        exact ⟨_, rfl, Same.new (Same.refl H) hp⟩
    · rintro σ H' ⟨z, rfl, sm⟩
      refine ⟨_, rfl, _, rfl, .inl ⟨_, rfl, _, _, rfl, rfl, ⟨by decide, by decide +kernel⟩, _, _, rfl, rfl, ⟨by decide, by decide +kernel⟩, _, _, rfl, rfl, pow_pos_, ?_⟩⟩
      have hg0 : 0 ≤ (if z < 0 then -z else z) % (10 ^ (53 : Int).toNat) ^ (11 : Int).toNat := Int.emod_nonneg _ (Int.ne_of_gt pow_pos_)
      generalize (if z < 0 then -z else z) % (10 ^ (53 : Int).toNat) ^ (11 : Int).toNat = g at hg0 ⊢
      refine ⟨_, rfl, .inl ⟨_, rfl, _, _, rfl, rfl, by show (0 : Int) < 2305843009213693907; decide, _, _, rfl, rfl, .inr ⟨by decide, by decide⟩, _, rfl, _, _, rfl, rfl, .inl ⟨by decide, by decide⟩, _, _, rfl, rfl, ?_⟩⟩
      refine ⟨_, rfl, _, _, rfl, rfl, .inr ⟨_, rfl, _, _, rfl, rfl, .inl ⟨by decide, by decide⟩, _, _, rfl, rfl, _, _, rfl, rfl, ?_⟩⟩
      have hm0 : 0 ≤ g % 2305843009213693907 * 1000211 + 8017 * k + 37 * (if decide (z < 0) = true then 1 else 0) + 19 := by
        have := Int.emod_nonneg g (show (2305843009213693907 : Int) ≠ 0 by decide)
        split <;> omega
      generalize g % 2305843009213693907 * 1000211 + 8017 * k + 37 * (if decide (z < 0) = true then 1 else 0) + 19 = m at hm0 ⊢
      refine ⟨_, rfl, _, _, rfl, rfl, ⟨by decide, by decide +kernel⟩, _, _, rfl, rfl, _, _, rfl, ?_⟩
      refine ⟨_, rfl, .inl ⟨_, rfl, _, _, rfl, rfl, by show (0 : Int) < 2305843009213693951; decide, by show 3 ≤ sizeLine; decide, fun p hp => ?_⟩⟩
      refine q _ p (Same.new sm hp) (Same.free sm hp) ⟨_, upd_same, _, _, _, rfl, ?_, Int.emod_nonneg _ (by decide), Int.lt_of_lt_of_le (Int.emod_lt_of_pos _ (by decide)) (by decide), by decide⟩
      split <;> omega
theorem ok_dip (T : Tx K mg) : FnOk P w K mg base CX0 1 T.f_dip T.d_dip p_dip spDip := by
  refine T.F_dip.ok sc_dip (fun vs H Q E h => ?_) (fun cdv A outer s H vs Q E hr h => ?_)
  · obtain ⟨u, t, rfl, _⟩ := h
    rfl
  · obtain ⟨u, t, rfl, ⟨xs, hu, g, m, c, rfl, g0, m0, m1, c0⟩, t0, t1, q⟩ := h
    refine ⟨_, (pss_cons (ps_if (pt_cmpR op_gt (pe_ix (ixL K) (pv 0) pe_int (fun _ _ => rfl)) pe_int (nomark _))
      (pss_cons (ps_set (i := 4) sc_dip.nd rfl (by first | exact Or.inl rfl | exact Or.inr rfl) (pe_op op_mod (pe_callTy call_int1 (by rfl) T.int (by decide +kernel) (pa_cons (pe_ix (ixL K) (pv 0) pe_int (fun _ _ => rfl)) pa_nil)) (pv 1)))
    (pss_cons (ps_asg (pe_op op_fdivW (pe_ix (ixL K) (pv 0) pe_int (fun _ _ => rfl)) (pv 1)) (pg_sub (pv 0) pe_int set_list))
    (pss_one (ps_ret (pv 4)))))
      pss_nil)
    (pss_cons (ps_asg (pe_op op_add (pe_ix (ixL K) (pv 0) pe_int (fun _ _ => rfl)) pe_int) (pg_sub (pv 0) pe_int set_list))
    (pss_cons (ps_set (i := 2) sc_dip.nd rfl (by first | exact Or.inl rfl | exact Or.inr rfl) (pe_op op_mod (pe_callTy call_int1 (by rfl) T.int (by decide +kernel) (pa_cons (pe_op op_add (pe_ix (ixL K) (pv 0) pe_int (fun _ _ => rfl)) (pe_op op_mul pe_int (pe_ix (ixL K) (pv 0) pe_int (fun _ _ => rfl)))) pa_nil)) pe_int))
    (pss_cons (ps_set (i := 3) sc_dip.nd rfl (by first | exact Or.inl rfl | exact Or.inr rfl) (pe_op op_add (pe_op op_mulW (pe_op op_mod (pe_callTy call_int1 (by rfl) T.int (by decide +kernel) (pa_cons (pe_op op_mulW (pv 2) (pv 2)) pa_nil)) pe_int) (pv 2)) (pe_op op_mul pe_int (pe_ix (ixL K) (pv 0) pe_int (fun _ _ => rfl)))))
    (pss_one (ps_ret (pe_op op_mod (pe_callTy call_int1 (by rfl) T.int (by decide +kernel) (pa_cons (pe_op op_fdivW (pe_op op_mod (pe_callTy call_int1 (by rfl) T.int (by decide +kernel) (pa_cons (pv 3) pa_nil)) pe_int) pe_int) pa_nil)) (pv 1)))))))), ?_⟩
    refine ⟨_, rfl, u, _, _, _, rfl, rfl, SqL.of hu, rfl, _, _, rfl, rfl, _, rfl, ?_⟩
    refine ite2 (fun hc => ?_) (fun hc => ?_)
    · refine ⟨_, rfl, u, _, _, _, rfl, rfl, SqL.of hu, rfl, .inl ⟨_, rfl, _, rfl, _, _, rfl, rfl, t0, ?_⟩⟩
      refine ⟨_, rfl, u, _, _, _, rfl, rfl, SqL.of hu, rfl, _, rfl, _, _, rfl, rfl, wide_div t0 t1 (by decide) (by decide), ?_⟩
      refine ⟨_, rfl, u, _, _, _, rfl, rfl, hu, rfl, ?_⟩
      refine ⟨_, rfl, q _ _ ⟨⟨_, upd_same, _, _, _, rfl, Int.ediv_nonneg g0 (Int.le_of_lt t0), m0, m1, c0⟩, fun b o hb e => by rw [upd_ne hb]; exact e⟩ (Int.emod_nonneg _ (Int.ne_of_gt t0)) (Int.emod_lt_of_pos _ t0)⟩
    · refine ⟨_, rfl, u, _, _, _, rfl, rfl, SqL.of hu, rfl, _, _, rfl, rfl, ?_⟩
      refine ⟨_, rfl, u, _, _, _, rfl, rfl, hu, rfl, ?_⟩
      refine ⟨_, rfl, u, _, _, _, rfl, rfl, SqL.of upd_same, rfl, ?_⟩
      refine ⟨_, rfl, u, _, _, _, rfl, rfl, SqL.of upd_same, rfl, _, _, rfl, rfl, .inl ⟨by decide, by decide⟩, _, _, rfl, rfl, .inl ⟨_, rfl, _, _, rfl, rfl, by show (0 : Int) < 2305843009213693951; decide, ?_⟩⟩
      have hon : ((m + 1048589 * (c + 1)) % 2305843009213693951).natAbs < 2 ^ 61 := by
        have h0 := Int.emod_nonneg (m + 1048589 * (c + 1)) (show (2305843009213693951 : Int) ≠ 0 by decide)
        have h1 := Int.emod_lt_of_pos (m + 1048589 * (c + 1)) (show (0 : Int) < 2305843009213693951 by decide)
        omega
      refine ⟨_, rfl, _, rfl, _, _, rfl, rfl, wide_mul (a := 61) (b := 61) hon hon (by decide) (by decide) (by decide), .inl ⟨_, rfl, _, _, rfl, rfl, by show (0 : Int) < 2305843009213693921; decide, ?_⟩⟩
      have htn : ((m + 1048589 * (c + 1)) % 2305843009213693951 * ((m + 1048589 * (c + 1)) % 2305843009213693951) % 2305843009213693921).natAbs < 2 ^ 61 := by
        have h0 := Int.emod_nonneg ((m + 1048589 * (c + 1)) % 2305843009213693951 * ((m + 1048589 * (c + 1)) % 2305843009213693951)) (show (2305843009213693921 : Int) ≠ 0 by decide)
        have h1 := Int.emod_lt_of_pos ((m + 1048589 * (c + 1)) % 2305843009213693951 * ((m + 1048589 * (c + 1)) % 2305843009213693951)) (show (0 : Int) < 2305843009213693921 by decide)
        omega
      refine ⟨_, rfl, _, _, rfl, rfl, wide_mul (a := 61) (b := 61) htn hon (by decide) (by decide) (by decide), ?_⟩
      refine ⟨_, rfl, u, _, _, _, rfl, rfl, SqL.of upd_same, rfl, _, _, rfl, rfl, .inl ⟨by decide, by decide⟩, _, _, rfl, rfl, ?_⟩
      refine ⟨_, rfl, .inl ⟨_, rfl, _, _, rfl, rfl, by show (0 : Int) < 2305843009213693907; decide, _, _, rfl, rfl, ⟨by decide, by decide +kernel⟩, .inl ⟨_, rfl, _, rfl, _, _, rfl, rfl, t0, ?_⟩⟩⟩
      refine q _ _ ⟨⟨_, upd_same, _, _, _, rfl, g0, m0, m1, by omega⟩, fun b o hb e => by rw [upd_ne hb]; exact e⟩ (Int.emod_nonneg _ (Int.ne_of_gt t0)) (Int.emod_lt_of_pos _ t0)
end
end My

set_option Elab.async false
set_option linter.all false
set_option maxRecDepth 100000
set_option maxHeartbeats 4000000
namespace My
open PySem PySem.Spec PyProof.Rows L2
/-! ### the values that are judged -/
def flatG : V → Bool
  | .str z => decide (z.length ≤ 1000) && z.cps.toList.all fun c => decide (c < 128)
  | v => flatV v
theorem flatG_V {v : V} (h : flatG v = true) : flatV v = true := by
  cases v <;> first | rfl | exact h
theorem flatG_all {xs : List V} (h : xs.all flatG = true) : xs.all flatV = true :=
  List.all_eq_true.mpr fun x hx => flatG_V (List.all_eq_true.mp h x hx)
inductive Gd (H : Hp) : V → Prop where
  | non : Gd H .non
  | bl (b : Bool) : Gd H (.bl b)
  | int (i : Int) : Gd H (.int i)
  | str (z : Str) (h : z.length ≤ 1000) (ha : ∀ c ∈ z.cps.toList, c < 128) : Gd H (.str z)
  | tup (a : Addr) (xs : List V) (h : H a = some (.tup xs)) (hf : xs.all flatG = true) (hl : xs.length ≤ 60) : Gd H (.ref a)
  | lst (a : Addr) (xs : List V) (h : H a = some (.lst xs)) : Gd H (.ref a)
  | dct (a : Addr) (kvs : List (Key × V)) (h : H a = some (.dK kvs)) : Gd H (.ref a)
theorem Gd.same {H H' : Hp} {v : V} (g : Gd H v) (s : Same H H') : Gd H' v := by
  cases g with
  | non => exact .non
  | bl b => exact .bl b
  | int i => exact .int i
  | str z h ha => exact .str z h ha
  | tup a xs h hf hl => exact .tup a xs (s _ _ h) hf hl
  | lst a xs h => exact .lst a xs (s _ _ h)
  | dct a kvs h => exact .dct a kvs (s _ _ h)
theorem Gd.flat {H : Hp} {v : V} (h : flatG v = true) : Gd H v := by
  cases v with
  | non => exact .non
  | bl b => exact .bl b
  | int i => exact .int i
  | str z =>
    have h : (decide (z.length ≤ 1000) && z.cps.toList.all fun c => decide (c < 128)) = true := h
    rw [Bool.and_eq_true, decide_eq_true_eq, List.all_eq_true] at h
    exact .str z h.1 fun c hc => of_decide_eq_true (h.2 c hc)
  | byt b => cases h
  | flt b => cases h
  | ref a => cases h
  | ty n => cases h
def wholeB : V → Bool
  | .int _ => true
  | _ => false
def betweenB (v : V) (lo hi : Int) : Bool := match v with
  | .int n => decide (lo ≤ n) && decide (n ≤ hi)
  | _ => false
def signB (lo hi : Nat) (v : V) : Bool := match v with
  | .str z => z.cps.toList.all fun c => decide (lo ≤ c) && decide (c ≤ hi)
  | _ => false
def nameB (v : V) : Bool := match v with
  | .str z => decide (1 ≤ z.length) && decide (z.length ≤ 8) && signB 97 122 v
  | _ => false
def textB (n : Nat) (v : V) : Bool := match v with
  | .str z => decide (z.length ≤ 200) && signB 48 (47 + n) v
  | _ => false
/-! ### the judges of the package -/
def spWhole : Sp := fun vs H Q _ => ∃ v, vs = [v] ∧ Gd H v ∧ Q (.bl (wholeB v)) H
def spBetween : Sp := fun vs H Q _ => ∃ v lo hi, vs = [v, .int lo, .int hi] ∧ Gd H v ∧ Q (.bl (betweenB v lo hi)) H
def spName : Sp := fun vs H Q _ => ∃ v, vs = [v] ∧ Gd H v ∧ ∀ H', Same H H' → Q (.bl (nameB v)) H'
def spCheck (C : Addr) : Sp := fun vs H Q E => ∃ v, vs = [v] ∧ Gd H v ∧ (betweenB v 2 4 = true → Q .non H) ∧ (betweenB v 2 4 = false → ∀ d, H d = none → E (.ref C) (some d) (upd H d (.xd [("value", v)])))
section
variable {P : Program} {w : World} {K : PySem.W.Frag} {mg : Str → Option Value} {base : Heap}
theorem kitT {a b : String} {r : Bool} (h : kitB a b = some r) : PySem.W.kitOne K (.type a) (.type b) = some r := kit_ty h
theorem ok_is_whole (T : Tx K mg) : FnOk P w K mg base CX0 1 T.f_is_whole T.d_is_whole p_is_whole spWhole := by
  refine T.F_is_whole.ok sc_is_whole (fun vs H Q E h => ?_) (fun cdv A outer s H vs Q E hr h => ?_)
  · obtain ⟨v, rfl, _⟩ := h
    rfl
  · obtain ⟨v, rfl, g, q⟩ := h
    refine ⟨_, (pss_one (ps_ret (pe_and (pe_callB (isiK K) (by rfl) T.isinstance (by decide +kernel) (pa_cons (pv 0) (pa_cons (pe_bltn (v := .ty "int") (by rfl) T.int (by decide +kernel) rfl) pa_nil))) (pe_one (pe_not (pe_callB (isiK K) (by rfl) T.isinstance (by decide +kernel) (pa_cons (pv 0) (pa_cons (pe_bltn (v := .ty "bool") (by rfl) T.bool (by decide +kernel) rfl) pa_nil)))))))), ?_⟩
    cases g with
    | non => exact ⟨_, rfl, _, _, _, _, false, rfl, .ty _, .base .non, kitT (by decide +kernel), _, rfl, q⟩
    | bl b => exact ⟨_, rfl, _, _, _, _, true, rfl, .ty _, .base (.bl b), kitT (by decide +kernel), _, rfl, _, rfl, _, _, _, _, true, rfl, .ty _, .base (.bl b), kitT (by decide +kernel), _, rfl, q⟩
    | int i => exact ⟨_, rfl, _, _, _, _, true, rfl, .ty _, .base (.int i), kitT (by decide +kernel), _, rfl, _, rfl, _, _, _, _, false, rfl, .ty _, .base (.int i), kitT (by decide +kernel), _, rfl, q⟩
    | str z h ha => exact ⟨_, rfl, _, _, _, _, false, rfl, .ty _, .base (.str z), kitT (by decide +kernel), _, rfl, q⟩
    | tup a xs h hf hl => exact ⟨_, rfl, _, _, _, _, false, rfl, .ty _, .base (.tup h), kitT (by decide +kernel), _, rfl, q⟩
    | lst a xs h => exact ⟨_, rfl, _, _, _, _, false, rfl, .ty _, .base (.lst h), kitT (by decide +kernel), _, rfl, q⟩
    | dct a kvs h => exact ⟨_, rfl, _, _, _, _, false, rfl, .ty _, .base (.dK h), kitT (by decide +kernel), _, rfl, q⟩
theorem ok_is_between (T : Tx K mg) : FnOk P w K mg base CX0 2 T.f_is_between T.d_is_between p_is_between spBetween := by
  refine T.F_is_between.ok sc_is_between (fun vs H Q E h => ?_) (fun cdv A outer s H vs Q E hr h => ?_)
  · obtain ⟨v, lo, hi, rfl, _⟩ := h
    rfl
  · obtain ⟨v, lo, hi, rfl, g, q⟩ := h
    refine ⟨_, (pss_one (ps_ret (pe_and (pe_call (ok_is_whole T) (hr.mono (by decide)) rfl T.m_is_whole T.F_is_whole.kp T.b_is_whole .nil pass0 (pa_cons (pv 0) pa_nil)) (pe_one (pe_chain op_le op_le (pv 1) (pv 0) (pv 2)))))), ?_⟩
    refine ⟨_, rfl, _, rfl, g, _, rfl, ?_⟩
    cases g with
    | int i =>
      refine ⟨_, rfl, _, rfl, _, _, rfl, rfl, _, rfl, ?_⟩
      refine ite2 (fun hc => ?_) (fun hc => ?_)
      · refine ⟨_, rfl, _, _, rfl, rfl, ?_⟩
        have e : betweenB (.int i) lo hi = decide (i ≤ hi) := by
          show (decide (lo ≤ i) && decide (i ≤ hi)) = _
          rw [hc, Bool.true_and]
        rw [e] at q
        exact q
      · have e : betweenB (.int i) lo hi = false := by
          show (decide (lo ≤ i) && decide (i ≤ hi)) = _
          rw [Bool.not_eq_true _ |>.mp hc, Bool.false_and]
        rw [e] at q
        exact q
    | non => exact q
    | bl b => exact q
    | str z h ha => exact q
    | tup a xs h hf hl => exact q
    | lst a xs h => exact q
    | dct a kvs h => exact q
theorem ok_check_letters (T : Tx K mg) : FnOk P w K mg base (L2.CX P w) 4 T.f_check_letters T.d_check_letters p_check_letters (spCheck T.C_InvalidNumber) := by
  refine T.F_check_letters.okX sc_check_letters (fun vs H Q E h => ?_) (fun cdv A outer s H vs Q E hr h => ?_)
  · obtain ⟨v, rfl, _⟩ := h
    rfl
  · obtain ⟨v, rfl, g, q1, q2⟩ := h
    refine ⟨_, (pss_one (ps_if (pt_not (pt_val (pe_call (ok_is_between T) (hr.mono (by decide)) rfl T.m_is_between T.F_is_between.kp T.b_is_between .nil pass0 (pa_cons (pv 0) (pa_cons pe_int (pa_cons pe_int pa_nil))))))
      (pss_one (ps_raiseInvalidNumber rfl T.x_InvalidNumber (hr.mono (Nat.le_refl _)) (takes_of rfl rfl rfl rfl) (by exact (pa_cons (pv 0) pa_nil))))
      pss_nil)), ?_⟩
    refine ⟨_, rfl, v, 2, 4, rfl, g, _, rfl, ?_⟩
    cases e : betweenB v 2 4 with
    | true => exact q1 e
    | false => exact ⟨_, rfl, v, rfl, fun d hd => q2 e d hd⟩
end
theorem az_mem (c : Nat) : decide (c ∈ ("abcdefghijklmnopqrstuvwxyz" : Str).cps.toList) = (decide (97 ≤ c) && decide (c ≤ 122)) := by
  have e : ("abcdefghijklmnopqrstuvwxyz" : Str).cps.toList = List.range' 97 26 := by decide +kernel
  rw [e]
  by_cases h : 97 ≤ c ∧ c ≤ 122
  · rw [decide_eq_true h.1, decide_eq_true h.2]
    exact decide_eq_true (List.mem_range'.mpr ⟨c - 97, by omega, by omega⟩)
  · have n : c ∉ List.range' 97 26 := fun z => by
      obtain ⟨i, h1, h2⟩ := List.mem_range'.mp z
      omega
    rw [decide_eq_false n]
    by_cases h1 : 97 ≤ c
    · have h2 : ¬ c ≤ 122 := fun z => h ⟨h1, z⟩
      rw [decide_eq_false h2, Bool.and_false]
    · rw [decide_eq_false h1, Bool.false_and]
theorem all_map_bl (l : List Bool) : (l.map V.bl).map (fun v => v) = l.map V.bl := List.map_id' _
theorem signs_map (z : Str) (f : Nat → V) : (signs z).map (fun v => match v with | .str y => f (y.cps.toList.headD 0) | _ => .non) = z.cps.toList.map f := by
  unfold signs
  rw [List.map_map]
  exact List.map_congr_left fun c _ => rfl
/-- what a sign is asked -/
def atSign (f : Nat → V) (v : V) : V := match v with
  | .str y => f (y.cps.toList.headD 0)
  | _ => .non
def isSign (f : Nat → Bool) (v : V) : Bool := match v with
  | .str y => f (y.cps.toList.headD 0)
  | _ => false
theorem signs_at (z : Str) (f : Nat → V) : (signs z).map (atSign f) = z.cps.toList.map f := by
  unfold signs
  rw [List.map_map]
  exact List.map_congr_left fun c _ => rfl
theorem mem_signs {z : Str} {v : V} (h : v ∈ signs z) : ∃ c, c ∈ z.cps.toList ∧ v = .str ⟨#[c]⟩ := by
  obtain ⟨c, hc, e⟩ := List.mem_map.mp h
  exact ⟨c, hc, e.symm⟩
/-! ### the texts' signs by the letters -/
theorem dig_mem (n : Nat) (h : n = 2 ∨ n = 3 ∨ n = 4) (c : Nat) : decide (c ∈ (cutS "0123" none (some (n : Int))).cps.toList) = (decide (48 ≤ c) && decide (c ≤ 47 + n)) := by
  have e : (cutS "0123" none (some (n : Int))).cps.toList = List.range' 48 n := by
    rcases h with rfl | rfl | rfl <;> decide +kernel
  rw [e]
  by_cases q : 48 ≤ c ∧ c ≤ 47 + n
  · rw [decide_eq_true q.1, decide_eq_true q.2]
    exact decide_eq_true (List.mem_range'.mpr ⟨c - 48, by omega, by omega⟩)
  · have nm : c ∉ List.range' 48 n := fun z => by
      obtain ⟨i, h1, h2⟩ := List.mem_range'.mp z
      omega
    rw [decide_eq_false nm]
    by_cases h1 : 48 ≤ c
    · have h2 : ¬ c ≤ 47 + n := fun z => q ⟨h1, z⟩
      rw [decide_eq_false h2, Bool.and_false]
    · rw [decide_eq_false h1, Bool.false_and]
def spText (C : Addr) : Sp := fun vs H Q E => ∃ l v, vs = [l, v] ∧ Gd H l ∧ Gd H v ∧
  (∀ n : Nat, l = .int n → (n = 2 ∨ n = 3 ∨ n = 4) → ∀ H', Same H H' → Q (.bl (textB n v)) H') ∧
  (betweenB l 2 4 = false → ∀ d, H d = none → E (.ref C) (some d) (upd H d (.xd [("value", l)])))
theorem between24 {v : V} (h : betweenB v 2 4 = true) : ∃ n : Nat, v = .int n ∧ (n = 2 ∨ n = 3 ∨ n = 4) := by
  cases v with
  | int i =>
    have h : (decide (2 ≤ i) && decide (i ≤ 4)) = true := h
    rw [Bool.and_eq_true, decide_eq_true_eq, decide_eq_true_eq] at h
    exact ⟨i.toNat, by rw [Int.toNat_of_nonneg (by omega)], by omega⟩
  | _ => cases h
section
variable {P : Program} {w : World} {K : PySem.W.Frag} {mg : Str → Option Value} {base : Heap}
theorem ok_is_name (T : Tx K mg) : FnOk P w K mg base CX0 1 T.f_is_name T.d_is_name p_is_name spName := by
  refine T.F_is_name.ok sc_is_name (fun vs H Q E h => ?_) (fun cdv A outer s H vs Q E hr h => ?_)
  · obtain ⟨v, rfl, _⟩ := h
    rfl
  · obtain ⟨v, rfl, g, q⟩ := h
    refine ⟨_, (pss_cons (ps_if (PW.pt (pw_or (pt_not (pt_val (pe_callB (isiK K) (by rfl) T.isinstance (by decide +kernel) (pa_cons (pv 0) (pa_cons (pe_bltn (v := .ty "str") (by rfl) T.str (by decide +kernel) rfl) pa_nil))))) (pw_or1 (pt_not (pt_chain op_le op_le pe_int (pe_callB call_len_str (by rfl) T.len (by decide +kernel) (pa_cons (pv 0) pa_nil)) (pe_glob (v := .int 8) rfl T.g_MAX_NAME ⟨_, rfl⟩))))))
      (pss_one (ps_ret pe_bl))
      pss_nil)
    (pss_one (ps_ret (pe_callB (allK K rfl) (by rfl) T.all (by decide +kernel) (pa_cons (pe_lc (own := [("sign", 1)]) (g := gName 1) (tt := tYes) rfl sc_is_name.nd (pi_str (pv 0)) (blkOk_by (N := n_is_name) (sc := defScope s_is_name) (by decide +kernel)) (fun _ _ _ _ _ => pg_name (i := 1) sc_is_name.nd rfl (Or.inl rfl)) (fun _ _ _ _ _ => by exact pts_nil) (fun _ _ _ _ _ => by exact (pe_cmpR op_in_sign (pv 1) (pe_glob (v := .str "abcdefghijklmnopqrstuvwxyz") rfl T.g_NAME_SIGNS ⟨_, rfl⟩) (by rfl)))) pa_nil))))), ?_⟩
    cases g with
    | non => exact ⟨_, rfl, _, _, _, _, false, rfl, .ty _, .base .non, kitT (by decide +kernel), _, rfl, q H (Same.refl H)⟩
    | bl b => exact ⟨_, rfl, _, _, _, _, false, rfl, .ty _, .base (.bl b), kitT (by decide +kernel), _, rfl, q H (Same.refl H)⟩
    | int i => exact ⟨_, rfl, _, _, _, _, false, rfl, .ty _, .base (.int i), kitT (by decide +kernel), _, rfl, q H (Same.refl H)⟩
    | tup a xs h hf hl => exact ⟨_, rfl, _, _, _, _, false, rfl, .ty _, .base (.tup h), kitT (by decide +kernel), _, rfl, q H (Same.refl H)⟩
    | lst a xs h => exact ⟨_, rfl, _, _, _, _, false, rfl, .ty _, .base (.lst h), kitT (by decide +kernel), _, rfl, q H (Same.refl H)⟩
    | dct a kvs h => exact ⟨_, rfl, _, _, _, _, false, rfl, .ty _, .base (.dK h), kitT (by decide +kernel), _, rfl, q H (Same.refl H)⟩
    | str z h ha =>
      refine ⟨_, rfl, _, _, _, _, true, rfl, .ty _, .base (.str z), kitT (by decide +kernel), _, rfl, ?_⟩
      refine ⟨_, rfl, z, rfl, by rw [sizeLine_eq]; omega, _, _, rfl, rfl, _, rfl, ?_⟩
      refine ite2 (fun h1 => ?_) (fun h1 => ?_)
      · refine ⟨_, _, rfl, rfl, _, rfl, ?_⟩
        refine ite2 (fun h2 => ?_) (fun h2 => ?_)
        · have e : nameB (.str z) = false := by
            show (decide (1 ≤ z.length) && decide (z.length ≤ 8) && signB 97 122 (.str z)) = false
            have h2 : ¬ ((z.length : Nat) : Int) ≤ 8 := by simpa using h2
            rw [decide_eq_false (by omega : ¬ z.length ≤ 8), Bool.and_false, Bool.false_and]
          rw [e] at q
          exact q H (Same.refl H)
        · have h2 : ((z.length : Nat) : Int) ≤ 8 := by simpa using h2
          have h1 : (1 : Int) ≤ (z.length : Nat) := of_decide_eq_true h1
          refine ⟨_, rfl, z, rfl, fun D hD => lc_m (j := 1) walk_signs (atSign fun c => .bl (decide (97 ≤ c) && decide (c ≤ 122))) (by rw [signs_len]; omega) (fun _ => trivial) (fun x hx ys R r => ?_) ?_⟩
          · obtain ⟨c, hc, rfl⟩ := mem_signs hx
            exact ⟨_, rfl, c, _, rfl, rfl, by rw [az_mem]; exact r⟩
          · refine ⟨D, z.cps.toList.map (fun c => decide (97 ≤ c) && decide (c ≤ 122)), rfl, .of (by rw [signs_at, List.map_map]; exact upd_same), ?_⟩
            have e : nameB (.str z) = (z.cps.toList.map (fun c => decide (97 ≤ c) && decide (c ≤ 122))).all id := by
              show (decide (1 ≤ z.length) && decide (z.length ≤ 8) && signB 97 122 (.str z)) = _
              rw [decide_eq_true (by omega : 1 ≤ z.length), decide_eq_true (by omega : z.length ≤ 8), List.all_map]
              rfl
            rw [e] at q
            exact q _ (same_new hD)
      · have e : nameB (.str z) = false := by
          show (decide (1 ≤ z.length) && decide (z.length ≤ 8) && signB 97 122 (.str z)) = false
          have h1 : ¬ (1 : Int) ≤ (z.length : Nat) := by simpa using h1
          rw [decide_eq_false (by omega : ¬ 1 ≤ z.length), Bool.false_and, Bool.false_and]
        rw [e] at q
        exact ⟨_, rfl, q H (Same.refl H)⟩
end
def turnL (n : Nat) (xs : List V) : Bool := decide (xs.length = n) && xs.all wholeB && (upto n).all fun l => inV (.int l) xs
def turnB (H : Hp) (n : Nat) (v : V) : Bool := match v with
  | .ref a => (match H a with
    | some (.tup xs) => turnL n xs
    | _ => false)
  | _ => false
theorem turnB_tup {H : Hp} {n : Nat} {a : Addr} {xs : List V} (h : H a = some (.tup xs)) : turnB H n (.ref a) = turnL n xs := by
  show (match H a with | some (.tup xs) => turnL n xs | _ => false) = _
  rw [h]
theorem turnB_lst {H : Hp} {n : Nat} {a : Addr} {xs : List V} (h : H a = some (.lst xs)) : turnB H n (.ref a) = false := by
  show (match H a with | some (.tup xs) => turnL n xs | _ => false) = _
  rw [h]
theorem turnB_dct {H : Hp} {n : Nat} {a : Addr} {kvs : List (Key × V)} (h : H a = some (.dK kvs)) : turnB H n (.ref a) = false := by
  show (match H a with | some (.tup xs) => turnL n xs | _ => false) = _
  rw [h]
def spTurn (C : Addr) : Sp := fun vs H Q E => ∃ l v, vs = [l, v] ∧ Gd H l ∧ Gd H v ∧
  (∀ n : Nat, l = .int n → (n = 2 ∨ n = 3 ∨ n = 4) → ∀ H', Same H H' → Q (.bl (turnB H n v)) H') ∧
  (betweenB l 2 4 = false → ∀ d, H d = none → E (.ref C) (some d) (upd H d (.xd [("value", l)])))
theorem rng_upto (n : Nat) : rng 0 n = (upto n).map V.int := by
  unfold rng upto
  rw [List.map_map]
  exact List.map_congr_left fun i _ => by simp
theorem one_lt (a b : Nat) : decide ([a] < [b]) = decide (a < b) := by
  by_cases h : a < b
  · rw [decide_eq_true h]
    exact decide_eq_true (List.cons_lt_cons_iff.mpr (.inl h))
  · rw [decide_eq_false h]
    refine decide_eq_false fun z => ?_
    rcases List.cons_lt_cons_iff.mp z with q | ⟨_, q⟩
    · exact h q
    · exact absurd q (by decide)
theorem signs_flat {z : Str} (p : V → Bool) : (((signs z).filter p).map fun v => v).all flatV = true := by
  rw [List.map_id']
  refine List.all_eq_true.mpr fun x hx => ?_
  obtain ⟨c, _, rfl⟩ := mem_signs (List.mem_filter.mp hx).1
  rfl
theorem signs_asc {z : Str} (h : ∀ c ∈ z.cps.toList, c < 128) (p : V → Bool) : (((signs z).filter p).map fun v => v).all asc = true := by
  rw [List.map_id']
  refine List.all_eq_true.mpr fun x hx => ?_
  obtain ⟨c, hc, rfl⟩ := mem_signs (List.mem_filter.mp hx).1
  show (([c] : List Nat).all fun c => decide (c < 128)) = true
  simp [h c hc]
theorem none_left (z : Str) (f : Nat → Bool) : ((signs z).filter (isSign fun c => !f c)).isEmpty = z.cps.toList.all f := by
  unfold signs
  generalize z.cps.toList = l
  induction l with
  | nil => rfl
  | cons c l ih =>
    rw [List.map_cons, List.filter_cons, List.all_cons]
    show (if (!f c) = true then _ else _ : List V).isEmpty = _
    cases f c with
    | true =>
      rw [if_neg (by decide), ih, Bool.true_and]
    | false =>
      rw [if_pos (by decide)]
      rfl
def spSomeText : Sp := fun vs H Q _ => ∃ (n : Nat) (v : V), vs = [.int n, v] ∧ (n = 2 ∨ n = 3 ∨ n = 4) ∧ Gd H v ∧ ∀ H', Same H H' → Q (.bl (textB n v)) H'
def spSomeTurn : Sp := fun vs H Q _ => ∃ (n : Nat) (v : V), vs = [.int n, v] ∧ (n = 2 ∨ n = 3 ∨ n = 4) ∧ Gd H v ∧ ∀ H', Same H H' → Q (.bl (turnB H n v)) H'
theorem flatG_asc {v : V} (h : flatG v = true) : asc v = true := by
  cases v with
  | str z =>
    have h : (decide (z.length ≤ 1000) && z.cps.toList.all fun c => decide (c < 128)) = true := h
    rw [Bool.and_eq_true] at h
    exact h.2
  | _ => rfl
theorem rgV_upto (n : Nat) : rgV 0 (n : Int) = (upto n).map V.int := by
  unfold rgV upto
  rw [List.map_map]
  have e : ((n : Int) - 0).toNat = n := by omega
  rw [e]
  exact List.map_congr_left fun i _ => by simp
theorem ints_of : ∀ {xs : List V}, xs.all wholeB = true → ∃ ns : List Int, xs = ns.map V.int
  | [], _ => ⟨[], rfl⟩
  | x :: xs, h => by
    rw [List.all_cons, Bool.and_eq_true] at h
    obtain ⟨ns, rfl⟩ := ints_of h.2
    cases x with
    | int i => exact ⟨i :: ns, rfl⟩
    | _ => cases h.1
theorem all_flat_ints (ns : List Int) : (ns.map V.int).all flatV = true := List.all_eq_true.mpr fun x hx => by
  obtain ⟨i, _, rfl⟩ := List.mem_map.mp hx
  rfl
theorem all_asc_ints (ns : List Int) : (ns.map V.int).all asc = true := List.all_eq_true.mpr fun x hx => by
  obtain ⟨i, _, rfl⟩ := List.mem_map.mp hx
  rfl
theorem in_ints (l : Int) : ∀ ns : List Int, inV (.int l) (ns.map V.int) = decide (l ∈ ns)
  | [] => rfl
  | x :: ns => by
    show ((x == l) || inV (.int l) (ns.map V.int)) = _
    rw [in_ints l ns]
    by_cases h : x = l
    · subst h
      simp
    · have h2 : ¬ l = x := fun z => h z.symm
      simp [h, h2]
section
variable {P : Program} {w : World} {K : PySem.W.Frag} {mg : Str → Option Value} {base : Heap}
theorem ok_is_turn (T : Tx K mg) : FnOk P w K mg base (L2.CX P w) 5 T.f_is_turn T.d_is_turn p_is_turn (spTurn T.C_InvalidNumber) := by
  refine T.F_is_turn.okX sc_is_turn (fun vs H Q E h => ?_) (fun cdv A outer s H vs Q E hr h => ?_)
  · obtain ⟨l, v, rfl, _⟩ := h
    rfl
  · obtain ⟨l, v, rfl, gl, g, q, qe⟩ := h
    refine ⟨_, (pss_cons (ps_expr (pe_call (ok_check_letters T) (hr.mono (by decide)) rfl T.m_check_letters T.F_check_letters.kp T.b_check_letters .nil (passes_call (takes_of rfl rfl rfl rfl) (fun _ _ _ _ z => z)) (pa_cons (pv 0) pa_nil)))
    (pss_cons (ps_if (PW.pt (pw_or (pt_not (pt_val (pe_callB (isiK K) (by rfl) T.isinstance (by decide +kernel) (pa_cons (pv 1) (pa_cons (pe_bltn (v := .ty "tuple") (by rfl) T.tuple (by decide +kernel) rfl) pa_nil))))) (pw_or1 (pt_cmpR op_ne (pe_callB (lenS K) (by rfl) T.len (by decide +kernel) (pa_cons (pv 1) pa_nil)) (pv 0) (nomark _)))))
      (pss_one (ps_ret pe_bl))
      pss_nil)
    (pss_cons (ps_if (pt_not (pt_val (pe_callB (allK K rfl) (by rfl) T.all (by decide +kernel) (pa_cons (pe_lc (own := [("part", 3)]) (g := gName 3) (tt := tYes) rfl sc_is_turn.nd (piT K (pv 1)) (blkOk_by (N := n_is_turn) (sc := defScope s_is_turn) (by decide +kernel)) (fun _ _ _ _ _ => pg_name (i := 3) sc_is_turn.nd rfl (Or.inl rfl)) (fun _ _ _ _ _ => by exact pts_nil) (fun _ _ _ _ _ => by exact (pe_call (ok_is_whole T) (hr.mono (by decide)) rfl T.m_is_whole T.F_is_whole.kp T.b_is_whole .nil pass0 (pa_cons (pv 3) pa_nil)))) pa_nil))))
      (pss_one (ps_ret pe_bl))
      pss_nil)
    (pss_one (ps_ret (pe_callB (allK K rfl) (by rfl) T.all (by decide +kernel) (pa_cons (pe_lc (own := [("letter", 2)]) (g := gName 2) (tt := tYes) rfl sc_is_turn.nd (pi_range1 (by rfl) T.range (pa_cons (pv 0) pa_nil)) (blkOk_by (N := n_is_turn) (sc := defScope s_is_turn) (by decide +kernel)) (fun _ _ _ _ _ => pg_name (i := 2) sc_is_turn.nd rfl (Or.inl rfl)) (fun _ _ _ _ _ => by exact pts_nil) (fun _ _ _ _ _ => by exact (pe_cmpR (inK K) (pv 2) (pv 1) (by rfl)))) pa_nil))))))), ?_⟩
    refine ⟨_, rfl, l, rfl, gl, fun hb => ?_, qe⟩
    obtain ⟨n, rfl, hn⟩ := between24 hb
    have q := q n rfl hn
    cases g with
    | non => exact ⟨_, rfl, _, _, _, _, false, rfl, .ty _, .base .non, kitT (by decide +kernel), _, rfl, q H (Same.refl H)⟩
    | bl b => exact ⟨_, rfl, _, _, _, _, false, rfl, .ty _, .base (.bl b), kitT (by decide +kernel), _, rfl, q H (Same.refl H)⟩
    | int i => exact ⟨_, rfl, _, _, _, _, false, rfl, .ty _, .base (.int i), kitT (by decide +kernel), _, rfl, q H (Same.refl H)⟩
    | str z h ha => exact ⟨_, rfl, _, _, _, _, false, rfl, .ty _, .base (.str z), kitT (by decide +kernel), _, rfl, q H (Same.refl H)⟩
    | lst a xs h =>
      rw [turnB_lst h] at q
      exact ⟨_, rfl, _, _, _, _, false, rfl, .ty _, .base (.lst h), kitT (by decide +kernel), _, rfl, q H (Same.refl H)⟩
    | dct a kvs h =>
      rw [turnB_dct h] at q
      exact ⟨_, rfl, _, _, _, _, false, rfl, .ty _, .base (.dK h), kitT (by decide +kernel), _, rfl, q H (Same.refl H)⟩
    | tup a xs h hf hl =>
      rw [turnB_tup h] at q
      refine ⟨_, rfl, _, _, _, _, true, rfl, .ty _, .base (.tup h), kitT (by decide +kernel), _, rfl, ?_⟩
      refine ⟨_, rfl, a, xs, rfl, .inr (SqT.of h), _, rfl, rfl, _, rfl, ?_⟩
      by_cases hlen : xs.length = n
      · have e1 : decide (V.int ((xs.length : Nat) : Int) = V.int (n : Int)) = true := decide_eq_true (by rw [hlen])
        show (if (!decide (V.int ((xs.length : Nat) : Int) = V.int (n : Int))) = true then _ else _ : Prop)
        rw [e1]
        refine iteF ?_
        refine ⟨_, rfl, a, rfl, ⟨xs, SqT.of h⟩, fun D hD => lc_m (j := 3) (walk_tup (K := K) (a := a) (xs := xs)) (fun v => .bl (wholeB v)) (by omega) (fun ys => SqT.of (same_new hD _ _ h)) (fun x hx ys R r => ?_) ?_⟩
        · exact ⟨_, rfl, x, rfl, .flat (List.all_eq_true.mp hf x hx), r⟩
        · refine ⟨D, xs.map wholeB, rfl, .of (by rw [List.map_map]; exact upd_same), _, rfl, ?_⟩
          have e2 : (xs.map wholeB).all id = xs.all wholeB := by rw [List.all_map]; rfl
          rw [e2]
          cases ew : xs.all wholeB with
          | false =>
            have e : turnL n xs = false := by
              show (decide (xs.length = n) && xs.all wholeB && _) = false
              rw [ew, Bool.and_false, Bool.false_and]
            rw [e] at q
            exact q _ (same_new hD)
          | true =>
            have ht := same_new (o := HO.lst (xs.map fun v => V.bl (wholeB v))) hD _ _ h
            refine ⟨_, rfl, (n : Int), rfl, by omega, by omega, fun D2 hD2 => ?_⟩
            refine lc_m (j := 2) walk_rng (fun v => .bl (inV v xs)) (by rw [rng_len]; omega) (fun _ => trivial) (fun x hx ys R r => ?_) ?_
            · have fx : flatV x = true := by
                obtain ⟨i, _, rfl⟩ := List.mem_map.mp hx
                rfl
              exact ⟨_, rfl, _, rfl, a, xs, rfl, .inr (SqT.of (same_new hD2 _ _ ht)), fx, flatG_all hf, r⟩
            · have e3 : (((n : Nat) : Int)).toNat = n := by omega
              rw [e3, rng_upto, List.map_map]
              refine ⟨D2, (upto n).map (fun l => inV (.int l) xs), rfl, .of (by rw [List.map_map]; exact upd_same), ?_⟩
              have e : turnL n xs = ((upto n).map (fun l => inV (.int l) xs)).all id := by
                show (decide (xs.length = n) && xs.all wholeB && _) = _
                rw [ew, decide_eq_true hlen, List.all_map]
                rfl
              rw [e] at q
              exact q _ (Same.new (same_new hD) hD2)
      · have e1 : decide (V.int ((xs.length : Nat) : Int) = V.int (n : Int)) = false := decide_eq_false (fun z => by
          injection z with z
          omega)
        show (if (!decide (V.int ((xs.length : Nat) : Int) = V.int (n : Int))) = true then _ else _ : Prop)
        rw [e1]
        refine iteT ?_
        have e : turnL n xs = false := by
          show (decide (xs.length = n) && xs.all wholeB && _) = false
          rw [decide_eq_false hlen, Bool.false_and, Bool.false_and]
        rw [e] at q
        exact q H (Same.refl H)
theorem ok_is_text (T : Tx K mg) : FnOk P w K mg base (L2.CX P w) 5 T.f_is_text T.d_is_text p_is_text (spText T.C_InvalidNumber) := by
  refine T.F_is_text.okX sc_is_text (fun vs H Q E h => ?_) (fun cdv A outer s H vs Q E hr h => ?_)
  · obtain ⟨l, v, rfl, _⟩ := h
    rfl
  · obtain ⟨l, v, rfl, gl, g, q, qe⟩ := h
    refine ⟨_, (pss_cons (ps_expr (pe_call (ok_check_letters T) (hr.mono (by decide)) rfl T.m_check_letters T.F_check_letters.kp T.b_check_letters .nil (passes_call (takes_of rfl rfl rfl rfl) (fun _ _ _ _ z => z)) (pa_cons (pv 0) pa_nil)))
    (pss_cons (ps_if (PW.pt (pw_or (pt_not (pt_val (pe_callB (isiK K) (by rfl) T.isinstance (by decide +kernel) (pa_cons (pv 1) (pa_cons (pe_bltn (v := .ty "str") (by rfl) T.str (by decide +kernel) rfl) pa_nil))))) (pw_or1 (pt_cmpR op_gt (pe_callB call_len_str (by rfl) T.len (by decide +kernel) (pa_cons (pv 1) pa_nil)) (pe_glob (v := .int 200) rfl T.g_MAX_TEXT ⟨_, rfl⟩) (nomark _)))))
      (pss_one (ps_ret pe_bl))
      pss_nil)
    (pss_one (ps_ret (pe_callB (allK K rfl) (by rfl) T.all (by decide +kernel) (pa_cons (pe_lc (own := [("sign", 2)]) (g := gName 2) (tt := tYes) rfl sc_is_text.nd (pi_str (pv 1)) (blkOk_by (N := n_is_text) (sc := defScope s_is_text) (by decide +kernel)) (fun _ _ _ _ _ => pg_name (i := 2) sc_is_text.nd rfl (Or.inl rfl)) (fun _ _ _ _ _ => by exact pts_nil) (fun _ _ _ _ _ => by exact (pe_cmpR op_in_sign (pv 2) (pe_slice sl_str (pe_glob (v := .str "0123") rfl T.g_DIGITS ⟨_, rfl⟩) po_none (po_some (pv 0))) (by rfl)))) pa_nil)))))), ?_⟩
    refine ⟨_, rfl, l, rfl, gl, fun hb => ?_, qe⟩
    obtain ⟨n, rfl, hn⟩ := between24 hb
    have q := q n rfl hn
    have nt : ∀ u : V, (∀ z, u ≠ .str z) → textB n u = false := fun u hu => by
      cases u with
      | str z => exact absurd rfl (hu z)
      | _ => rfl
    cases g with
    | non => exact ⟨_, rfl, _, _, _, _, false, rfl, .ty _, .base .non, kitT (by decide +kernel), _, rfl, q H (Same.refl H)⟩
    | bl b => exact ⟨_, rfl, _, _, _, _, false, rfl, .ty _, .base (.bl b), kitT (by decide +kernel), _, rfl, q H (Same.refl H)⟩
    | int i => exact ⟨_, rfl, _, _, _, _, false, rfl, .ty _, .base (.int i), kitT (by decide +kernel), _, rfl, q H (Same.refl H)⟩
    | tup a xs h hf hl => exact ⟨_, rfl, _, _, _, _, false, rfl, .ty _, .base (.tup h), kitT (by decide +kernel), _, rfl, q H (Same.refl H)⟩
    | lst a xs h => exact ⟨_, rfl, _, _, _, _, false, rfl, .ty _, .base (.lst h), kitT (by decide +kernel), _, rfl, q H (Same.refl H)⟩
    | dct a kvs h => exact ⟨_, rfl, _, _, _, _, false, rfl, .ty _, .base (.dK h), kitT (by decide +kernel), _, rfl, q H (Same.refl H)⟩
    | str z h ha =>
      refine ⟨_, rfl, _, _, _, _, true, rfl, .ty _, .base (.str z), kitT (by decide +kernel), _, rfl, ?_⟩
      refine ⟨_, rfl, z, rfl, by rw [sizeLine_eq]; omega, _, _, rfl, rfl, _, rfl, ?_⟩
      refine ite2 (fun h1 => ?_) (fun h1 => ?_)
      · have e : textB n (.str z) = false := by
          show (decide (z.length ≤ 200) && signB 48 (47 + n) (.str z)) = false
          have h1 : (200 : Int) < (z.length : Nat) := of_decide_eq_true h1
          rw [decide_eq_false (by omega : ¬ z.length ≤ 200), Bool.false_and]
        rw [e] at q
        exact q H (Same.refl H)
      · have h1 : ¬ (200 : Int) < (z.length : Nat) := by simpa using h1
        refine ⟨_, rfl, z, rfl, fun D hD => lc_m (j := 2) walk_signs (atSign fun c => .bl (decide (48 ≤ c) && decide (c ≤ 47 + n))) (by rw [signs_len]; omega) (fun _ => trivial) (fun x hx ys R r => ?_) ?_⟩
        · obtain ⟨c, hc, rfl⟩ := mem_signs hx
          refine ⟨_, rfl, _, rfl, _, rfl, _, rfl, by decide, c, _, rfl, rfl, ?_⟩
          rw [dig_mem n hn]
          exact r
        · refine ⟨D, z.cps.toList.map (fun c => decide (48 ≤ c) && decide (c ≤ 47 + n)), rfl, .of (by rw [signs_at, List.map_map]; exact upd_same), ?_⟩
          have e : textB n (.str z) = (z.cps.toList.map (fun c => decide (48 ≤ c) && decide (c ≤ 47 + n))).all id := by
            show (decide (z.length ≤ 200) && signB 48 (47 + n) (.str z)) = _
            rw [decide_eq_true (by omega : z.length ≤ 200), List.all_map]
            rfl
          rw [e] at q
          exact q _ (same_new hD)
end
end My

set_option Elab.async false
set_option linter.all false
set_option maxRecDepth 100000
set_option maxHeartbeats 8000000
namespace My
open PySem PySem.Spec PyProof.Rows L2
/-- a turn's letters, as a text -/
def spShownTurn : Sp := fun vs H Q _ => ∃ (a : Addr) (l : List Int), vs = [.ref a] ∧ H a = some (.tup (l.map V.int)) ∧ l.length ≤ 4 ∧ (∀ i ∈ l, 0 ≤ i ∧ i < 4) ∧ ∀ H', Same H H' → Q (.str (digTxt l)) H'
theorem digs_few {l : List Int} (h4 : l.length ≤ 4) (h : ∀ i ∈ l, 0 ≤ i ∧ i < 4) : ((l.map fun (i : Int) => (Str.ofString (toString i))).map (·.length)).sum ≤ 4 := by
  rw [List.map_map]
  have := sum_map_le (f := (fun x : Str => x.length) ∘ fun (i : Int) => (Str.ofString (toString i))) (c := 1) (l := l) fun i hi => by
    show (Str.ofString (toString i)).length ≤ 1
    obtain ⟨a, b⟩ := h i hi
    rw [dig_len a b]
    exact Nat.le_refl 1
  omega
/-- the rows of a machine: a dict of names, each with a pair of a turn and the states behind -/
structure TabAt (H : Hp) (d : Addr) (ws : List (Row × Addr)) : Prop where
  top : H d = some (.dK (ws.map fun r => ((.inr r.1.nm : Key), V.ref r.2)))
  pair : ∀ r ∈ ws, H r.2 = some (.tup [.ref r.1.ta, .ref r.1.xa])
  tt : ∀ r ∈ ws, H r.1.ta = some (.tup (r.1.turn.map V.int))
  xt : ∀ r ∈ ws, H r.1.xa = some (.tup (r.1.nexts.map V.str))
theorem TabAt.same {H H' : Hp} {d : Addr} {ws : List (Row × Addr)} (h : TabAt H d ws) (s : Same H H') : TabAt H' d ws := ⟨s _ _ h.top, fun r hr => s _ _ (h.pair r hr), fun r hr => s _ _ (h.tt r hr), fun r hr => s _ _ (h.xt r hr)⟩
/-- all but d stays -/
def KeptB (d : Addr) (H H' : Hp) : Prop := ∀ b o, b ≠ d → H b = some o → H' b = some o
theorem KeptB.back {d : Addr} {H H' : Hp} {u : HO} (k : KeptB d H H') (h : H d = some u) : Same H (upd H' d u) := fun b o e => by
  by_cases q : b = d
  · subst q
    rw [upd_same, ← h, e]
  · rw [upd_ne q]
    exact k b o q e
theorem KeptB.same {d : Addr} {H H' H'' : Hp} (k : KeptB d H H') (s : Same H' H'') : KeptB d H H'' := fun b o q e => s b o (k b o q e)
theorem KeptB.put {d a : Addr} {H H' : Hp} {o : HO} (k : KeptB d H H') (n : H a = none) : KeptB d H (upd H' a o) := fun b o' q e => by
  rw [upd_ne (ne_of_none e n)]
  exact k b o' q e
theorem val_pair {ws : List (Row × Addr)} {r : Row × Addr} (nd : (ws.map fun r => r.1.nm).Nodup) (h : r ∈ ws) : valV (ws.map fun r => ((.inr r.1.nm : Key), V.ref r.2)) (.inr r.1.nm) = some (.ref r.2) := by
  induction ws with
  | nil => cases h
  | cons q ws ih =>
    rw [List.map_cons] at nd ⊢
    rcases List.mem_cons.mp h with rfl | h
    · exact valV_pos rfl
    · rw [valV_neg (fun z => ?_)]
      · exact ih (List.pairwise_cons.mp nd).2 h
      · injection z with z
        exact (List.pairwise_cons.mp nd).1 r.1.nm (List.mem_map.mpr ⟨r, h, rfl⟩) z
/-- a machine's rows, as a text -/
def spShownTable : Sp := fun vs H Q _ => ∃ (d : Addr) (n : Nat) (ws : List (Row × Addr)), vs = [.ref d] ∧ TabAt H d ws ∧ GoodM n (ws.map Prod.fst) ∧ ∀ H', Same H H' → Q (.str (tabTxt (ws.map Prod.fst))) H'
section
variable {P : Program} {w : World} {K : PySem.W.Frag} {mg : Str → Option Value} {base : Heap}
theorem ok_shown_turn (T : Tx K mg) : FnOk P w K mg base CX0 1 T.f_shown_turn T.d_shown_turn p_shown_turn spShownTurn := by
  refine T.F_shown_turn.ok sc_shown_turn (fun vs H Q E h => ?_) (fun cdv A outer s H vs Q E hr h => ?_)
  · obtain ⟨a, l, rfl, _⟩ := h
    rfl
  · obtain ⟨a, l, rfl, ha, l4, sm, q⟩ := h
    refine ⟨_, (pss_one (ps_ret (pe_join pe_str (pe_lc (own := [("letter", 1)]) (g := gName 1) (tt := tYes) rfl sc_shown_turn.nd (piT K (pv 0)) (blkOk_by (N := n_shown_turn) (sc := defScope s_shown_turn) (by decide +kernel)) (fun _ _ _ _ _ => pg_name (i := 1) sc_shown_turn.nd rfl (Or.inl rfl)) (fun _ _ _ _ _ => by exact pts_nil) (fun _ _ _ _ _ => by exact (pe_callTy call_str_int (by rfl) T.str (by decide +kernel) (pa_cons (pv 1) pa_nil))))))), ?_⟩
    refine ⟨⟨_, rfl⟩, _, rfl, a, rfl, ⟨_, .of ha⟩, fun C hC => lc_tup (xs := l.map V.int) (Pv := fun j H' => H' C = some (.lst (((l.take j).map fun (i : Int) => Str.ofString (toString i)).map V.str)) ∧ Same H H') ⟨upd_same, same_new hC⟩ (fun j H' _ h => .of (h.2 _ _ ha)) ?_ ?_⟩
    · rintro j y H3 hy ⟨hc3, s3⟩
      have hj : j < l.length := by have := (List.getElem?_eq_some_iff.mp hy).1; rwa [List.length_map] at this
      obtain rfl : y = .int l[j] := by rw [List.getElem?_map, List.getElem?_eq_getElem hj] at hy; exact (Option.some.inj hy).symm
      have sj := sm _ (List.getElem_mem hj)
      refine ⟨wipe1 _ _ _, tyes_if ?_⟩
      refine ⟨_, rfl, _, rfl, small_log sj.1 (by omega), _, hc3, ?_, ?_, same_put s3 hC⟩
      · rw [List.length_map, List.length_map, List.length_take, sizeLine_eq]
        omega
      · rw [upd_same, take_next hj, List.map_append, List.map_append]
        rfl
    · rintro H3 ⟨hc3, s3⟩
      rw [List.length_map, List.take_length] at hc3
      have dsum := digs_few l4 sm
      have e0 : (Str.ofString "").length = 0 := rfl
      exact ⟨_, C, _, rfl, rfl, .inl (.of hc3), by rw [e0]; omega, q H3 s3⟩
theorem ok_shown_table (T : Tx K mg) : FnOk P w K mg base CX0 2 T.f_shown_table T.d_shown_table p_shown_table spShownTable := by
  refine T.F_shown_table.ok sc_shown_table (fun vs H Q E h => ?_) (fun cdv A outer s H vs Q E hr h => ?_)
  · obtain ⟨d, n, ws, rfl, _⟩ := h
    rfl
  · obtain ⟨d, n, ws, rfl, tb, gd, q⟩ := h
    refine ⟨_, (pss_cons (ps_set (i := 1) sc_shown_table.nd rfl (by first | exact Or.inl rfl | exact Or.inr rfl) (pe_lst pa_nil))
    (pss_cons (ps_lock (ps_for PassesOwn.never rfl (pi_keys (pv 0)) (pg_name (i := 2) sc_shown_table.nd rfl (by first | exact Or.inl rfl | exact Or.inr rfl))
    (pss_cons (ps_asg (pe_dget (L2.hu_of hr) (pv 0) (pv 2) (fun _ _ => rfl)) (pg_tup (by rfl) (pgs_cons (pg_name (i := 3) sc_shown_table.nd rfl (by first | exact Or.inl rfl | exact Or.inr rfl)) (pgs_cons (pg_name (i := 4) sc_shown_table.nd rfl (by first | exact Or.inl rfl | exact Or.inr rfl)) pgs_nil))))
    (pss_one (ps_expr (bmK K PySem.F.plainAttrs_list PySem.F.slot_list_append PySem.F.type_list_append mt_append (by exact (pv 1)) (by exact (pa_cons (pe_join pe_str (pe_lst (pa_cons (pv 2) (pa_cons (pe_call (ok_shown_turn T) (hr.mono (by decide)) rfl T.m_shown_turn T.F_shown_turn.kp T.b_shown_turn .nil pass0 (pa_cons (pv 3) pa_nil)) (StX.pa_star (pv 4) pa_nil))))) pa_nil))))))))
    (pss_one (ps_ret (pe_join pe_str (pv 1)))))), ?_⟩
    refine ⟨by show 0 ≤ sizeLine; decide, fun D hD => ?_⟩
    have nd : (ws.map fun r => r.1.nm).Nodup := by
      have := gd.nd
      rwa [List.map_map] at this
    have sD := same_new (o := HO.lst []) hD
    have dD : d ≠ D := ne_of_none tb.top hD
    refine ⟨d, _, sD _ _ tb.top, trivial, fun od => ⟨_, rfl, d, od, rfl, .inl ⟨_, upd_same, for_it walk_keys (fun i σ H' => (∃ v2 v3 v4, σ = [some (.ref d), some (.ref D), v2, v3, v4]) ∧ H' D = some (.lst ((ws.take i).map fun r => V.str (rowTxt r.1))) ∧ H' d = some (.frz od (.dK (ws.map fun r => ((.inr r.1.nm : Key), V.ref r.2)))) ∧ KeptB d H H')
      ⟨⟨_, _, _, rfl⟩, ?_, upd_same, ?_⟩ (fun i σ H' _ h => h.2.2.1) ?_ ?_⟩⟩⟩
    · rw [upd_ne dD.symm, upd_same]
      rfl
    · exact fun b o nb e => by rw [upd_ne nb]; exact sD _ _ e
    · rintro i y σ H1 H2 hi ⟨⟨v2, v3, v4, rfl⟩, hD1, hf1, k1⟩ ⟨rfl, k, v, hk, rfl⟩
      rw [List.length_map] at hi
      obtain ⟨rfl, rfl⟩ : k = .inr ws[i].1.nm ∧ v = .ref ws[i].2 := by
        rw [List.getElem?_map, List.getElem?_eq_getElem hi] at hk
        have := Option.some.inj hk
        injection this with a b
        exact ⟨a.symm, b.symm⟩
      have hm := List.getElem_mem hi
      have tk := take_next hi
      generalize ws[i] = r at hm tk
      have hmr : r.1 ∈ ws.map Prod.fst := List.mem_map.mpr ⟨r, hm, rfl⟩
      have rk := gd.ok _ hmr
      have n4 := gd.hi
      have notd : ∀ b l, H b = some (.tup l) → b ≠ d := fun b l e z => by rw [z, tb.top] at e; cases e
      have pr := tb.pair r hm
      have ptt := tb.tt r hm
      have pxt := tb.xt r hm
      have get : DGet H2 d (.str r.1.nm) (some (.ref r.2)) := .inl ⟨_, .inr r.1.nm, .inr ⟨od, hf1⟩, rfl, (val_pair nd hm).symm⟩
      rw [show kV (Sum.inr r.1.nm : Key) = V.str r.1.nm from rfl]
      refine ⟨_, rfl, _, rfl, d, .ref r.2, rfl, get, r.2, _, rfl, .of (k1 _ _ (notd _ _ pr) pr), rfl, _, _, rfl, _, _, rfl, rfl, ?_⟩
      refine ⟨_, rfl, .inl ⟨rfl, _, .of hD1⟩, ⟨_, rfl⟩, _, rfl, _, rfl, r.1.ta, r.1.turn, rfl, k1 _ _ (notd _ _ ptt) ptt, by rw [turn_len rk]; exact n4, turn_small n4 rk, fun H3 s3 => ?_⟩
      refine ⟨_, rfl, r.1.xa, _, rfl, .inl (.of (s3 _ _ (k1 _ _ (notd _ _ pxt) pxt))), ?_, fun L hL => ?_⟩
      · rw [List.length_cons, List.length_cons, List.length_append, List.length_map, rk.many, sizeLine_eq]
        show n + 0 + 1 + 1 ≤ _
        omega
      rw [List.append_nil] at *
      have rsum := row_sum gd hmr
      have e1 : (Str.ofString " ").length = 1 := rfl
      have sL := same_new (o := HO.lst (V.str r.1.nm :: V.str (digTxt r.1.turn) :: r.1.nexts.map V.str)) hL
      have s34 := s3.trans sL
      have hN := upd_same (H := H3) (a := L) (o := HO.lst (V.str r.1.nm :: V.str (digTxt r.1.turn) :: r.1.nexts.map V.str))
      generalize upd H3 L (HO.lst (V.str r.1.nm :: V.str (digTxt r.1.turn) :: r.1.nexts.map V.str)) = H4 at s34 hN
      refine ⟨_, L, r.1.nm :: digTxt r.1.turn :: r.1.nexts, rfl, rfl, .inl (.of hN), by rw [e1, List.length_cons, List.length_cons, rk.many]; omega, ?_⟩
      refine ⟨D, _, _, rfl, rfl, s34 _ _ hD1, by rw [List.length_map, List.length_take, sizeLine_eq]; have := gd.most; rw [List.length_map] at this; omega, ?_⟩
      refine ⟨⟨_, _, _, rfl⟩, ?_, (upd_ne dD).trans (s34 _ _ hf1), (k1.same s34).put hD⟩
      rw [upd_same, tk, List.map_append]
      rfl
    · rintro σ H1 ⟨⟨v2, v3, v4, rfl⟩, hD1, hf1, k1⟩
      refine ⟨hf1, ?_⟩
      rw [List.length_map, List.take_length] at hD1
      have tsum := tab_sum gd (List.Perm.refl _)
      have e2 : (Str.ofString ", ").length = 2 := rfl
      have m8 := gd.most
      have em : (ws.map fun r => V.str (rowTxt r.1)) = ((ws.map Prod.fst).map rowTxt).map V.str := by
        rw [List.map_map, List.map_map]
        rfl
      refine ⟨⟨_, rfl⟩, _, rfl, _, D, (ws.map Prod.fst).map rowTxt, rfl, rfl, .inl (.of (by rw [upd_ne dD.symm, hD1, em])), by rw [e2, List.length_map]; omega, q _ (k1.back tb.top)⟩
end
end My

set_option Elab.async false
set_option linter.all false
set_option maxRecDepth 100000
set_option maxHeartbeats 8000000
namespace My
open PySem PySem.Spec PyProof.Rows L2
theorem turnL_perm {n : Nat} {l : List Int} (h : l.Perm (upto n)) : turnL n (l.map V.int) = true := by
  unfold turnL
  rw [Bool.and_eq_true, Bool.and_eq_true]
  refine ⟨⟨decide_eq_true (by rw [List.length_map, h.length_eq, upto_len]), ?_⟩, ?_⟩
  · rw [List.all_map]
    exact List.all_eq_true.mpr fun x _ => rfl
  · refine List.all_eq_true.mpr fun x hx => ?_
    have hm : V.int x ∈ l.map V.int := List.mem_map.mpr ⟨x, h.mem_iff.mpr hx, rfl⟩
    exact List.any_eq_true.mpr ⟨_, hm, by show (x == x) = true; exact beq_self_eq_true x⟩
theorem inV_str {z : Str} {l : List Str} (h : z ∈ l) : inV (.str z) (l.map V.str) = true :=
  List.any_eq_true.mpr ⟨.str z, List.mem_map.mpr ⟨z, h, rfl⟩, by show (z == z) = true; exact beq_self_eq_true z⟩
theorem flat_strs (l : List Str) : (l.map V.str).all flatV = true := by
  rw [List.all_map]
  exact List.all_eq_true.mpr fun x _ => rfl
theorem all_yes {α : Type} {f : α → Bool} {l : List α} (h : ∀ x ∈ l, f x = true) : (l.map f).all id = true := by
  rw [List.all_map]
  exact List.all_eq_true.mpr h
theorem Gd_turn {H : Hp} {a : Addr} {l : List Int} (h : H a = some (.tup (l.map V.int))) (h4 : l.length ≤ 4) : Gd H (.ref a) :=
  .tup a _ h (by rw [List.all_map]; exact List.all_eq_true.mpr fun x _ => rfl) (by rw [List.length_map]; omega)
theorem passL {X : Cx} : Passes (L2.CX X.prog X.w) X E0 := fun _ _ _ _ _ _ _ h => by
  obtain ⟨_, _, _, _, _, _, _, _, _, _, _, _, z⟩ := h
  exact z.elim
/-- a row of a machine that is good -/
def spStateRow : Sp := fun vs H Q _ => ∃ (n : Nat) (a ta xa nl : Addr) (turn : List Int) (nexts names : List Str), vs = [.int n, .ref a, .ref nl] ∧ 2 ≤ n ∧ n ≤ 4 ∧ H a = some (.tup [.ref ta, .ref xa]) ∧ H ta = some (.tup (turn.map V.int)) ∧ turn.Perm (upto n) ∧
  H xa = some (.tup (nexts.map V.str)) ∧ nexts.length = n ∧ (H nl = some (.lst (names.map V.str)) ∨ H nl = some (.tup (names.map V.str))) ∧ (∀ z ∈ nexts, z ∈ names) ∧ (∀ z ∈ names, z ∈ ALLN) ∧ names.length ≤ 100 ∧ ∀ H', Same H H' → Q (.bl true) H'
section
variable {P : Program} {w : World} {K : PySem.W.Frag} {mg : Str → Option Value} {base : Heap}
theorem ok_is_state_row (T : Tx K mg) : FnOk P w K mg base CX0 6 T.f_is_state_row T.d_is_state_row p_is_state_row spStateRow := by
  refine T.F_is_state_row.ok sc_is_state_row (fun vs H Q E h => ?_) (fun cdv A outer s H vs Q E hr h => ?_)
  · obtain ⟨n, a, ta, xa, nl, turn, nexts, names, rfl, _⟩ := h
    rfl
  · obtain ⟨n, a, ta, xa, nl, turn, nexts, names, rfl, n2, n4, ha, hta, pm, hxa, ln, hnl, am, nm, few, q⟩ := h
    refine ⟨_, (pss_cons (ps_if (PW.pt (pw_or (pt_not (pt_val (pe_callB (isiK K) (by rfl) T.isinstance (by decide +kernel) (pa_cons (pv 1) (pa_cons (pe_bltn (v := .ty "tuple") (by rfl) T.tuple (by decide +kernel) rfl) pa_nil))))) (pw_or1 (pt_cmpR op_ne (pe_callB (lenS K) (by rfl) T.len (by decide +kernel) (pa_cons (pv 1) pa_nil)) pe_int (nomark _)))))
      (pss_one (ps_ret pe_bl))
      pss_nil)
    (pss_cons (ps_asg (pv 1) (pg_tup (by rfl) (pgs_cons (pg_name (i := 3) sc_is_state_row.nd rfl (by first | exact Or.inl rfl | exact Or.inr rfl)) (pgs_cons (pg_name (i := 4) sc_is_state_row.nd rfl (by first | exact Or.inl rfl | exact Or.inr rfl)) pgs_nil))))
    (pss_cons (ps_if (PW.pt (pw_or (pt_not (pt_val (pe_call (ok_is_turn T) (hr.mono (by decide)) rfl T.m_is_turn T.F_is_turn.kp T.b_is_turn .nil passL (pa_cons (pv 0) (pa_cons (pv 3) pa_nil))))) (pw_or (pt_not (pt_val (pe_callB (isiK K) (by rfl) T.isinstance (by decide +kernel) (pa_cons (pv 4) (pa_cons (pe_bltn (v := .ty "tuple") (by rfl) T.tuple (by decide +kernel) rfl) pa_nil))))) (pw_or1 (pt_cmpR op_ne (pe_callB (lenS K) (by rfl) T.len (by decide +kernel) (pa_cons (pv 4) pa_nil)) (pv 0) (nomark _))))))
      (pss_one (ps_ret pe_bl))
      pss_nil)
    (pss_one (ps_ret (pe_callB (allK K rfl) (by rfl) T.all (by decide +kernel) (pa_cons (pe_lc (own := [("name", 5)]) (g := gName 5) (tt := tYes) rfl sc_is_state_row.nd (piT K (pv 4)) (blkOk_by (N := n_is_state_row) (sc := defScope s_is_state_row) (by decide +kernel)) (fun _ _ _ _ _ => pg_name (i := 5) sc_is_state_row.nd rfl (Or.inl rfl)) (fun _ _ _ _ _ => by exact pts_nil) (fun _ _ _ _ _ => by exact (pe_cmpR (inK K) (pv 5) (pv 2) (by rfl)))) pa_nil))))))), ?_⟩
    have lt : turn.length = n := by rw [pm.length_eq, upto_len]
    refine ⟨_, rfl, _, _, _, _, true, rfl, .ty _, .base (.tup ha), kitT (by decide +kernel), _, rfl, ?_⟩
    refine ⟨_, rfl, a, _, rfl, .inr (.of ha), rfl, _, rfl, ?_⟩
    refine iteF ?_
    refine ⟨_, rfl, a, _, rfl, .of ha, rfl, _, _, rfl, _, _, rfl, rfl, ?_⟩
    refine ⟨_, rfl, _, rfl, .int n, .ref ta, rfl, .int n, Gd_turn hta (by omega), fun n' hn' h3 H1 s1 => ?_, fun hb => ?_⟩
    · obtain rfl : n' = n := by injection hn' with z; omega
      rw [turnB_tup hta, turnL_perm pm]
      refine ⟨_, rfl, ?_⟩
      refine ⟨_, rfl, _, _, _, _, true, rfl, .ty _, .base (.tup (s1 _ _ hxa)), kitT (by decide +kernel), _, rfl, ?_⟩
      refine ⟨_, rfl, xa, _, rfl, .inr (.of (s1 _ _ hxa)), _, rfl, rfl, _, rfl, ?_⟩
      rw [List.length_map, ln]
      show (if (!decide (V.int ((n' : Nat) : Int) = V.int ((n' : Nat) : Int))) = true then _ else _ : Prop)
      rw [decide_eq_true rfl]
      refine iteF ?_
      have hx1 := s1 _ _ hxa
      have hn1 : H1 nl = some (.lst (names.map V.str)) ∨ H1 nl = some (.tup (names.map V.str)) := hnl.imp (s1 _ _) (s1 _ _)
      refine ⟨_, rfl, xa, rfl, ⟨_, .of hx1⟩, fun D hD => lc_m (j := 5) (walk_tup (K := K) (a := xa) (xs := nexts.map V.str)) (fun v => .bl (inV v (names.map V.str))) (by rw [List.length_map]; omega) (fun ys => SqT.of (same_new hD _ _ hx1)) (fun x hx ys R r => ?_) ?_⟩
      · obtain ⟨z, hz, rfl⟩ := List.mem_map.mp hx
        exact ⟨_, rfl, _, rfl, nl, _, rfl, hn1.imp (fun h => SqL.of (same_new hD _ _ h)) (fun h => SqT.of (same_new hD _ _ h)), rfl, flat_strs _, r⟩
      · rw [List.map_map]
        refine ⟨D, nexts.map (fun z => inV (.str z) (names.map V.str)), rfl, .of (by rw [List.map_map]; exact upd_same), ?_⟩
        rw [all_yes fun z hz => inV_str (am z hz)]
        exact q _ (s1.trans (same_new hD))
    · have hb : (decide ((2 : Int) ≤ (n : Int)) && decide ((n : Int) ≤ 4)) = false := hb
      rw [decide_eq_true (by omega : (2 : Int) ≤ (n : Int)), decide_eq_true (by omega : (n : Int) ≤ 4)] at hb
      cases hb
end
end My

set_option Elab.async false
set_option linter.all false
set_option maxRecDepth 100000
set_option maxHeartbeats 8000000
namespace My
open PySem PySem.Spec PyProof.Rows L2
/-- the rows of a machine that is good -/
def spStateTable : Sp := fun vs H Q _ => ∃ (d : Addr) (n : Nat) (ws : List (Row × Addr)), vs = [.int n, .ref d] ∧ TabAt H d ws ∧ GoodM n (ws.map Prod.fst) ∧ ∀ H', Same H H' → Q (.bl true) H'
theorem names_ok : ∀ z ∈ ALLN, nameB (.str z) = true ∧ z.length ≤ 1000 ∧ ∀ c ∈ z.cps.toList, c < 128 := by decide +kernel
theorem yes_all (k : Nat) : (List.replicate k true).all id = true := List.all_eq_true.mpr fun x hx => (List.eq_of_mem_replicate hx)
section
variable {P : Program} {w : World} {K : PySem.W.Frag} {mg : Str → Option Value} {base : Heap}
theorem ok_is_state_table (T : Tx K mg) : FnOk P w K mg base CX0 7 T.f_is_state_table T.d_is_state_table p_is_state_table spStateTable := by
  refine T.F_is_state_table.ok sc_is_state_table (fun vs H Q E h => ?_) (fun cdv A outer s H vs Q E hr h => ?_)
  · obtain ⟨d, n, ws, rfl, _⟩ := h
    rfl
  · obtain ⟨d, n, ws, rfl, tb, gd, q⟩ := h
    refine ⟨_, (pss_cons (ps_if (PW.pt (pw_or (pt_not (pt_val (pe_callB (isiK K) (by rfl) T.isinstance (by decide +kernel) (pa_cons (pv 1) (pa_cons (pe_bltn (v := .ty "dict") (by rfl) T.dict (by decide +kernel) rfl) pa_nil))))) (pw_or1 (pt_not (pt_chain op_le op_le pe_int (pe_callB call_lenD (by rfl) T.len (by decide +kernel) (pa_cons (pv 1) pa_nil)) (pe_glob (v := .int 8) rfl T.g_MAX_STATES ⟨_, rfl⟩))))))
      (pss_one (ps_ret pe_bl))
      pss_nil)
    (pss_cons (ps_if (pt_not (pt_val (pe_callB (allK K rfl) (by rfl) T.all (by decide +kernel) (pa_cons (pe_lock (pe_lc (own := [("name", 2)]) (g := gName 2) (tt := tYes) rfl sc_is_state_table.nd (pi_keys (pv 1)) (blkOk_by (N := n_is_state_table) (sc := defScope s_is_state_table) (by decide +kernel)) (fun _ _ _ _ _ => pg_name (i := 2) sc_is_state_table.nd rfl (Or.inl rfl)) (fun _ _ _ _ _ => by exact pts_nil) (fun _ _ _ _ _ => by exact (pe_call (ok_is_name T) (hr.mono (by decide)) rfl T.m_is_name T.F_is_name.kp T.b_is_name .nil pass0 (pa_cons (pv 2) pa_nil))))) pa_nil))))
      (pss_one (ps_ret pe_bl))
      pss_nil)
    (pss_one (ps_ret (pe_callB (allK K rfl) (by rfl) T.all (by decide +kernel) (pa_cons (pe_lock (pe_lc (own := [("name", 2)]) (g := gName 2) (tt := tYes) rfl sc_is_state_table.nd (pi_keys (pv 1)) (blkOk_by (N := n_is_state_table) (sc := defScope s_is_state_table) (by decide +kernel)) (fun _ _ _ _ _ => pg_name (i := 2) sc_is_state_table.nd rfl (Or.inl rfl)) (fun _ _ _ _ _ => by exact pts_nil) (fun _ _ _ _ _ => by exact (pe_call (ok_is_state_row T) (hr.mono (by decide)) rfl T.m_is_state_row T.F_is_state_row.kp T.b_is_state_row .nil pass0 (pa_cons (pv 0) (pa_cons (pe_dget (L2.hu_of hr) (pv 1) (pv 2) (fun _ _ => rfl)) (pa_cons (pe_callTy (call_listD rfl) (by rfl) T.list (by decide +kernel) (pa_cons (pv 1) pa_nil)) pa_nil))))))) pa_nil)))))), ?_⟩
    have m8 := gd.most
    have m1 := gd.one
    rw [List.length_map] at m8 m1
    refine ⟨_, rfl, _, _, _, _, true, rfl, .ty _, .base (.dK tb.top), kitT (by decide +kernel), _, rfl, ?_⟩
    refine ⟨_, rfl, d, _, rfl, tb.top, ?_⟩
    refine ⟨_, _, rfl, rfl, _, rfl, ?_⟩
    rw [List.length_map, if_pos (decide_eq_true (by omega : (1 : Int) ≤ ((ws.length : Nat) : Int)))]
    refine ⟨_, _, rfl, rfl, _, rfl, ?_⟩
    show (if (!decide (((ws.length : Nat) : Int) ≤ 8)) = true then _ else _ : Prop)
    rw [decide_eq_true (by omega : ((ws.length : Nat) : Int) ≤ 8)]
    refine iteF ?_
    have nd : (ws.map fun r => r.1.nm).Nodup := by
      have := gd.nd
      rwa [List.map_map] at this
    have nms : ∀ r ∈ ws, r.1.nm ∈ ALLN := fun r hr => gd.nms _ (List.mem_map.mpr ⟨r, hr, rfl⟩)
    refine ⟨d, _, tb.top, trivial, fun od => ⟨_, rfl, d, od, rfl, .inl ⟨_, upd_same, fun D hD => ?_⟩⟩⟩
    have Dd : D ≠ d := fun z => by rw [z, upd_same] at hD; cases hD
    have D0 : H D = none := by rw [upd_ne Dd] at hD; exact hD
    refine lc_it walk_keys (fun i H' => H' D = some (.lst ((List.replicate i true).map V.bl)) ∧ H' d = some (.frz od (.dK (ws.map fun r => ((.inr r.1.nm : Key), V.ref r.2)))) ∧ KeptB d H H')
      ⟨upd_same, (upd_ne Dd.symm).trans upd_same, fun b o nb e => by rw [upd_ne (ne_of_none e D0), upd_ne nb]; exact e⟩ (fun i H' _ h => h.2.1) ?_ ?_
    · rintro i y H1 H2 hi ⟨hD1, hf1, k1⟩ ⟨rfl, k, v, hk, rfl⟩
      rw [List.length_map] at hi
      obtain rfl : k = .inr ws[i].1.nm := by
        rw [List.getElem?_map, List.getElem?_eq_getElem hi] at hk
        have := Option.some.inj hk
        injection this with a b
        exact a.symm
      obtain ⟨o1, o2, o3⟩ := names_ok _ (nms _ (List.getElem_mem hi))
      refine ⟨wipe1 _ _ _, tyes_if ?_⟩
      rw [show kV (Sum.inr ws[i].1.nm : Key) = V.str ws[i].1.nm from rfl]
      refine ⟨_, rfl, _, rfl, .str _ o2 o3, fun H3 s3 => ⟨_, s3 _ _ hD1, by rw [List.length_map, List.length_replicate, sizeLine_eq]; omega, ?_, (upd_ne Dd.symm).trans (s3 _ _ hf1), (k1.same s3).put D0⟩⟩
      rw [upd_same, o1, List.replicate_succ', List.map_append]
      rfl
    · rintro H1 ⟨hD1, hf1, k1⟩
      refine ⟨hf1, D, _, rfl, .of ((upd_ne Dd).trans hD1), _, rfl, ?_⟩
      rw [yes_all]
      refine iteF ?_
      have s1 := k1.back tb.top
      have tb1 := tb.same s1
      generalize upd H1 d (.dK (ws.map fun r => ((.inr r.1.nm : Key), V.ref r.2))) = H2 at s1 tb1
      refine ⟨d, _, tb1.top, trivial, fun od2 => ⟨_, rfl, d, od2, rfl, .inl ⟨_, upd_same, fun D2 hD2 => ?_⟩⟩⟩
      have Dd2 : D2 ≠ d := fun z => by rw [z, upd_same] at hD2; cases hD2
      have D20 : H2 D2 = none := by rw [upd_ne Dd2] at hD2; exact hD2
      refine lc_it walk_keys (fun i H' => H' D2 = some (.lst ((List.replicate i true).map V.bl)) ∧ H' d = some (.frz od2 (.dK (ws.map fun r => ((.inr r.1.nm : Key), V.ref r.2)))) ∧ KeptB d H2 H')
        ⟨upd_same, (upd_ne Dd2.symm).trans upd_same, fun b o nb e => by rw [upd_ne (ne_of_none e D20), upd_ne nb]; exact e⟩ (fun i H' _ h => h.2.1) ?_ ?_
      · rintro i y H3 H4 hi ⟨hD3, hf3, k3⟩ ⟨rfl, k, v, hk, rfl⟩
        rw [List.length_map] at hi
        obtain rfl : k = .inr ws[i].1.nm := by
          rw [List.getElem?_map, List.getElem?_eq_getElem hi] at hk
          have := Option.some.inj hk
          injection this with a b
          exact a.symm
        have hm := List.getElem_mem hi
        generalize ws[i] = r at hm
        have hmr : r.1 ∈ ws.map Prod.fst := List.mem_map.mpr ⟨r, hm, rfl⟩
        have rk := gd.ok _ hmr
        have notd : ∀ b l, H2 b = some (.tup l) → b ≠ d := fun b l e z => by rw [z, tb1.top] at e; cases e
        have pr := tb1.pair r hm
        have ptt := tb1.tt r hm
        have pxt := tb1.xt r hm
        have get : DGet H4 d (.str r.1.nm) (some (.ref r.2)) := .inl ⟨_, .inr r.1.nm, .inr ⟨od2, hf3⟩, rfl, (val_pair nd hm).symm⟩
        refine ⟨wipe1 _ _ _, tyes_if ?_⟩
        rw [show kV (Sum.inr r.1.nm : Key) = V.str r.1.nm from rfl]
        refine ⟨_, rfl, _, rfl, _, rfl, d, .ref r.2, rfl, get, _, rfl, d, _, rfl, .inr ⟨od2, hf3⟩, fun L hL => ?_⟩
        have sL := same_new (o := HO.lst ((ws.map fun r => ((.inr r.1.nm : Key), V.ref r.2)).map fun kv => kV kv.1)) hL
        refine ⟨n, r.2, r.1.ta, r.1.xa, L, r.1.turn, r.1.nexts, (ws.map Prod.fst).map Row.nm, rfl, gd.lo, gd.hi, sL _ _ (k3 _ _ (notd _ _ pr) pr), sL _ _ (k3 _ _ (notd _ _ ptt) ptt), rk.turn, sL _ _ (k3 _ _ (notd _ _ pxt) pxt), rk.many, ?_, rk.among, ?_, by rw [List.length_map, List.length_map]; omega, fun H5 s5 => ?_⟩
        · left
          rw [upd_same, List.map_map, List.map_map, List.map_map]
          rfl
        · intro z hz
          obtain ⟨r2, h2, rfl⟩ := List.mem_map.mp hz
          exact gd.nms r2 h2
        · refine ⟨_, (sL.trans s5) _ _ hD3, by rw [List.length_map, List.length_replicate, sizeLine_eq]; omega, ?_, (upd_ne Dd2.symm).trans ((sL.trans s5) _ _ hf3), (k3.same (sL.trans s5)).put D20⟩
          rw [upd_same, List.replicate_succ', List.map_append]
          rfl
      · rintro H3 ⟨hD3, hf3, k3⟩
        refine ⟨hf3, D2, _, rfl, .of ((upd_ne Dd2).trans hD3), ?_⟩
        rw [yes_all]
        exact q _ (s1.trans (k3.back tb1.top))
end
end My

set_option Elab.async false
set_option linter.all false
set_option maxRecDepth 100000
set_option maxHeartbeats 8000000
namespace My
open PySem PySem.Spec PyProof.Rows L2
theorem GoodM.perm {n : Nat} {rs rs' : List Row} (g : GoodM n rs) (p : rs'.Perm rs) : GoodM n rs' :=
  ⟨g.lo, g.hi, (p.map Row.nm).nodup_iff.mpr g.nd, fun r hr => g.nms r (p.mem_iff.mp hr), by rw [p.length_eq]; exact g.one, by rw [p.length_eq]; exact g.most, fun r hr => (g.ok r (p.mem_iff.mp hr)).mono fun z hz => (p.map Row.nm).mem_iff.mpr hz⟩
/-- a machine stands at x: its letters, its sorted names, its rows -/
structure MachAt (C : Addr) (H : Hp) (x dx st td : Addr) (n : Nat) (ws : List (Row × Addr)) : Prop where
  obj : H x = some (.ins C dx (mF n st td))
  sts : H st = some (.tup ((ws.map fun r => r.1.nm).map V.str))
  tab : TabAt H td ws
  good : GoodM n (ws.map Prod.fst)
  srt : sortedS (ws.map fun r => r.1.nm) = true
/-- a machine is made of a good table -/
def spInit (C : Addr) : Sp := fun vs H Q _ => ∃ (x dx d : Addr) (n : Nat) (ws : List (Row × Addr)), vs = [.ref x, .int n, .ref d] ∧ H x = some (.ins C dx []) ∧ TabAt H d ws ∧ GoodM n (ws.map Prod.fst) ∧
  ∀ (H' : Hp) (st td : Addr) (ws' : List (Row × Addr)), KeptB x H H' → H st = none → H td = none → ws'.Perm ws → MachAt C H' x dx st td n ws' → Q .non H'
section
variable {P : Program} {w : World} {K : PySem.W.Frag} {mg : Str → Option Value} {base : Heap}
theorem ok_Machine_init (T : Tx K mg) : FnOk P w K mg base CX0 8 T.f_Machine_init T.d_Machine_init p_Machine_init (spInit T.C_Machine) := by
  refine T.F_Machine_init.ok sc_Machine_init (fun vs H Q E h => ?_) (fun cdv A outer s H vs Q E hr h => ?_)
  · obtain ⟨x, dx, d, n, ws, rfl, _⟩ := h
    rfl
  · obtain ⟨x, dx, d, n, ws, rfl, hx, tb, gd, q⟩ := h
    refine ⟨_, (pss_cons (ps_expr (pe_call (ok_check_letters T) (hr.mono (by decide)) rfl T.m_check_letters T.F_check_letters.kp T.b_check_letters .nil passL (pa_cons (pv 1) pa_nil)))
    (pss_cons (ps_if (pt_not (pt_val (pe_call (ok_is_state_table T) (hr.mono (by decide)) rfl T.m_is_state_table T.F_is_state_table.kp T.b_is_state_table .nil pass0 (pa_cons (pv 1) (pa_cons (pv 2) pa_nil)))))
      (pss_one ps_never)
      pss_nil)
    (pss_cons (ps_set (i := 3) sc_Machine_init.nd rfl (by first | exact Or.inl rfl | exact Or.inr rfl) (pe_callB (sortSK K) (by rfl) T.sorted (by decide +kernel) (pa_cons (pe_lock (pe_lc (own := [("name", 4)]) (g := gName 4) (tt := tYes) rfl sc_Machine_init.nd (pi_keys (pv 2)) (blkOk_by (N := n_Machine_init) (sc := defScope s_Machine_init) (by decide +kernel)) (fun _ _ _ _ _ => pg_name (i := 4) sc_Machine_init.nd rfl (Or.inl rfl)) (fun _ _ _ _ _ => by exact pts_nil) (fun _ _ _ _ _ => by exact (pe_callTy SkE.call_str_str (by rfl) T.str (by decide +kernel) (pa_cons (pv 4) pa_nil))))) pa_nil)))
    (pss_cons (ps_fld (pv 0) (pv 1) rfl)
    (pss_cons (ps_fld (pv 0) (pe_callTy (tupK K) (by rfl) T.tuple (by decide +kernel) (pa_cons (pv 3) pa_nil)) rfl)
    (pss_one (ps_fld (pv 0) (pe_dc (own := [("name", 4)]) (g := gName 4) (tt := tYes) rfl sc_Machine_init.nd (piL K (pv 3)) (blkOk_by (N := n_Machine_init) (sc := defScope s_Machine_init) (by decide +kernel)) (fun _ _ _ _ _ => pg_name (i := 4) sc_Machine_init.nd rfl (Or.inl rfl)) (fun _ _ _ _ _ => by exact pts_nil) (fun _ _ _ _ _ => by exact (pv 4)) (fun _ _ _ _ _ => by exact (pe_dget (L2.hu_of hr) (pv 2) (pv 4) (fun _ _ => rfl)))) rfl))))))), ?_⟩
    have n2 := gd.lo
    have n4 := gd.hi
    have m8 := gd.most
    rw [List.length_map] at m8
    refine ⟨_, rfl, .int n, rfl, .int n, fun _ => ?_, fun hb => ?_⟩
    · refine ⟨_, rfl, _, rfl, d, n, ws, rfl, tb, gd, fun H1 s1 => ⟨_, rfl, ?_⟩⟩
      refine iteF ?_
      have tb1 := tb.same s1
      have hx1 := s1 _ _ hx
      have dx' : d ≠ x := fun z => by
        have := tb.top
        rw [z, hx] at this
        cases this
      refine ⟨d, _, tb1.top, trivial, fun od => ⟨_, rfl, d, od, rfl, .inl ⟨_, upd_same, fun D hD => ?_⟩⟩⟩
      have Dd : D ≠ d := fun z => by rw [z, upd_same] at hD; cases hD
      have D0 : H1 D = none := by rw [upd_ne Dd] at hD; exact hD
      refine lc_it walk_keys (fun i H' => H' D = some (.lst ((ws.take i).map fun r => V.str r.1.nm)) ∧ H' d = some (.frz od (.dK (ws.map fun r => ((.inr r.1.nm : Key), V.ref r.2)))) ∧ KeptB d H1 H')
        ⟨upd_same, (upd_ne Dd.symm).trans upd_same, fun b o nb e => by rw [upd_ne (ne_of_none e D0), upd_ne nb]; exact e⟩ (fun i H' _ h => h.2.1) ?_ ?_
      · rintro i y H2 H3 hi ⟨hD2, hf2, k2⟩ ⟨rfl, k, v, hk, rfl⟩
        rw [List.length_map] at hi
        obtain rfl : k = .inr ws[i].1.nm := by
          rw [List.getElem?_map, List.getElem?_eq_getElem hi] at hk
          have := Option.some.inj hk
          injection this with a b
          exact a.symm
        have tk := take_next hi
        refine ⟨wipe1 _ _ _, tyes_if ?_⟩
        rw [show kV (Sum.inr ws[i].1.nm : Key) = V.str ws[i].1.nm from rfl]
        refine ⟨_, rfl, _, rfl, _, hD2, by rw [List.length_map, List.length_take, sizeLine_eq]; omega, ?_, (upd_ne Dd.symm).trans hf2, k2.put D0⟩
        rw [upd_same, tk, List.map_append]
        rfl
      · rintro H2 ⟨hD2, hf2, k2⟩
        rw [List.length_map, List.take_length] at hD2
        have s2 := s1.trans (k2.back tb1.top)
        have hD3 := (upd_ne (o := HO.dK (ws.map fun r => ((.inr r.1.nm : Key), V.ref r.2))) Dd).trans hD2
        refine ⟨hf2, D, ws.map (fun r => r.1.nm), rfl, .of (by rw [List.map_map]; exact hD3), by rw [List.length_map]; omega, fun ys s pm srt hs => ?_⟩
        obtain ⟨ws', pr, er⟩ := perm_lift (f := fun r : Row × Addr => r.1.nm) pm ws rfl
        subst er
        have s4 := s2.trans (same_new (o := HO.lst ((ws'.map fun r => r.1.nm).map V.str)) hs)
        have hs4 := upd_same (H := upd H2 d (HO.dK (ws.map fun r => ((.inr r.1.nm : Key), V.ref r.2)))) (a := s) (o := HO.lst ((ws'.map fun r => r.1.nm).map V.str))
        have hs0 : H s = none := s2.free hs
        generalize upd (upd H2 d (HO.dK (ws.map fun r => ((.inr r.1.nm : Key), V.ref r.2)))) s (HO.lst ((ws'.map fun r => r.1.nm).map V.str)) = H4 at s4 hs4
        have sx : s ≠ x := (ne_of_none hx hs0).symm
        have k4 : KeptB x H H4 := fun b o _ e => s4 b o e
        refine ⟨_, rfl, _, rfl, x, T.C_Machine, dx, [], rfl, s4 _ _ hx, T.cl_Machine, T.n_Machine_letters, by show 0 < 1000; decide, ?_⟩
        have k5 : KeptB x H (upd H4 x (.ins T.C_Machine dx (putF "_letters" (.int n) []))) := fun b o nb e => by rw [upd_ne nb]; exact k4 b o nb e
        have hs5 := (upd_ne (o := HO.ins T.C_Machine dx (putF "_letters" (.int n) [])) sx).trans hs4
        have hx5 := upd_same (H := H4) (a := x) (o := HO.ins T.C_Machine dx (putF "_letters" (.int n) []))
        generalize upd H4 x (.ins T.C_Machine dx (putF "_letters" (.int n) [])) = H5 at k5 hs5 hx5
        refine ⟨_, rfl, s, _, rfl, .inl ⟨.of hs5, fun st hst => ?_⟩⟩
        have stx : st ≠ x := (ne_of_none hx5 hst).symm
        have k6 := k5.same (same_new (o := HO.tup ((ws'.map fun r => r.1.nm).map V.str)) hst)
        have hs6 := same_new (o := HO.tup ((ws'.map fun r => r.1.nm).map V.str)) hst _ _ hs5
        have hx6 := same_new (o := HO.tup ((ws'.map fun r => r.1.nm).map V.str)) hst _ _ hx5
        have hst6 := upd_same (H := H5) (a := st) (o := HO.tup ((ws'.map fun r => r.1.nm).map V.str))
        have st0 : H st = none := by
          cases e : H st with
          | none => rfl
          | some o => rw [k5 st o stx e] at hst; cases hst
        generalize upd H5 st (HO.tup ((ws'.map fun r => r.1.nm).map V.str)) = H6 at k6 hs6 hx6 hst6
        refine ⟨_, rfl, x, T.C_Machine, dx, _, rfl, hx6, T.cl_Machine, T.n_Machine_states, Nat.lt_of_le_of_lt (putF_le _ _ _) (by show 0 + 1 < 1000; decide), ?_⟩
        have k7 : KeptB x H (upd H6 x (.ins T.C_Machine dx (putF "_states" (.ref st) (putF "_letters" (.int n) [])))) := fun b o nb e => by rw [upd_ne nb]; exact k6 b o nb e
        have hs7 := (upd_ne (o := HO.ins T.C_Machine dx (putF "_states" (.ref st) (putF "_letters" (.int n) []))) sx).trans hs6
        have hst7 := (upd_ne (o := HO.ins T.C_Machine dx (putF "_states" (.ref st) (putF "_letters" (.int n) []))) stx).trans hst6
        have hx7 := upd_same (H := H6) (a := x) (o := HO.ins T.C_Machine dx (putF "_states" (.ref st) (putF "_letters" (.int n) [])))
        generalize upd H6 x (.ins T.C_Machine dx (putF "_states" (.ref st) (putF "_letters" (.int n) []))) = H7 at k7 hs7 hst7 hx7
        have nd : (ws.map fun r => r.1.nm).Nodup := by
          have := gd.nd
          rwa [List.map_map] at this
        have nd' : (ws'.map fun r => r.1.nm).Nodup := (pr.map _).nodup_iff.mpr nd
        have l' : ws'.length = ws.length := pr.length_eq
        refine ⟨_, rfl, s, rfl, ⟨_, .of hs7⟩, fun td htd => dc_walk (walk_list (K := K) (a := s) (xs := (ws'.map fun r => r.1.nm).map V.str)) (fun i H' => H' td = some (.dK ((ws'.take i).map fun r => ((.inr r.1.nm : Key), V.ref r.2))) ∧ Same H7 H') ⟨upd_same, same_new htd⟩ (fun i H' _ h => .of (h.2 _ _ hs7)) ?_ ?_⟩
        · rintro i y H8 H9 hi ⟨ht8, s8⟩ ⟨rfl, hy⟩
          rw [List.length_map, List.length_map] at hi
          obtain rfl : y = .str ws'[i].1.nm := by
            rw [List.getElem?_map, List.getElem?_map, List.getElem?_eq_getElem hi] at hy
            exact (Option.some.inj hy).symm
          have tk := take_next hi
          have hm : ws'[i] ∈ ws := pr.mem_iff.mp (List.getElem_mem hi)
          have fresh := not_in_take nd' (k := i) (by rw [List.length_map]; exact hi)
          rw [List.getElem_map, ← List.map_take] at fresh
          generalize ws'[i] = r at tk hm fresh
          have get : DGet H9 d (.str r.1.nm) (some (.ref r.2)) := .inl ⟨_, .inr r.1.nm, .inl (s8 _ _ (k7 _ _ dx' tb.top)), rfl, (val_pair nd hm).symm⟩
          refine ⟨wipe1 _ _ _, tyes_if ?_⟩
          refine ⟨_, rfl, _, rfl, _, rfl, d, .ref r.2, rfl, get, _, .inr r.1.nm, rfl, ht8, by rw [List.length_map, List.length_take, sizeLine_eq]; omega, ?_, same_put s8 htd⟩
          rw [upd_same, putK_new (fun kv hk e => ?_), tk, List.map_append]
          · rfl
          · obtain ⟨r2, h2, rfl⟩ := List.mem_map.mp hk
            injection e with e
            exact fresh (List.mem_map.mpr ⟨r2, h2, e⟩)
        · rintro H8 ⟨ht8, s8⟩
          rw [List.length_map, List.length_map, List.take_length] at ht8
          have k8 := k7.same s8
          have tdx : td ≠ x := (ne_of_none hx7 htd).symm
          have td0 : H td = none := by
            cases e : H td with
            | none => rfl
            | some o => rw [k7 td o tdx e] at htd; cases htd
          have notx : ∀ b l, H b = some (.tup l) → b ≠ x := fun b l e z => by rw [z, hx] at e; cases e
          refine ⟨_, rfl, x, T.C_Machine, dx, _, rfl, s8 _ _ hx7, T.cl_Machine, T.n_Machine_table, Nat.lt_of_le_of_lt (putF_le _ _ _) (Nat.lt_of_le_of_lt (Nat.succ_le_succ (putF_le _ _ _)) (by show 0 + 1 + 1 < 1000; decide)), ?_⟩
          have far : ∀ b l, H b = some (.tup l) → (upd H8 x (.ins T.C_Machine dx (mF n st td))) b = some (.tup l) := fun b l e => by
            rw [upd_ne (notx b l e)]
            exact k8 _ _ (notx b l e) e
          refine q _ st td ws' (fun b o nb e => by rw [upd_ne nb]; exact k8 b o nb e) st0 td0 pr ⟨upd_same, (upd_ne stx).trans (s8 _ _ hst7), ⟨(upd_ne tdx).trans ht8, fun r hr => far _ _ (tb.pair r (pr.mem_iff.mp hr)), fun r hr => far _ _ (tb.tt r (pr.mem_iff.mp hr)), fun r hr => far _ _ (tb.xt r (pr.mem_iff.mp hr))⟩, gd.perm (pr.map _), srt⟩
    · have hb : (decide ((2 : Int) ≤ (n : Int)) && decide ((n : Int) ≤ 4)) = false := hb
      rw [decide_eq_true (by omega : (2 : Int) ≤ (n : Int)), decide_eq_true (by omega : (n : Int) ≤ 4)] at hb
      cases hb
end
end My

set_option Elab.async false
set_option linter.all false
set_option maxRecDepth 100000
set_option maxHeartbeats 8000000
namespace My
open PySem PySem.Spec PyProof.Rows L2
def inNames (v : V) (ws : List (Row × Addr)) : Bool := match v with
  | .str z => decide (z ∈ ws.map fun r => r.1.nm)
  | _ => false
theorem val_some {ws : List (Row × Addr)} {z : Str} : (valV (ws.map fun r => ((.inr r.1.nm : Key), V.ref r.2)) (.inr z)).isSome = decide (z ∈ ws.map fun r => r.1.nm) := by
  induction ws with
  | nil => rfl
  | cons q ws ih =>
    rw [List.map_cons, List.map_cons]
    by_cases e : q.1.nm = z
    · rw [valV_pos (congrArg Sum.inr e)]
      rw [decide_eq_true (show z ∈ q.1.nm :: _ from e ▸ List.mem_cons_self)]
      rfl
    · rw [valV_neg (fun s => e (by injection s)), ih]
      congr 1
      exact propext ⟨fun h => List.mem_cons_of_mem _ h, fun h => (List.mem_cons.mp h).elim (fun s => absurd s.symm e) id⟩
/-- a machine stands there -/
def spGet (C : Addr) (f : Nat → Addr → List (Row × Addr) → V) : Sp := fun vs H Q _ => ∃ (x dx st td : Addr) (n : Nat) (ws : List (Row × Addr)), vs = [.ref x] ∧ MachAt C H x dx st td n ws ∧ Q (f n st ws) H
def spContains (C : Addr) : Sp := fun vs H Q _ => ∃ (x dx st td : Addr) (n : Nat) (ws : List (Row × Addr)) (v : V), vs = [.ref x, v] ∧ MachAt C H x dx st td n ws ∧ Gd H v ∧ Q (.bl (inNames v ws)) H
def spCheckState (C : Addr) : Sp := fun vs H Q _ => ∃ (x dx st td : Addr) (n : Nat) (ws : List (Row × Addr)) (r : Row × Addr), vs = [.ref x, .str r.1.nm] ∧ MachAt C H x dx st td n ws ∧ r ∈ ws ∧ Q .non H
def spPart (C : Addr) (f : Row → Addr) : Sp := fun vs H Q _ => ∃ (x dx st td : Addr) (n : Nat) (ws : List (Row × Addr)) (r : Row × Addr), vs = [.ref x, .str r.1.nm] ∧ MachAt C H x dx st td n ws ∧ r ∈ ws ∧ Q (.ref (f r.1)) H
section
variable {P : Program} {w : World} {K : PySem.W.Frag} {mg : Str → Option Value} {base : Heap}
theorem ok_Machine_states (T : Tx K mg) : FnOk P w K mg base CX0 1 T.f_Machine_states T.d_Machine_states p_Machine_states (spGet T.C_Machine fun _ st _ => .ref st) := by
  refine T.F_Machine_states.ok sc_Machine_states (fun vs H Q E h => ?_) (fun cdv A outer s H vs Q E hr h => ?_)
  · obtain ⟨x, dx, st, td, n, ws, rfl, _⟩ := h
    rfl
  · obtain ⟨x, dx, st, td, n, ws, rfl, m, q⟩ := h
    exact ⟨_, (pss_one (ps_ret (fldK K (pv 0) rfl))), _, rfl, x, T.C_Machine, dx, _, _, rfl, m.obj, T.cl_Machine, T.n_Machine_states, mF_states _ _ _, q⟩
theorem ok_Machine_len (T : Tx K mg) : FnOk P w K mg base CX0 1 T.f_Machine_len T.d_Machine_len p_Machine_len (spGet T.C_Machine fun _ _ ws => .int (ws.length : Nat)) := by
  refine T.F_Machine_len.ok sc_Machine_len (fun vs H Q E h => ?_) (fun cdv A outer s H vs Q E hr h => ?_)
  · obtain ⟨x, dx, st, td, n, ws, rfl, _⟩ := h
    rfl
  · obtain ⟨x, dx, st, td, n, ws, rfl, m, q⟩ := h
    refine ⟨_, (pss_one (ps_ret (pe_callB (lenS K) (by rfl) T.len (by decide +kernel) (pa_cons (fldK K (pv 0) rfl) pa_nil)))), _, rfl, x, T.C_Machine, dx, _, _, rfl, m.obj, T.cl_Machine, T.n_Machine_states, mF_states _ _ _, st, _, rfl, .inr (.of m.sts), ?_⟩
    rw [List.length_map, List.length_map]
    exact q
theorem ok_Machine_contains (T : Tx K mg) : FnOk P w K mg base CX0 1 T.f_Machine_contains T.d_Machine_contains p_Machine_contains (spContains T.C_Machine) := by
  refine T.F_Machine_contains.ok sc_Machine_contains (fun vs H Q E h => ?_) (fun cdv A outer s H vs Q E hr h => ?_)
  · obtain ⟨x, dx, st, td, n, ws, v, rfl, _⟩ := h
    rfl
  · obtain ⟨x, dx, st, td, n, ws, v, rfl, m, g, q⟩ := h
    refine ⟨_, (pss_one (ps_ret (pe_and (pe_callB (isiK K) (by rfl) T.isinstance (by decide +kernel) (pa_cons (pv 1) (pa_cons (pe_bltn (v := .ty "str") (by rfl) T.str (by decide +kernel) rfl) pa_nil))) (pe_one (pe_cmp (pc_din (L2.hu_of hr) (pv 1) (fldK K (pv 0) rfl))))))), ?_⟩
    cases g with
    | non => exact ⟨_, rfl, _, _, _, _, false, rfl, .ty _, .base .non, kitT (by decide +kernel), _, rfl, q⟩
    | bl b => exact ⟨_, rfl, _, _, _, _, false, rfl, .ty _, .base (.bl b), kitT (by decide +kernel), _, rfl, q⟩
    | int i => exact ⟨_, rfl, _, _, _, _, false, rfl, .ty _, .base (.int i), kitT (by decide +kernel), _, rfl, q⟩
    | tup a xs h hf hl => exact ⟨_, rfl, _, _, _, _, false, rfl, .ty _, .base (.tup h), kitT (by decide +kernel), _, rfl, q⟩
    | lst a xs h => exact ⟨_, rfl, _, _, _, _, false, rfl, .ty _, .base (.lst h), kitT (by decide +kernel), _, rfl, q⟩
    | dct a kvs h => exact ⟨_, rfl, _, _, _, _, false, rfl, .ty _, .base (.dK h), kitT (by decide +kernel), _, rfl, q⟩
    | str z h ha =>
      refine ⟨_, rfl, _, _, _, _, true, rfl, .ty _, .base (.str z), kitT (by decide +kernel), _, rfl, ?_⟩
      have vs := val_some (ws := ws) (z := z)
      refine ⟨_, rfl, _, rfl, x, T.C_Machine, dx, _, _, rfl, m.obj, T.cl_Machine, T.n_Machine_table, mF_table _ _ _, td, _, rfl, DGet.k (k := .inr z) m.tab.top, ?_⟩
      rw [vs]
      exact q
theorem ok_check_state (T : Tx K mg) : FnOk P w K mg base CX0 2 T.f_check_state T.d_check_state p_check_state (spCheckState T.C_Machine) := by
  refine T.F_check_state.ok sc_check_state (fun vs H Q E h => ?_) (fun cdv A outer s H vs Q E hr h => ?_)
  · obtain ⟨x, dx, st, td, n, ws, r, rfl, _⟩ := h
    rfl
  · obtain ⟨x, dx, st, td, n, ws, r, rfl, m, hm, q⟩ := h
    refine ⟨_, (pss_one (ps_if (pt_cmpR (op_notInO (ok_Machine_contains T) (hr.mono (by decide)) T.b_Machine_contains pass0 T.mt_Machine_contains) (pv 1) (pv 0) (by rfl))
      (pss_one ps_never)
      pss_nil)), ?_⟩
    obtain ⟨o1, o2, o3⟩ := names_ok _ (m.good.nms _ (List.mem_map.mpr ⟨r, hm, rfl⟩))
    refine ⟨_, rfl, _, rfl, x, dx, _, rfl, m.obj, x, dx, st, td, n, ws, _, rfl, m, .str _ o2 o3, _, rfl, _, rfl, ?_⟩
    have e : inNames (.str r.1.nm) ws = true := decide_eq_true (List.mem_map.mpr ⟨r, hm, rfl⟩)
    show (if (!inNames (V.str r.1.nm) ws) = true then _ else _ : Prop)
    rw [e]
    exact iteF q
theorem ok_Machine_turn (T : Tx K mg) : FnOk P w K mg base CX0 3 T.f_Machine_turn T.d_Machine_turn p_Machine_turn (spPart T.C_Machine Row.ta) := by
  refine T.F_Machine_turn.ok sc_Machine_turn (fun vs H Q E h => ?_) (fun cdv A outer s H vs Q E hr h => ?_)
  · obtain ⟨x, dx, st, td, n, ws, r, rfl, _⟩ := h
    rfl
  · obtain ⟨x, dx, st, td, n, ws, r, rfl, m, hm, q⟩ := h
    refine ⟨_, (pss_cons (ps_expr (pe_call (ok_check_state T) (hr.mono (by decide)) rfl T.m_check_state T.F_check_state.kp T.b_check_state .nil pass0 (pa_cons (pv 0) (pa_cons (pv 1) pa_nil))))
    (pss_one (ps_ret (pe_ix (ixT K) (pe_dget (L2.hu_of hr) (fldK K (pv 0) rfl) (pv 1) (fun _ _ => rfl)) pe_int (fun _ _ => rfl))))), ?_⟩
    have nd : (ws.map fun r => r.1.nm).Nodup := by
      have := m.good.nd
      rwa [List.map_map] at this
    have get : DGet H td (.str r.1.nm) (some (.ref r.2)) := .inl ⟨_, .inr r.1.nm, .inl m.tab.top, rfl, (val_pair nd hm).symm⟩
    refine ⟨_, rfl, _, rfl, x, dx, st, td, n, ws, r, rfl, m, hm, ?_⟩
    exact ⟨_, rfl, x, T.C_Machine, dx, _, _, rfl, m.obj, T.cl_Machine, T.n_Machine_table, mF_table _ _ _, _, rfl, td, .ref r.2, rfl, get, r.2, _, _, _, rfl, rfl, .of (m.tab.pair r hm), at_of (j := 0) rfl rfl, q⟩
end
end My

set_option Elab.async false
set_option linter.all false
set_option maxRecDepth 100000
set_option maxHeartbeats 8000000
namespace My
open PySem PySem.Spec PyProof.Rows L2
def spStr (C : Addr) : Sp := fun vs H Q _ => ∃ (x dx st td : Addr) (n : Nat) (ws : List (Row × Addr)), vs = [.ref x] ∧ MachAt C H x dx st td n ws ∧ ∀ H', Same H H' → Q (.str (lineTxt n (ws.map Prod.fst))) H'
section
variable {P : Program} {w : World} {K : PySem.W.Frag} {mg : Str → Option Value} {base : Heap}
theorem ok_Machine_str (T : Tx K mg) : FnOk P w K mg base CX0 3 T.f_Machine_str T.d_Machine_str p_Machine_str (spStr T.C_Machine) := by
  refine T.F_Machine_str.ok sc_Machine_str (fun vs H Q E h => ?_) (fun cdv A outer s H vs Q E hr h => ?_)
  · obtain ⟨x, dx, st, td, n, ws, rfl, _⟩ := h
    rfl
  · obtain ⟨x, dx, st, td, n, ws, rfl, m, q⟩ := h
    refine ⟨_, (pss_one (ps_ret (pe_joined (PJ.cons pe_str (PJ.cons (pe_fmt (fldK K (pv 0) rfl)) (PJ.cons pe_str (PJ.cons (pe_fmt (pe_call (ok_shown_table T) (hr.mono (by decide)) rfl T.m_shown_table T.F_shown_table.kp T.b_shown_table .nil pass0 (pa_cons (fldK K (pv 0) rfl) pa_nil))) PJ.nil))))))), ?_⟩
    have n2 := m.good.lo
    have n4 := m.good.hi
    have tlen := tabTxt_le m.good (List.Perm.refl _)
    have e9 : (Str.ofString "machine of ").length = 11 := by decide +kernel
    have e8 : (Str.ofString " letters: ").length = 10 := by decide +kernel
    have e7 : (Str.ofString (toString (n : Int))).length ≤ 1 := by
      have : n < 5 := by omega
      exact (by decide +kernel : ∀ n : Nat, n < 5 → (Str.ofString (toString (n : Int))).length ≤ 1) n this
    refine ⟨_, rfl, by rw [Str.empty_append, e9, sizeLine_eq]; omega, _, rfl, x, T.C_Machine, dx, _, _, rfl, m.obj, T.cl_Machine, T.n_Machine_letters, mF_letters _ _ _, .inr ⟨_, rfl, small_log (by omega) (by omega), ?_⟩⟩
    rw [Str.empty_append]
    refine ⟨_, rfl, by rw [Str.length_append, e9, sizeLine_eq]; omega, _, rfl, by rw [Str.length_append, Str.length_append, e9, e8, sizeLine_eq]; omega, _, rfl, x, T.C_Machine, dx, _, _, rfl, m.obj, T.cl_Machine, T.n_Machine_table, mF_table _ _ _, td, n, ws, rfl, m.tab, m.good, fun H1 s1 => .inl ⟨_, rfl, by rw [sizeLine_eq]; omega, _, rfl, ?_, q H1 s1⟩⟩
    rw [Str.length_append, Str.length_append, Str.length_append, e9, e8, sizeLine_eq]
    omega
end
end My

set_option Elab.async false
set_option linter.all false
set_option maxRecDepth 100000
set_option maxHeartbeats 4000000
/-! ~o, o an own object -/
namespace My
open PySem PySem.Spec PyProof.Rows L2
section
variable {X : Cx} {CX : CXT} {k : Nat} {C f : Addr} {fd : FuncData} {ps : List Str} {sp : Sp} {E : XK}
def rInv (C : Addr) (sp : Sp) (E : XK) : V → Hp → VK → Prop := fun x H Q => ∃ (p dx : Addr) (fs : List (Str × V)), x = .ref p ∧ H p = some (.ins C dx fs) ∧ sp [.ref p] H Q E
theorem un_invO (F : FnOk X.prog X.w X.K X.mg X.base CX k f fd ps sp) (hr : Room k X.A) (hb : Binds X.K fd ps []) (hx : Passes CX X E) (m : Meth X.K C "__invert__" f) : UnR X (unaryOp .Invert) (rInv C sp E) := by
  intro pins s σ H x v Q I rx h
  obtain ⟨p, dx, fs, rfl, hp, q⟩ := h
  obtain rfl : v = Value.ref p := rx
  obtain ⟨mA, J, _⟩ := ins_get I.hok hp
  obtain ⟨od, J, _⟩ := J.look
  obtain ⟨m', hF⟩ := I.fr
  refine PySem.W.ksp_inv hF I.ok.mod.kin J m.at_ m.fn ?_
  exact run_fn (us := [.ref p]) (vs := [.ref p]) F hr hb .nil hx I (.cons rfl .nil) q
end
end My

set_option Elab.async false
set_option linter.all false
set_option maxRecDepth 100000
set_option maxHeartbeats 4000000
/-! for i, y in enumerate(a tuple) -/
namespace My
open PySem PySem.Spec PyProof.Rows L2
open Sem (wp)
open AutoSeq1 (wpAny_loadPart')
theorem meets_enumT (l : Addr) (items : Array Value) (n : Nat) (dct : Option Addr) (sl : Array (Option Value)) :
    Meets (Builtin.«enumerate.__new__» ⟨[.type "enumerate", .ref l], []⟩) (fun _ R s => s.heap.get? l = some { cls := .type "tuple", dict := dct, data := .seq items n, slots := sl } ∧
      R (.ok (.ret (.ref (s.heap.push { cls := .type "tuple_iterator", data := .fields #[.ref l, .int 0 0] }).objs.size)))
        { s with heap := (s.heap.push { cls := .type "tuple_iterator", data := .fields #[.ref l, .int 0 0] }).push { cls := .type "enumerate", data := .fields #[.none, .bool false, .ref s.heap.objs.size, rawInt 0, .none, .none] } }) :=
  .of_wp fun prog w A R s h => by
    obtain ⟨hp, g, d, tk, os⟩ := s; obtain ⟨hl, h⟩ := h
    have hsub := sub_enumerate
    have hL : Heap.IsTuple (Shared.heap ⟨hp, g, d, tk, os⟩) l items := ⟨_, hl, rfl, n, rfl⟩
    wp_walk using wpAny_loadPart' hl
    refine wpAny_stack_any fun st => wpAny_pure ?_
    split
    · rename_i c _ _ _ _ _
      cases (c == Value.type "enumerate")
      · wp_walk using wpAny_loadPart' hl, wpAny_pyIter_tuple hL
        exact ⟨_, rfl, h⟩
      · wp_walk using wpAny_loadPart' hl, wpAny_pyIter_tuple hL
        exact ⟨_, rfl, h⟩
    · wp_walk using wpAny_loadPart' hl, wpAny_pyIter_tuple hL
      exact ⟨_, rfl, h⟩
section
variable {prog : Program} {w : World} {A : Around} {E : Value → Shared → Prop} {s : Shared}
theorem call_enum_tup {l : Addr} {items : Array Value} {Q : Value → Shared → Prop} (hL : s.heap.IsTuple l items)
    (h : ∀ h', IsEnum h' (s.heap.objs.size + 1) s.heap.objs.size 0 .none → h'.IsTupleIter s.heap.objs.size l 0 → h'.objs.size = s.heap.objs.size + 2 →
      (∀ b o, s.heap.get? b = some o → h'.get? b = some o) → Q (.ref (s.heap.objs.size + 1)) { s with heap := h' }) :
    wpAny (model prog w) A (call (.type "enumerate") [.ref l]) Q E s := by
  obtain ⟨⟨c, dct, dt, sl⟩, hl, hc, n, hd⟩ := hL
  replace hc : c = .type "tuple" := hc
  replace hd : dt = .seq items n := hd
  subst hc hd
  refine callType_new F.called_enumerate (by decide) (F.typeCall_enumerate_1 _) (F.newCall_enumerate_1 _) (fun obj => F.args_object_init_2 obj _) F.entry_enumerate_new
    (meets_enumT l items n dct sl) ⟨hl, ?_⟩
  have hz : (s.heap.push { cls := .type "tuple_iterator", data := .fields #[.ref l, .int 0 0] }).objs.size = s.heap.objs.size + 1 := Heap.size_push ..
  show _ ∧ _
  rw [hz]
  have he : IsEnum ((s.heap.push { cls := .type "tuple_iterator", data := .fields #[.ref l, .int 0 0] }).push
      { cls := .type "enumerate", data := .fields #[.none, .bool false, .ref s.heap.objs.size, rawInt 0, .none, .none] }) (s.heap.objs.size + 1) s.heap.objs.size 0 .none := by
    have := Heap.get?_push_size (s.heap.push { cls := .type "tuple_iterator", data := .fields #[.ref l, .int 0 0] })
      (o := { cls := .type "enumerate", data := .fields #[.none, .bool false, .ref s.heap.objs.size, rawInt 0, .none, .none] }) rfl
    rw [hz] at this; exact this
  refine ⟨⟨_, he, rfl⟩, h _ he ⟨_, Heap.get?_push_of_some _ (Heap.get?_push_size _ rfl), rfl, rfl⟩ (by rw [Heap.size_push, hz]) fun b o x => Heap.get?_push_of_some _ (Heap.get?_push_of_some _ x)⟩
end
/-- the tuple at a as it stands at each turn, each item in a new pair -/
def IteT (K : PySem.W.Frag) (a : Addr) : It :=
  ⟨fun i H => ∃ (xs : List V) (x : V), SqT K H a xs ∧ xs[i]? = some x, fun i H v H' => ∃ T x, v = .ref T ∧ H T = none ∧ H' = upd H T (.tup [.int (i : Nat), x]) ∧ ∀ xs, SqT K H a xs → xs[i]? = some x, fun i H => ∃ xs : List V, SqT K H a xs ∧ xs.length ≤ i⟩
theorem turn_enumT {P : Program} {w : World} {K : PySem.W.Frag} {elts : List Expr} {kk : Nat} {tpos : Pos} (a e it : Addr) :
    Turn P w K (.Tuple elts kk tpos) (IteT K a) [e, it] e (fun i h => (∃ old, IsEnum h e it ((i : Nat) : Int) old) ∧ h.IsTupleIter it a i ∧ e ≠ it ∧ a ≠ it ∧ a ≠ e) where
  mem := by simp
  obj := fun i h st b hb => by
    obtain ⟨⟨old, he⟩, ⟨o, ho, hc, hd⟩, _⟩ := st
    have e' : b = e ∨ b = it := by simpa using hb
    rcases e' with z | z
    · rw [z]; exact ⟨_, he, fun v q => nomatch q⟩
    · rw [z]; exact ⟨o, ho, fun v q => by rw [hd] at q; cases q⟩
  keep := fun i h h' st k => let ⟨⟨old, he⟩, hi, hne⟩ := st; ⟨⟨old, k e (by simp) _ he⟩, hi.at fun o q => k it (by simp) o q, hne⟩
  item := by
    intro X hP hw hK hc i pins s σ H E I hf st hg
    subst hP hw hK
    obtain ⟨⟨old, he⟩, hit, hne, ha, hae⟩ := st
    obtain ⟨xs, x, hq, hx⟩ := hg
    obtain ⟨its, rv, p, hz⟩ := I.tuple hq
    obtain ⟨u, hu, ru⟩ := rv.get hx
    have hel : e < s.heap.objs.size := Heap.lt_size he
    have hil : it < s.heap.objs.size := by obtain ⟨_, q, _⟩ := hit; exact Heap.lt_size q
    have hin : i < its.toArray.size := by
      rw [List.size_toArray]
      exact (List.getElem?_eq_some_iff.mp hu).1
    refine wpAny_pyNext_enum_itemD (Draws.tuple (prog := X.prog) (w := X.w) (A := X.A.in1) (I.ok.hd hc) it a ha its.toArray) he ⟨hit, p⟩ hin hne (by simp [hne, Ne.symm hae]) fun y h' tk hy ho hit' hT hsz hk => ?_
    obtain ⟨hit', p'⟩ := hit'
    have ey : y = u := by
      have := hy.symm.trans (show its.toArray[i]? = some u by simpa using hu)
      exact Option.some.inj this
    subst ey
    refine ⟨_, rfl, wpAny_letOwnedTupleGo_enum (s := { s with heap := h', toks := tk + 1 }) ho fun h'' he' sb => ?_⟩
    have hT2 : h''.get? s.heap.objs.size = some { cls := .type "tuple", data := .seq #[.int i tk, y] } := (sb.2 _ (Nat.ne_of_gt hel)).trans hT
    have new : ObjOk X.prog X.w (upd H s.heap.objs.size (.tup [.int (i : Nat), x])) h'' s.heap.objs.size (.tup [.int (i : Nat), x]) :=
      ⟨by show 2 ≤ sizeLine; decide, [.int i tk, y], .cons ⟨_, rfl⟩ (.cons ru .nil), ⟨_, hT2, rfl, _, rfl⟩⟩
    have I1 : Inv X pins σ (upd H s.heap.objs.size (.tup [.int (i : Nat), x])) { s with heap := h'', toks := tk + 1 } :=
      I.turnedNew (ch := [e, it]) (fun b ob hb q => (sb.2 b (fun z => hb (by simp [z]))).trans (hk b ob (fun z => hb (by simp [z])) (fun z => hb (by simp [z])) q)) hf (Nat.le_refl _) new
    refine ⟨.ref s.heap.objs.size, _, I1, rfl, ⟨_, x, rfl, I.hok.fresh (Nat.le_refl _), rfl, fun ys hy => by rw [I.tuple_inj hy hq]; exact hx⟩, ⟨⟨y, ?_⟩, hit'.at fun o q => (sb.2 it (Ne.symm hne)).trans q, hne, ha, hae⟩, fun b hb => ?_⟩
    · have e1 : ((i + 1 : Nat) : Int) = (i : Int) + 1 := by omega
      rw [e1]; exact he'
    · have hb' : b < s.heap.objs.size := by
        have e' : b = e ∨ b = it := by simpa using hb
        rcases e' with z | z
        · rw [z]; exact hel
        · rw [z]; exact hil
      rw [upd_ne (Nat.ne_of_lt hb')]
      exact (hf b hb).1
  done := by
    intro X hP hw hK hc i pins s σ H E I hf st hg
    subst hP hw hK
    obtain ⟨⟨old, he⟩, hit, hne, ha, hae⟩ := st
    obtain ⟨xs, hq, hx⟩ := hg
    obtain ⟨its, rv, p, hz⟩ := I.tuple hq
    obtain ⟨f0, f1, f2, f3, f4, f5⟩ := hf it (by simp)
    have hl := rv.length
    have hTy : s.TypeIs (.ref e) "enumerate" := ⟨_, he, rfl⟩
    unfold pyNext
    refine wpAny_bind (wpAny_attempt (wpAny_callSpecial?_slot (name := Str.ofString "__next__") hTy F.slot_enumerate_next
      (wpAny_call_entry F.slot_enumerate_next hTy F.entry_enumerate_next ?_ (F.args_enumerate_next_1 _))))
    show wpAny _ _ (field (.ref e) 2 >>= _) _ _ _
    refine wpAny_bind (wpAny_field he rfl (x := .ref it) rfl ?_)
    refine wpAny_bind (wpAny_nextOf_tuple_end (I.ok.hd hc) hit p (by simp; omega) fun h' x he' hx' => ?_)
    obtain ⟨o, ho, hcl⟩ := hx'
    refine wpAny_bind (wpAny_isInstance (T := "StopIteration") (b := true) ⟨o, ho, hcl⟩ isSubtype_stop ?_)
    exact wpAny_pure ⟨rfl, I.turned (t' := s.toks) (fun b o hb q => he' b o hb q) f0 f1 f3 f4 f5⟩
  self := fun A i s Q E st h => let ⟨⟨_, he⟩, _⟩ := st; wpAny_pyIter_enum he h
def iEnumT (K : PySem.W.Frag) (ta : TA) : TI := fun σ H R => ta σ H fun vs H1 => ∃ a xs, vs = [.ref a] ∧ SqT K H1 a xs ∧ R (IteT K a) H1
theorem pi_enumT {X : Cx} {e : Expr} {ta : TA} {p pos tpos : Pos} {elts : List Expr} {kk : Nat} (hg : Gl X "enumerate") (hm : X.mg "enumerate" = none) (ha : PA X [e] ta) (hs : starEach [e] X.env = [(false, eval e X.env)] := by rfl) :
    PI X (.Tuple elts kk tpos) (.Call (.Name "enumerate" p) [e] [] pos) (iEnumT X.K ta) := by
  refine ⟨fun pins s σ H R I h => ?_⟩
  refine Call_ (ld_blt I hg hm boot_enumerate (PyProof.Rows.callWith_type1 (thn (ha.run pos pins s σ H _ I h) fun us s1 ⟨vs, H1, I1, r1, q1⟩ => ?_) hs rfl))
  obtain ⟨a, xs, ex, hq, q⟩ := q1
  subst ex
  cases r1 with
  | cons r rr =>
    cases rr
    cases r
    obtain ⟨its, rv, p', hz⟩ := I1.tuple hq
    have hal : a < s1.heap.objs.size := by obtain ⟨_, q, _⟩ := p'; exact Heap.lt_size q
    refine call_enum_tup p' fun h' he hit hsz hk => wpAny_pyIter_enum he ?_
    have I2 : Inv X pins σ H1 { s1 with heap := h' } := I1.kept (t' := s1.toks) hk
    refine ⟨s1.heap.objs.size + 1, [s1.heap.objs.size + 1, s1.heap.objs.size], _, _, H1, rfl, I2, turn_enumT a (s1.heap.objs.size + 1) s1.heap.objs.size, ⟨⟨.none, he⟩, hit, Nat.succ_ne_self _, Nat.ne_of_lt hal, Nat.ne_of_lt (Nat.lt_succ_of_lt hal)⟩, fun b hb => ?_, q⟩
    have e' : b = s1.heap.objs.size + 1 ∨ b = s1.heap.objs.size := by simpa using hb
    have hle : s1.heap.objs.size ≤ b := by
      rcases e' with z | z
      · rw [z]; exact Nat.le_add_right _ _
      · rw [z]; exact Nat.le_refl _
    exact I1.fpOk hle (I1.hok.fresh hle)
theorem enumTK {X : Cx} (K : PySem.W.Frag) {e : Expr} {ta : TA} {p pos tpos : Pos} {elts : List Expr} {kk : Nat} (hg : Gl X "enumerate") (hm : X.mg "enumerate" = none) (ha : PA X [e] ta) (h : X.K = K := by rfl) (hs : starEach [e] X.env = [(false, eval e X.env)] := by rfl) :
    PI X (.Tuple elts kk tpos) (.Call (.Name "enumerate" p) [e] [] pos) (iEnumT K ta) := h ▸ pi_enumT hg hm ha hs
/-- for i, y in enumerate(a tuple) -/
theorem for_enumT {K : PySem.W.Frag} {a : Addr} {xs : List V} {g : TG} {tb : TS} {D : Ends} {σ : L2.St} {H : Hp} (J : Nat → L2.St → Hp → Prop) (start : J 0 σ H) (stays : ∀ i σ H, i ≤ xs.length → J i σ H → SqT K H a xs)
    (turn : ∀ i y σ H T, xs[i]? = some y → J i σ H → H T = none → g (.ref T) σ (upd H T (.tup [.int (i : Nat), y])) fun σ2 H2 => tb { D with nx := J (i + 1), ct := J (i + 1), bk := D.nx } σ2 H2) (done : ∀ σ H, J xs.length σ H → D.nx σ H) :
    ∃ W : Nat → Nat → L2.St → Hp → Prop, (∃ m, W 0 m σ H) ∧ ∀ i m σ H, W i m σ H →
      ((IteT K a).stop i H ∧ D.nx σ H) ∨ ((IteT K a).go i H ∧ ∃ N : L2.St → Hp → Prop, (∀ σ' H', N σ' H' → ∃ m', m' < m ∧ W (i + 1) m' σ' H') ∧ ∀ x H', (IteT K a).yld i H x H' → g x σ H' fun σ2 H2 => tb { D with nx := N, ct := N, bk := D.nx } σ2 H2) := by
  refine ⟨fun i m σ H => m + i = xs.length ∧ J i σ H, ⟨xs.length, rfl, start⟩, fun i m σ H w => ?_⟩
  obtain ⟨em, j⟩ := w
  have sq := stays i σ H (by omega) j
  cases m with
  | zero =>
    have ei : i = xs.length := by omega
    exact .inl ⟨⟨xs, sq, by omega⟩, done σ H (ei ▸ j)⟩
  | succ m =>
    have hi : i < xs.length := by omega
    refine .inr ⟨⟨xs, xs[i], sq, List.getElem?_eq_getElem hi⟩, J (i + 1), fun σ' H' j' => ⟨m, Nat.lt_succ_self m, by omega, j'⟩, fun v H' y => ?_⟩
    obtain ⟨T, y, rfl, hT, rfl, hy⟩ := y
    exact turn i y σ H T (hy xs sq) j hT
end My

set_option Elab.async false
set_option linter.all false
set_option maxRecDepth 100000
set_option maxHeartbeats 8000000
namespace My
open PySem PySem.Spec PyProof.Rows L2
/-- back is l undone -/
structure Und (l back : List Int) : Prop where
  len : back.length = l.length
  at_ : ∀ (j : Nat) (h : j < l.length), back[l[j].toNat]? = some (j : Int)
theorem mem_upto' {n : Nat} {z : Int} (h : z ∈ upto n) : 0 ≤ z ∧ z < n := by
  unfold upto at h
  obtain ⟨k, hk, rfl⟩ := List.mem_map.mp h
  have := List.mem_range.mp hk
  omega
def spUndTurn : Sp := fun vs H Q _ => ∃ (a : Addr) (n : Nat) (l : List Int), vs = [.ref a] ∧ H a = some (.tup (l.map V.int)) ∧ l.Perm (upto n) ∧ n ≤ 4 ∧
  ∀ (H' : Hp) (p : Addr) (back : List Int), Same H H' → H p = none → H' p = some (.tup (back.map V.int)) → Und l back → Q (.ref p) H'
section
variable {P : Program} {w : World} {K : PySem.W.Frag} {mg : Str → Option Value} {base : Heap}
theorem ok_undone_turn (T : Tx K mg) : FnOk P w K mg base CX0 1 T.f_undone_turn T.d_undone_turn p_undone_turn spUndTurn := by
  refine T.F_undone_turn.ok sc_undone_turn (fun vs H Q E h => ?_) (fun cdv A outer s H vs Q E hr h => ?_)
  · obtain ⟨a, n, l, rfl, _⟩ := h
    rfl
  · obtain ⟨a, n, l, rfl, ha, pl, n4, q⟩ := h
    refine ⟨_, (pss_cons (ps_set (i := 1) sc_undone_turn.nd rfl (by first | exact Or.inl rfl | exact Or.inr rfl) (pe_callTy (listK K) (by rfl) T.list (by decide +kernel) (pa_cons (pv 0) pa_nil)))
    (pss_cons (ps_for PassesOwn.never rfl (enumTK K rfl T.enumerate (pa_cons (pv 0) pa_nil)) (pg_tup (by rfl) (pgs_cons (pg_name (i := 2) sc_undone_turn.nd rfl (by first | exact Or.inl rfl | exact Or.inr rfl)) (pgs_cons (pg_name (i := 3) sc_undone_turn.nd rfl (by first | exact Or.inl rfl | exact Or.inr rfl)) pgs_nil)))
    (pss_one (ps_asg (pv 2) (pg_sub (pv 1) (pv 3) set_list))))
    (pss_one (ps_ret (pe_callTy (tupK K) (by rfl) T.tuple (by decide +kernel) (pa_cons (pv 1) pa_nil)))))), ?_⟩
    refine ⟨_, rfl, a, _, rfl, .inr (.of ha), fun L hL => ?_⟩
    refine ⟨_, rfl, a, _, rfl, .of (same_new hL _ _ ha), for_enumT (xs := l.map V.int) (fun i σ H' => (∃ (v2 v3 : Option V) (back : List Int), σ = [some (.ref a), some (.ref L), v2, v3] ∧ H' L = some (.lst (back.map V.int)) ∧ back.length = l.length ∧ ∀ (j : Nat) (h : j < l.length), j < i → back[l[j].toNat]? = some (j : Int)) ∧ Same H H') ?_ ?_ ?_ ?_⟩
    · exact ⟨⟨_, _, l, rfl, upd_same, rfl, fun j h z => absurd z (Nat.not_lt_zero _)⟩, same_new hL⟩
    · exact fun i σ H' _ h => .of (h.2 _ _ ha)
    · rintro i y σ H' T9 hy ⟨⟨v2, v3, back, rfl, hb, lb, ib⟩, sm⟩ hT
      have hi : i < l.length := by
        have := (List.getElem?_eq_some_iff.mp hy).1
        rwa [List.length_map] at this
      obtain rfl : y = .int l[i] := by
        rw [List.getElem?_map, List.getElem?_eq_getElem hi] at hy
        exact (Option.some.inj hy).symm
      have nd := pl.nodup_iff.mpr (upto_nodup n)
      have ll : l.length = n := by rw [pl.length_eq]; exact upto_len n
      have rg : ∀ k (h : k < l.length), 0 ≤ l[k] ∧ l[k] < n := fun k h => mem_upto' (pl.mem_iff.mp (List.getElem_mem h))
      have r0 := rg i hi
      have sT := same_new (o := HO.tup [.int (i : Nat), .int l[i]]) hT
      have hL9 : L ≠ T9 := ne_of_none hb hT
      refine ⟨T9, [.int (i : Nat), .int l[i]], rfl, .of upd_same, rfl, _, _, rfl, _, _, rfl, rfl, ?_⟩
      refine ⟨_, rfl, _, rfl, _, rfl, L, _, l[i], l[i].toNat, rfl, rfl, sT _ _ hb, (by
          have e := ixN_nat (n := (back.map V.int).length) (k := l[i].toNat) (by rw [List.length_map]; omega)
          rwa [Int.toNat_of_nonneg r0.1] at e), ⟨_, _, back.set l[i].toNat i, rfl, by rw [upd_same, List.map_set], by rw [List.length_set]; exact lb, fun j hj hji => ?_⟩, ?_⟩
      · by_cases e : j = i
        · subst e
          exact List.getElem?_set_self (by omega)
        · rw [List.getElem?_set_ne (fun z => e ?_)]
          · exact ib j hj (by omega)
          · have := rg j hj
            have e2 : l[i] = l[j] := by omega
            exact ((List.getElem_inj nd).mp e2).symm
      · exact fun b o z => by rw [upd_ne (ne_of_none z hL), sT _ _ (sm _ _ z)]
    · rintro σ H' ⟨⟨v2, v3, back, rfl, hb, lb, ib⟩, sm⟩
      rw [List.length_map] at ib
      refine ⟨_, rfl, L, _, rfl, .inl ⟨.of hb, fun p hp => q _ p back (fun b o z => by rw [upd_ne (ne_of_none (sm _ _ z) hp)]; exact sm _ _ z) (sm.free hp) upd_same ⟨lb, fun j hj => ib j hj hj⟩⟩⟩
end
end My

set_option Elab.async false
set_option linter.all false
set_option maxRecDepth 100000
set_option maxHeartbeats 8000000
namespace My
open PySem PySem.Spec PyProof.Rows L2
def pick (ns : List Str) (back : List Int) : List Str := back.map fun j => ns.getD j.toNat Str.empty
def spUndRow : Sp := fun vs H Q _ => ∃ (a x : Addr) (n : Nat) (l : List Int) (ns : List Str), vs = [.ref a, .ref x] ∧ H a = some (.tup (l.map V.int)) ∧ H x = some (.tup (ns.map V.str)) ∧ l.Perm (upto n) ∧ n ≤ 4 ∧ ns.length = n ∧
  ∀ (H' : Hp) (p ta xa : Addr) (back : List Int), Same H H' → H p = none → H' p = some (.tup [.ref ta, .ref xa]) → H' ta = some (.tup (back.map V.int)) → H' xa = some (.tup ((pick ns back).map V.str)) → Und l back → Q (.ref p) H'
theorem Und.perm {n : Nat} {l back : List Int} (u : Und l back) (p : l.Perm (upto n)) : back.Perm (upto n) := by
  have ll : l.length = n := by rw [p.length_eq]; exact upto_len n
  refine (perm_of_sub (upto_nodup n) (fun x hx => ?_) (by rw [upto_len, u.len, ll])).symm
  obtain ⟨x0, xn⟩ := mem_upto.mp hx
  have e := u.at_ x.toNat (by omega)
  rw [Int.toNat_of_nonneg x0] at e
  obtain ⟨h, e⟩ := List.getElem?_eq_some_iff.mp e
  exact e ▸ List.getElem_mem h
section
variable {P : Program} {w : World} {K : PySem.W.Frag} {mg : Str → Option Value} {base : Heap}
theorem ok_undone_row (T : Tx K mg) : FnOk P w K mg base CX0 2 T.f_undone_row T.d_undone_row p_undone_row spUndRow := by
  refine T.F_undone_row.ok sc_undone_row (fun vs H Q E h => ?_) (fun cdv A outer s H vs Q E hr h => ?_)
  · obtain ⟨a, x, n, l, ns, rfl, _⟩ := h
    rfl
  · obtain ⟨a, x, n, l, ns, rfl, ha, hx, pl, n4, ln, q⟩ := h
    refine ⟨_, (pss_cons (ps_set (i := 2) sc_undone_row.nd rfl (by first | exact Or.inl rfl | exact Or.inr rfl) (pe_call (ok_undone_turn T) (hr.mono (by decide)) rfl T.m_undone_turn T.F_undone_turn.kp T.b_undone_turn .nil pass0 (pa_cons (pv 0) pa_nil)))
    (pss_one (ps_ret (pe_tup (pa_cons (pv 2) (pa_cons (pe_callTy (tupK K) (by rfl) T.tuple (by decide +kernel) (pa_cons (pe_lc (own := [("letter", 3)]) (g := gName 3) (tt := tYes) rfl sc_undone_row.nd (piT K (pv 2)) (blkOk_by (N := n_undone_row) (sc := defScope s_undone_row) (by decide +kernel)) (fun _ _ _ _ _ => pg_name (i := 3) sc_undone_row.nd rfl (Or.inl rfl)) (fun _ _ _ _ _ => by exact pts_nil) (fun _ _ _ _ _ => by exact (pe_ix (ixT K) (pv 1) (pv 3) (fun _ _ => rfl)))) pa_nil)) pa_nil)))))), ?_⟩
    refine ⟨_, rfl, a, n, l, rfl, ha, pl, n4, fun H1 B back s1 B0 hB ub => ?_⟩
    have pb := ub.perm pl
    have lb : back.length = n := by rw [pb.length_eq]; exact upto_len n
    have hx1 := s1 _ _ hx
    refine ⟨_, rfl, _, rfl, B, rfl, ⟨_, .of hB⟩, fun D hD => lc_m (j := 3) (walk_tup (K := K) (a := B) (xs := back.map V.int)) (fun v => match v with | .int j => .str (ns.getD j.toNat Str.empty) | _ => .non) (by rw [List.length_map]; omega) (fun ys => SqT.of (same_new hD _ _ hB)) (fun y hy ys R r => ?_) ?_⟩
    · obtain ⟨j, hj, rfl⟩ := List.mem_map.mp hy
      obtain ⟨j0, jn⟩ := mem_upto.mp (pb.mem_iff.mp hj)
      refine ⟨_, rfl, _, rfl, x, _, j, .str (ns.getD j.toNat Str.empty), rfl, rfl, .of (same_new hD _ _ hx1), at_of (j := j.toNat) (by omega) ?_, r⟩
      rw [List.getElem?_map, List.getElem?_eq_getElem (by omega), List.getD_eq_getElem?_getD, List.getElem?_eq_getElem (by omega)]
      rfl
    · rw [List.map_map]
      have eD : ((fun v => match v with | V.int j => V.str (ns.getD j.toNat Str.empty) | _ => V.non) ∘ V.int) = V.str ∘ fun (j : Int) => ns.getD j.toNat Str.empty := rfl
      rw [eD, ← List.map_map]
      have hDn : B ≠ D := ne_of_none hB hD
      refine ⟨D, _, rfl, .inl ⟨.of upd_same, fun X hX => ⟨by show 2 ≤ sizeLine; decide, fun p hp => ?_⟩⟩⟩
      have sD := same_new (o := HO.lst ((back.map fun (j : Int) => ns.getD j.toNat Str.empty).map V.str)) hD
      generalize upd H1 D (HO.lst ((back.map fun (j : Int) => ns.getD j.toNat Str.empty).map V.str)) = H2 at sD hX hp ⊢
      have sX := same_new (o := HO.tup ((back.map fun (j : Int) => ns.getD j.toNat Str.empty).map V.str)) hX
      have hX3 := upd_same (H := H2) (a := X) (o := HO.tup ((back.map fun (j : Int) => ns.getD j.toNat Str.empty).map V.str))
      generalize upd H2 X (HO.tup ((back.map fun (j : Int) => ns.getD j.toNat Str.empty).map V.str)) = H3 at sX hX3 hp ⊢
      have s13 := (s1.trans sD).trans sX
      have sp := same_new (o := HO.tup [.ref B, .ref X]) hp
      exact q _ p B X back (s13.trans sp) (s13.free hp) upd_same (sp _ _ (sX _ _ (sD _ _ hB))) (sp _ _ hX3) ub
end
end My

set_option Elab.async false
set_option linter.all false
set_option maxRecDepth 100000
set_option maxHeartbeats 8000000
namespace My
open PySem PySem.Spec PyProof.Rows L2
theorem MachAt.same {C : Addr} {H H' : Hp} {x dx st td : Addr} {n : Nat} {ws : List (Row × Addr)} (m : MachAt C H x dx st td n ws) (s : Same H H') : MachAt C H' x dx st td n ws := ⟨s _ _ m.obj, s _ _ m.sts, m.tab.same s, m.good, m.srt⟩
structure UndRow (r v : Row) : Prop where
  nm : v.nm = r.nm
  und : Und r.turn v.turn
  nexts : v.nexts = pick r.nexts v.turn
theorem UndRow.ok {n : Nat} {names : List Str} {r v : Row} (u : UndRow r v) (h : RowOk n names r) : RowOk n names v := by
  have pb := u.und.perm h.turn
  refine ⟨pb, by rw [u.nexts, pick, List.length_map, pb.length_eq]; exact upto_len n, fun z hz => ?_⟩
  rw [u.nexts] at hz
  obtain ⟨j, hj, rfl⟩ := List.mem_map.mp hz
  obtain ⟨j0, jn⟩ := mem_upto.mp (pb.mem_iff.mp hj)
  have hl := h.many
  refine h.among _ ?_
  rw [List.getD_eq_getElem?_getD, List.getElem?_eq_getElem (by omega)]
  exact List.getElem_mem _
/-- rows undone, one by one -/
structure UndRows (ws vs : List (Row × Addr)) : Prop where
  len : vs.length = ws.length
  at_ : ∀ (j : Nat) (h : j < ws.length) (h' : j < vs.length), UndRow ws[j].1 vs[j].1
theorem UndRows.nms {ws vs : List (Row × Addr)} (u : UndRows ws vs) : (vs.map fun r => r.1.nm) = ws.map fun r => r.1.nm := by
  refine List.ext_getElem (by rw [List.length_map, List.length_map, u.len]) fun j h1 h2 => ?_
  rw [List.getElem_map, List.getElem_map]
  exact (u.at_ j (by simpa using h2) (by simpa using h1)).nm
theorem UndRows.snoc {ws vs : List (Row × Addr)} {r v : Row × Addr} (u : UndRows ws vs) (h : UndRow r.1 v.1) : UndRows (ws ++ [r]) (vs ++ [v]) := by
  refine ⟨by rw [List.length_append, List.length_append, u.len]; rfl, fun j h1 h2 => ?_⟩
  by_cases hj : j < ws.length
  · rw [List.getElem_append_left hj, List.getElem_append_left (by rw [u.len]; exact hj)]
    exact u.at_ j hj (by rw [u.len]; exact hj)
  · rw [List.length_append, List.length_singleton] at h1
    have e : j = ws.length := by omega
    subst e
    rw [List.getElem_append_right (Nat.le_refl _), List.getElem_append_right (by rw [u.len]; exact Nat.le_refl _)]
    simpa using h
theorem UndRows.good {n : Nat} {ws vs : List (Row × Addr)} (u : UndRows ws vs) (g : GoodM n (ws.map Prod.fst)) : GoodM n (vs.map Prod.fst) := by
  have en : (vs.map Prod.fst).map Row.nm = (ws.map Prod.fst).map Row.nm := by
    rw [List.map_map, List.map_map]
    exact u.nms
  have el : (vs.map Prod.fst).length = (ws.map Prod.fst).length := by rw [List.length_map, List.length_map, u.len]
  refine ⟨g.lo, g.hi, by rw [en]; exact g.nd, fun r hr => ?_, by rw [el]; exact g.one, by rw [el]; exact g.most, fun r hr => ?_⟩
  · obtain ⟨v, hv, rfl⟩ := List.mem_map.mp hr
    obtain ⟨j, hj, rfl⟩ := List.getElem_of_mem hv
    have hj' : j < ws.length := by rw [← u.len]; exact hj
    rw [(u.at_ j hj' hj).nm]
    exact g.nms _ (List.mem_map.mpr ⟨_, List.getElem_mem hj', rfl⟩)
  · obtain ⟨v, hv, rfl⟩ := List.mem_map.mp hr
    obtain ⟨j, hj, rfl⟩ := List.getElem_of_mem hv
    have hj' : j < ws.length := by rw [← u.len]; exact hj
    rw [en]
    exact (u.at_ j hj' hj).ok (g.ok _ (List.mem_map.mpr ⟨_, List.getElem_mem hj', rfl⟩))
def spUndone (C : Addr) : Sp := fun vs H Q _ => ∃ (x dx st td : Addr) (n : Nat) (ws : List (Row × Addr)), vs = [.ref x] ∧ MachAt C H x dx st td n ws ∧
  ∀ (H' : Hp) (o dx' st' td' : Addr) (us ws' : List (Row × Addr)), Same H H' → H o = none → MachAt C H' o dx' st' td' n ws' → UndRows ws us → ws'.Perm us → Q (.ref o) H'
section
variable {P : Program} {w : World} {K : PySem.W.Frag} {mg : Str → Option Value} {base : Heap}
theorem ok_Machine_undone (T : Tx K mg) : FnOk P w K mg base CX0 10 T.f_Machine_undone T.d_Machine_undone p_Machine_undone (spUndone T.C_Machine) := by
  refine T.F_Machine_undone.ok sc_Machine_undone (fun vs H Q E h => ?_) (fun cdv A outer s H vs Q E hr h => ?_)
  · obtain ⟨x, dx, st, td, n, ws, rfl, _⟩ := h
    rfl
  · obtain ⟨x, dx, st, td, n, ws, rfl, m, q⟩ := h
    refine ⟨_, (pss_cons (ps_set (i := 1) sc_Machine_undone.nd rfl (by first | exact Or.inl rfl | exact Or.inr rfl) pe_dnewK)
    (pss_cons (ps_for PassesOwn.never rfl (piT K (fldK K (pv 0) rfl)) (pg_name (i := 2) sc_Machine_undone.nd rfl (by first | exact Or.inl rfl | exact Or.inr rfl))
    (pss_cons (ps_asg (pe_dget (L2.hu_of hr) (fldK K (pv 0) rfl) (pv 2) (fun _ _ => rfl)) (pg_tup (by rfl) (pgs_cons (pg_name (i := 3) sc_Machine_undone.nd rfl (by first | exact Or.inl rfl | exact Or.inr rfl)) (pgs_cons (pg_name (i := 4) sc_Machine_undone.nd rfl (by first | exact Or.inl rfl | exact Or.inr rfl)) pgs_nil))))
    (pss_one (ps_dput (L2.hu_of hr) (pv 1) (pv 2) (pe_call (ok_undone_row T) (hr.mono (by decide)) rfl T.m_undone_row T.F_undone_row.kp T.b_undone_row .nil pass0 (pa_cons (pv 3) (pa_cons (pv 4) pa_nil))) rfl))))
    (pss_one (ps_ret (pe_make T.mk_Machine (ok_Machine_init T) (hr.mono (by decide)) rfl T.g_Machine T.b_Machine_init .nil pass0 (pa_cons (fldK K (pv 0) rfl) (pa_cons (pv 1) pa_nil))))))), ?_⟩
    have nd : (ws.map fun r => r.1.nm).Nodup := by
      have := m.good.nd
      rwa [List.map_map] at this
    have m8 := m.good.most
    rw [List.length_map] at m8
    refine fun D hD => ?_
    have s0 := same_new (o := HO.dK []) hD
    refine ⟨_, rfl, x, T.C_Machine, dx, _, _, rfl, s0 _ _ m.obj, T.cl_Machine, T.n_Machine_states, mF_states _ _ _, st, rfl, ⟨_, .of (s0 _ _ m.sts)⟩, for_it (walk_tup (K := K) (a := st) (xs := (ws.map fun r => r.1.nm).map V.str)) (fun i σ H' => (∃ (v2 v3 v4 : Option V) (vs : List (Row × Addr)), σ = [some (.ref x), some (.ref D), v2, v3, v4] ∧ H' D = some (.dK (vs.map fun r => ((.inr r.1.nm : Key), V.ref r.2))) ∧ UndRows (ws.take i) vs ∧
      (∀ r ∈ vs, H' r.2 = some (.tup [.ref r.1.ta, .ref r.1.xa])) ∧ (∀ r ∈ vs, H' r.1.ta = some (.tup (r.1.turn.map V.int))) ∧ (∀ r ∈ vs, H' r.1.xa = some (.tup (r.1.nexts.map V.str)))) ∧ Same H H') ?_ ?_ ?_ ?_⟩
    · refine ⟨⟨_, _, _, [], rfl, upd_same, ⟨by simp, fun j h => ?_⟩, fun r hr => absurd hr List.not_mem_nil, fun r hr => absurd hr List.not_mem_nil, fun r hr => absurd hr List.not_mem_nil⟩, s0⟩
      simp at h
    · exact fun i σ H' _ h => .of (h.2 _ _ m.sts)
    · rintro i y σ H2 H3 hi ⟨⟨v2, v3, v4, vs, rfl, hD2, uv, hp, ht, hx⟩, sm⟩ ⟨rfl, hy⟩
      rw [List.length_map, List.length_map] at hi
      obtain rfl : y = .str ws[i].1.nm := by
        rw [List.getElem?_map, List.getElem?_map, List.getElem?_eq_getElem hi] at hy
        exact (Option.some.inj hy).symm
      have m2 := m.same sm
      have hm := List.getElem_mem hi
      have gr_ := m.good.ok ws[i].1 (List.mem_map.mpr ⟨_, hm, rfl⟩)
      have get : DGet H3 td (.str ws[i].1.nm) (some (.ref ws[i].2)) := .inl ⟨_, .inr ws[i].1.nm, .inl m2.tab.top, rfl, (val_pair nd hm).symm⟩
      refine ⟨_, rfl, x, T.C_Machine, dx, _, _, rfl, m2.obj, T.cl_Machine, T.n_Machine_table, mF_table _ _ _, _, rfl, td, .ref ws[i].2, rfl, get, ws[i].2, _, rfl, .of (m2.tab.pair _ hm), rfl, _, _, rfl, _, _, rfl, rfl, ?_⟩
      refine ⟨_, rfl, _, rfl, ws[i].1.ta, ws[i].1.xa, n, ws[i].1.turn, ws[i].1.nexts, rfl, m2.tab.tt _ hm, m2.tab.xt _ hm, gr_.turn, m.good.hi, gr_.many, fun H4 p ta xa back s4 p0 hp4 hta hxa ub => ?_⟩
      have tk := take_next hi
      have fresh := not_in_take nd (k := i) (by rw [List.length_map]; exact hi)
      rw [List.getElem_map, ← List.map_take, ← uv.nms] at fresh
      have lv := uv.len
      rw [List.length_take] at lv
      have hD4 := s4 _ _ hD2
      have kd : ∀ b l o, H4 b = some (.tup l) → (upd H4 D o) b = some (.tup l) := fun b l o z => by
        rw [upd_ne (fun y => by rw [y, hD4] at z; cases z)]
        exact z
      refine ⟨_, rfl, _, rfl, D, _, rfl, DPut.k (k := .inr ws[i].1.nm) hD4 (by rw [List.length_map, sizeLine_eq]; omega), ⟨_, _, _, vs ++ [(⟨ws[i].1.nm, ta, back, xa, pick ws[i].1.nexts back⟩, p)], rfl, ?_, ?_, ?_, ?_, ?_⟩, fun b o z => by rw [upd_ne (ne_of_none z hD)]; exact s4 _ _ (sm _ _ z)⟩
      · rw [upd_same, putK_new (fun kv hk2 z => ?_), List.map_append]
        · rfl
        · obtain ⟨r2, h2, rfl⟩ := List.mem_map.mp hk2
          injection z with z
          exact fresh (List.mem_map.mpr ⟨r2, h2, z⟩)
      · rw [tk]
        exact uv.snoc ⟨rfl, ub, rfl⟩
      · intro r hr
        rcases List.mem_append.mp hr with hr | hr
        · exact kd _ _ _ (s4 _ _ (hp r hr))
        · obtain rfl := List.mem_singleton.mp hr
          exact kd _ _ _ hp4
      · intro r hr
        rcases List.mem_append.mp hr with hr | hr
        · exact kd _ _ _ (s4 _ _ (ht r hr))
        · obtain rfl := List.mem_singleton.mp hr
          exact kd _ _ _ hta
      · intro r hr
        rcases List.mem_append.mp hr with hr | hr
        · exact kd _ _ _ (s4 _ _ (hx r hr))
        · obtain rfl := List.mem_singleton.mp hr
          exact kd _ _ _ hxa
    · rintro σ H2 ⟨⟨v2, v3, v4, vs, rfl, hD2, uv, hp, ht, hx⟩, sm⟩
      rw [List.length_map, List.length_map, List.take_length] at uv
      have m2 := m.same sm
      refine ⟨_, rfl, x, T.C_Machine, dx, _, _, rfl, m2.obj, T.cl_Machine, T.n_Machine_letters, mF_letters _ _ _, _, rfl, fun o dxo o0 dxo0 ne => ?_⟩
      have s45 : Same H2 (upd (upd H2 dxo (.own o)) o (.ins T.C_Machine dxo [])) := fun b u' z => by
        rw [upd_ne (ne_of_none z o0), upd_ne (ne_of_none z dxo0)]
        exact z
      have tabv : TabAt H2 D vs := ⟨hD2, hp, ht, hx⟩
      exact ⟨o, dxo, D, n, vs, rfl, upd_same, tabv.same s45, uv.good m.good, fun H9 st' td' ws' k9 st0 td0 pw m9 => ⟨rfl, q H9 o dxo st' td' vs ws' (fun b o' z => k9 b o' (ne_of_none (sm _ _ z) o0) (s45 _ _ (sm _ _ z))) (sm.free o0) m9 uv pw⟩⟩
/-- ~m -/
theorem ok_Machine_invert (T : Tx K mg) : FnOk P w K mg base CX0 11 T.f_Machine_invert T.d_Machine_invert p_Machine_invert (spUndone T.C_Machine) := by
  refine T.F_Machine_invert.ok sc_Machine_invert (fun vs H Q E h => ?_) (fun cdv A outer s H vs Q E hr h => ?_)
  · obtain ⟨x, dx, st, td, n, ws, rfl, _⟩ := h
    rfl
  · obtain ⟨x, dx, st, td, n, ws, rfl, m, q⟩ := h
    refine ⟨_, (pss_one (ps_ret (pe_meth0 (pl := _) (pv 0) T.cl_Machine T.mt_Machine_undone (ok_Machine_undone T) (hr.mono (by decide)) T.b_Machine_undone .nil pass0))), ?_⟩
    exact ⟨_, rfl, x, dx, _, rfl, m.obj, mF_no _ _ _ (by decide) (by decide) (by decide), x, dx, st, td, n, ws, rfl, m, q⟩
end
end My

set_option Elab.async false
set_option linter.all false
set_option maxRecDepth 100000
set_option maxHeartbeats 4000000
/-! texts of digits, and where a table of rows leads them -/
namespace My
open PySem PySem.Spec PyProof.Rows L2
def dig (d : Nat) : Str := ⟨#[48 + d]⟩
def digS (ds : List Nat) : Str := ⟨(ds.map fun d => 48 + d).toArray⟩
theorem digS_len (ds : List Nat) : (digS ds).length = ds.length := by simp [digS, Str.length]
theorem digS_app (a b : List Nat) : digS a ++ digS b = digS (a ++ b) := by
  show Str.mk _ = Str.mk _
  simp [digS]
theorem joinS_digs : ∀ ds : List Nat, Str.join "" (ds.map dig) = digS ds
  | [] => rfl
  | [d] => rfl
  | d :: e :: r => by
    have ih := joinS_digs (e :: r)
    show dig d ++ "" ++ Str.join "" ((e :: r).map dig) = _
    rw [ih, show dig d ++ "" = digS [d] from rfl, digS_app]
    rfl
theorem join_digs (ds : List Nat) : Txt.join "" (ds.map dig) = digS ds := by
  show Builtin.Str.glued "" (ds.map dig) = _
  rw [StrLaws.glued_eq_join]
  exact joinS_digs ds
theorem str_dig : ∀ {d : Nat}, d < 10 → Str.ofString (toString (d : Int)) = dig d
  | 0, _ => by decide +kernel
  | 1, _ => by decide +kernel
  | 2, _ => by decide +kernel
  | 3, _ => by decide +kernel
  | 4, _ => by decide +kernel
  | 5, _ => by decide +kernel
  | 6, _ => by decide +kernel
  | 7, _ => by decide +kernel
  | 8, _ => by decide +kernel
  | 9, _ => by decide +kernel
  | d + 10, h => by omega
theorem int_dig : ∀ {d : Nat}, d < 10 → PySem.intText? (dig d) = some (d : Int)
  | 0, _ => by decide +kernel
  | 1, _ => by decide +kernel
  | 2, _ => by decide +kernel
  | 3, _ => by decide +kernel
  | 4, _ => by decide +kernel
  | 5, _ => by decide +kernel
  | 6, _ => by decide +kernel
  | 7, _ => by decide +kernel
  | 8, _ => by decide +kernel
  | 9, _ => by decide +kernel
  | d + 10, h => by omega
/-! ### a table of rows, and where it leads -/
abbrev Tri := Str × List Int × List Str
def triOf (r : Row) : Tri := (r.nm, r.turn, r.nexts)
def rowAt (t : List Tri) (p : Str) : Tri := (t.find? fun r => decide (r.1 = p)).getD (Str.empty, [], [])
def ledStep (t : List Tri) (s : List Nat × Str) (d : Nat) : List Nat × Str := (s.1 ++ [((rowAt t s.2).2.1.getD d 0).toNat], (rowAt t s.2).2.2.getD d Str.empty)
def led (t : List Tri) (p : Str) (ds : List Nat) : List Nat × Str := ds.foldl (ledStep t) ([], p)
theorem led_snoc (t : List Tri) (p : Str) (ds : List Nat) (d : Nat) : led t p (ds ++ [d]) = ledStep t (led t p ds) d := by
  unfold led
  rw [List.foldl_append]
  rfl
theorem led_from (t : List Tri) : ∀ (ds acc : List Nat) (p : Str), ds.foldl (ledStep t) (acc, p) = (acc ++ (led t p ds).1, (led t p ds).2)
  | [], acc, p => by
    show (acc, p) = (acc ++ [], p)
    rw [List.append_nil]
  | d :: ds, acc, p => by
    show ds.foldl (ledStep t) (ledStep t (acc, p) d) = _
    have e1 := led_from t ds (acc ++ [((rowAt t p).2.1.getD d 0).toNat]) ((rowAt t p).2.2.getD d Str.empty)
    have e2 := led_from t ds [((rowAt t p).2.1.getD d 0).toNat] ((rowAt t p).2.2.getD d Str.empty)
    have e3 : led t p (d :: ds) = ds.foldl (ledStep t) ([((rowAt t p).2.1.getD d 0).toNat], (rowAt t p).2.2.getD d Str.empty) := rfl
    rw [e3, e2]
    show ds.foldl (ledStep t) (acc ++ [((rowAt t p).2.1.getD d 0).toNat], (rowAt t p).2.2.getD d Str.empty) = _
    rw [e1, List.append_assoc]
theorem led_cons (t : List Tri) (p : Str) (d : Nat) (ds : List Nat) : led t p (d :: ds) = (((rowAt t p).2.1.getD d 0).toNat :: (led t ((rowAt t p).2.2.getD d Str.empty) ds).1, (led t ((rowAt t p).2.2.getD d Str.empty) ds).2) :=
  led_from t ds [((rowAt t p).2.1.getD d 0).toNat] ((rowAt t p).2.2.getD d Str.empty)
theorem led_len (t : List Tri) (ds : List Nat) (p : Str) : (led t p ds).1.length = ds.length := by
  induction ds generalizing p with
  | nil => rfl
  | cons d ds ih => rw [led_cons, List.length_cons, List.length_cons, ih]
theorem row_at {rs : List Row} {r : Row} (nd : (rs.map Row.nm).Nodup) (hr : r ∈ rs) : rowAt (rs.map triOf) r.nm = triOf r := by
  unfold rowAt
  induction rs with
  | nil => cases hr
  | cons q rs ih =>
    rw [List.map_cons] at nd
    obtain ⟨n1, n2⟩ := List.nodup_cons.mp nd
    rw [List.map_cons, List.find?_cons]
    by_cases e : q.nm = r.nm
    · rw [show decide ((triOf q).1 = r.nm) = true from decide_eq_true e]
      rcases List.mem_cons.mp hr with rfl | hr
      · rfl
      · exact absurd (List.mem_map.mpr ⟨r, hr, e.symm⟩) n1
    · rw [show decide ((triOf q).1 = r.nm) = false from decide_eq_false e]
      rcases List.mem_cons.mp hr with rfl | hr
      · exact absurd rfl e
      · exact ih n2 hr
/-- what a letter is led to, in a good table -/
theorem row_step {n : Nat} {rs : List Row} {r : Row} {d : Nat} (g : GoodM n rs) (hr : r ∈ rs) (hd : d < n) :
    ∃ (e : Nat) (h1 : d < r.turn.length) (h2 : d < r.nexts.length), r.turn[d] = (e : Int) ∧ e < n ∧ ((rowAt (rs.map triOf) r.nm).2.1.getD d 0).toNat = e ∧ (rowAt (rs.map triOf) r.nm).2.2.getD d Str.empty = r.nexts[d] ∧ r.nexts[d] ∈ rs.map Row.nm := by
  have rk := g.ok r hr
  have lt : r.turn.length = n := by rw [rk.turn.length_eq]; exact upto_len n
  have h1 : d < r.turn.length := by omega
  have h2 : d < r.nexts.length := by rw [rk.many]; exact hd
  obtain ⟨e0, en⟩ := mem_upto.mp (rk.turn.mem_iff.mp (List.getElem_mem h1))
  refine ⟨r.turn[d].toNat, h1, h2, by omega, by omega, ?_, ?_, rk.among _ (List.getElem_mem h2)⟩
  · rw [row_at g.nd hr]
    show (r.turn.getD d 0).toNat = _
    rw [List.getD_eq_getElem?_getD, List.getElem?_eq_getElem h1]
    rfl
  · rw [row_at g.nd hr]
    show r.nexts.getD d Str.empty = _
    rw [List.getD_eq_getElem?_getD, List.getElem?_eq_getElem h2]
    rfl
end My

set_option Elab.async false
set_option linter.all false
set_option maxRecDepth 100000
set_option maxHeartbeats 8000000
namespace My
open PySem PySem.Spec PyProof.Rows L2
def tris (ws : List (Row × Addr)) : List Tri := (ws.map Prod.fst).map triOf
def spLed : Sp := fun vs H Q _ => ∃ (d : Addr) (n : Nat) (ws : List (Row × Addr)) (p : Str) (ds : List Nat), vs = [.ref d, .str p, .str (digS ds)] ∧ TabAt H d ws ∧ GoodM n (ws.map Prod.fst) ∧ p ∈ (ws.map Prod.fst).map Row.nm ∧ (∀ d ∈ ds, d < n) ∧ ds.length ≤ 200 ∧
  ∀ (H' : Hp) (t : Addr), Same H H' → H t = none → H' t = some (.tup [.str (digS (led (tris ws) p ds).1), .str (led (tris ws) p ds).2]) → Q (.ref t) H'
section
variable {P : Program} {w : World} {K : PySem.W.Frag} {mg : Str → Option Value} {base : Heap}
theorem led_ok {n : Nat} {rs : List Row} (g : GoodM n rs) : ∀ {ds : List Nat} {p : Str}, p ∈ rs.map Row.nm → (∀ d ∈ ds, d < n) → (∀ e ∈ (led (rs.map triOf) p ds).1, e < n) ∧ (led (rs.map triOf) p ds).2 ∈ rs.map Row.nm
  | [], p, hp, _ => ⟨fun e he => absurd he List.not_mem_nil, hp⟩
  | d :: ds, p, hp, hd => by
    obtain ⟨r, hr, rfl⟩ := List.mem_map.mp hp
    obtain ⟨e, h1, h2, e1, e2, e3, e4, e5⟩ := row_step g hr (hd d List.mem_cons_self)
    rw [led_cons, e3, e4]
    obtain ⟨i1, i2⟩ := led_ok g (ds := ds) e5 fun x hx => hd x (List.mem_cons_of_mem _ hx)
    refine ⟨fun x hx => ?_, i2⟩
    rcases List.mem_cons.mp hx with rfl | hx
    · exact e2
    · exact i1 x hx
theorem ok_led_from (T : Tx K mg) : FnOk P w K mg base CX0 1 T.f_led_from T.d_led_from p_led_from spLed := by
  refine T.F_led_from.ok sc_led_from (fun vs H Q E h => ?_) (fun cdv A outer s H vs Q E hr h => ?_)
  · obtain ⟨d, n, ws, p, ds, rfl, _⟩ := h
    rfl
  · obtain ⟨d, n, ws, p, ds, rfl, tb, gd, hp, hds, l200, q⟩ := h
    refine ⟨_, (pss_cons (ps_set (i := 3) sc_led_from.nd rfl (by first | exact Or.inl rfl | exact Or.inr rfl) (pe_lst pa_nil))
    (pss_cons (ps_for PassesOwn.never rfl (pi_str (pv 2)) (pg_name (i := 4) sc_led_from.nd rfl (by first | exact Or.inl rfl | exact Or.inr rfl))
    (pss_cons (ps_asg (pe_dget (L2.hu_of hr) (pv 0) (pv 1) (fun _ _ => rfl)) (pg_tup (by rfl) (pgs_cons (pg_name (i := 5) sc_led_from.nd rfl (by first | exact Or.inl rfl | exact Or.inr rfl)) (pgs_cons (pg_name (i := 6) sc_led_from.nd rfl (by first | exact Or.inl rfl | exact Or.inr rfl)) pgs_nil))))
    (pss_cons (ps_set (i := 7) sc_led_from.nd rfl (by first | exact Or.inl rfl | exact Or.inr rfl) (pe_callTy call_int_str (by rfl) T.int (by decide +kernel) (pa_cons (pv 4) pa_nil)))
    (pss_cons (ps_expr (bmK K PySem.F.plainAttrs_list PySem.F.slot_list_append PySem.F.type_list_append mt_append (by exact (pv 3)) (by exact (pa_cons (pe_callTy call_str_int (by rfl) T.str (by decide +kernel) (pa_cons (pe_ix (ixT K) (pv 5) (pv 7) (fun _ _ => rfl)) pa_nil)) pa_nil))))
    (pss_one (ps_set (i := 1) sc_led_from.nd rfl (by first | exact Or.inl rfl | exact Or.inr rfl) (pe_ix (ixT K) (pv 6) (pv 7) (fun _ _ => rfl))))))))
    (pss_one (ps_ret (pe_tup (pa_cons (pe_join pe_str (pv 3)) (pa_cons (pv 1) pa_nil))))))), ?_⟩
    refine ⟨by show 0 ≤ sizeLine; decide, fun S hS => ?_⟩
    have nd : (ws.map fun r => r.1.nm).Nodup := by
      have := gd.nd
      rwa [List.map_map] at this
    refine ⟨_, rfl, _, rfl, for_it walk_signs (fun i σ H' => (∃ (v4 v5 v6 v7 : Option V), σ = [some (.ref d), some (.str (led (tris ws) p (ds.take i)).2), some (.str (digS ds)), some (.ref S), v4, v5, v6, v7]) ∧ H' S = some (.lst (((led (tris ws) p (ds.take i)).1.map dig).map V.str)) ∧ Same H H') ⟨⟨_, _, _, _, rfl⟩, upd_same, same_new hS⟩ (fun _ _ _ _ _ => trivial) ?_ ?_⟩
    · rintro i y σ H2 H3 hi ⟨⟨v4, v5, v6, v7, rfl⟩, hS2, sm⟩ ⟨rfl, hy⟩
      rw [signs_len, digS_len] at hi
      obtain rfl : y = .str (dig ds[i]) := by
        have e : signs (digS ds) = ds.map fun d => V.str (dig d) := by
          show ((ds.map fun d => 48 + d).toArray.toList).map _ = _
          rw [List.map_map]
          rfl
        rw [e, List.getElem?_map, List.getElem?_eq_getElem hi] at hy
        exact (Option.some.inj hy).symm
      have tk := take_next hi
      have pk := (led_ok gd (ds := ds.take i) hp fun d hd => hds d (List.mem_of_mem_take hd))
      have lk := led_len (tris ws) (ds.take i) p
      rw [List.length_take] at lk
      have hdn := hds _ (List.getElem_mem hi)
      have sn : led (tris ws) p (ds.take (i + 1)) = ledStep (tris ws) (led (tris ws) p (ds.take i)) ds[i] := by rw [tk]; exact led_snoc _ _ _ _
      obtain ⟨r, hr, er⟩ := List.mem_map.mp pk.2
      obtain ⟨wr, hw, rfl⟩ := List.mem_map.mp hr
      obtain ⟨e, h1, h2, e1, e2, e3, e4, e5⟩ := row_step gd hr hdn
      rw [sn]
      have er : wr.1.nm = (led (tris ws) p (ds.take i)).2 := er
      have e3 : ((rowAt (tris ws) wr.1.nm).2.1.getD ds[i] 0).toNat = e := e3
      have e4 : (rowAt (tris ws) wr.1.nm).2.2.getD ds[i] Str.empty = wr.1.nexts[ds[i]] := e4
      clear pk sn
      generalize led (tris ws) p (ds.take i) = L at *
      obtain ⟨es, pi⟩ := L
      have er : wr.1.nm = pi := er
      subst er
      have tb3 := tb.same sm
      have get : DGet H3 d (.str wr.1.nm) (some (.ref wr.2)) := .inl ⟨_, .inr wr.1.nm, .inl tb3.top, rfl, (val_pair nd hw).symm⟩
      refine ⟨_, rfl, _, rfl, d, .ref wr.2, rfl, get, wr.2, _, rfl, .of (tb3.pair _ hw), rfl, _, _, rfl, _, _, rfl, rfl, ?_⟩
      refine ⟨_, rfl, _, ds[i], rfl, int_dig (by have := gd.hi; omega), by show 1 ≤ 640; decide, ?_⟩
      refine ⟨_, rfl, .inl ⟨rfl, _, .of hS2⟩, _, rfl, _, rfl, wr.1.ta, _, (ds[i] : Nat), .int e, rfl, rfl, .of (tb3.tt _ hw), at_of (j := ds[i]) (by omega) (by rw [List.getElem?_map, List.getElem?_eq_getElem h1, e1]; rfl), (e : Nat), rfl, small_log (by omega) (by have := gd.hi; omega), S, _, _, rfl, rfl, hS2, by rw [List.length_map, List.length_map, sizeLine_eq]; show es.length + 1 ≤ _; have lk : es.length = _ := lk; omega, ?_⟩
      refine ⟨_, rfl, _, rfl, wr.1.xa, _, (ds[i] : Nat), .str wr.1.nexts[ds[i]], rfl, rfl, .of ((same_put sm hS) _ _ (tb.xt _ hw)), at_of (j := ds[i]) (by omega) (by rw [List.getElem?_map, List.getElem?_eq_getElem h2]; rfl), ⟨some (.str (dig ds[i])), some (.ref wr.1.ta), some (.ref wr.1.xa), some (.int (ds[i] : Nat)), ?_⟩, ?_, same_put sm hS⟩
      · have e : (ledStep (tris ws) (es, wr.1.nm) ds[i]).2 = wr.1.nexts[ds[i]] := e4
        rw [e]
        rfl
      · show upd _ S _ S = some (.lst (((es ++ [((rowAt (tris ws) wr.1.nm).2.1.getD ds[i] 0).toNat]).map dig).map V.str))
        rw [e3, upd_same, List.map_append, List.map_append, str_dig (by have := gd.hi; omega)]
        rfl
    · rintro σ H2 ⟨⟨v4, v5, v6, v7, rfl⟩, hS2, sm⟩
      have hS2 : H2 S = some (.lst (((led (tris ws) p (ds.take (signs (digS ds)).length)).1.map dig).map V.str)) := hS2
      rw [signs_len, digS_len, List.take_length] at hS2 ⊢
      have lk := led_len (tris ws) ds p
      refine ⟨⟨_, rfl⟩, _, rfl, _, S, _, rfl, rfl, .inl (.of hS2), ?_, _, rfl, by show 2 ≤ sizeLine; decide, fun t ht => ?_⟩
      · have : (((led (tris ws) p ds).1.map dig).map fun x => x.length).sum ≤ 200 := by
          rw [List.map_map]
          have := sum_map_le (f := (fun x : Str => x.length) ∘ dig) (c := 1) (l := (led (tris ws) p ds).1) fun x _ => Nat.le_refl 1
          omega
        rw [show (Str.ofString "").length = 0 from rfl]
        omega
      · rw [join_digs]
        exact q _ t (sm.trans (same_new ht)) (sm.free ht) upd_same
def spCheckText : Sp := fun vs H Q _ => ∃ (n : Nat) (ds : List Nat), vs = [.int n, .str (digS ds)] ∧ 2 ≤ n ∧ n ≤ 4 ∧ (∀ d ∈ ds, d < n) ∧ ds.length ≤ 200 ∧ ∀ H', Same H H' → Q .non H'
theorem digS_text {n : Nat} {ds : List Nat} (h : ∀ d ∈ ds, d < n) (l : ds.length ≤ 200) : textB n (.str (digS ds)) = true := by
  show (decide ((digS ds).length ≤ 200) && signB 48 (47 + n) (.str (digS ds))) = true
  rw [digS_len, decide_eq_true l, Bool.true_and]
  show ((ds.map fun d => 48 + d).toArray.toList).all _ = true
  rw [List.all_eq_true]
  intro c hc
  obtain ⟨d, hd, rfl⟩ := List.mem_map.mp hc
  have := h d hd
  rw [Bool.and_eq_true]
  exact ⟨decide_eq_true (by omega), decide_eq_true (by omega)⟩
theorem ok_check_text (T : Tx K mg) : FnOk P w K mg base CX0 6 T.f_check_text T.d_check_text p_check_text spCheckText := by
  refine T.F_check_text.ok sc_check_text (fun vs H Q E h => ?_) (fun cdv A outer s H vs Q E hr h => ?_)
  · obtain ⟨n, ds, rfl, _⟩ := h
    rfl
  · obtain ⟨n, ds, rfl, n2, n4, hds, l200, q⟩ := h
    refine ⟨_, (pss_one (ps_if (pt_not (pt_val (pe_call (ok_is_text T) (hr.mono (by decide)) rfl T.m_is_text T.F_is_text.kp T.b_is_text .nil passL (pa_cons (pv 0) (pa_cons (pv 1) pa_nil)))))
      (pss_one ps_never)
      pss_nil)), ?_⟩
    have asc : ∀ c ∈ (digS ds).cps.toList, c < 128 := fun c hc => by
      obtain ⟨d, hd, rfl⟩ := List.mem_map.mp (show c ∈ ds.map fun d => 48 + d from hc)
      have := hds d hd
      omega
    refine ⟨_, rfl, _, rfl, .int n, .str (digS ds), rfl, .int n, .str _ (by rw [digS_len]; omega) asc, fun n' e _ H1 s1 => ?_, fun hb => ?_⟩
    · obtain rfl : n = n' := by injection e with e; omega
      rw [digS_text hds l200]
      exact ⟨true, rfl, iteF (q H1 s1)⟩
    · have hb : (decide ((2 : Int) ≤ (n : Int)) && decide ((n : Int) ≤ 4)) = false := hb
      rw [decide_eq_true (by omega : (2 : Int) ≤ (n : Int)), decide_eq_true (by omega : (n : Int) ≤ 4)] at hb
      cases hb
def spStep (C : Addr) : Sp := fun vs H Q _ => ∃ (x dx st td : Addr) (n : Nat) (ws : List (Row × Addr)) (p : Str) (ds : List Nat), vs = [.ref x, .str p, .str (digS ds)] ∧ MachAt C H x dx st td n ws ∧ p ∈ (ws.map Prod.fst).map Row.nm ∧ (∀ d ∈ ds, d < n) ∧ ds.length ≤ 200 ∧
  ∀ (H' : Hp) (t : Addr), Same H H' → H t = none → H' t = some (.tup [.str (digS (led (tris ws) p ds).1), .str (led (tris ws) p ds).2]) → Q (.ref t) H'
theorem ok_Machine_step (T : Tx K mg) : FnOk P w K mg base CX0 7 T.f_Machine_step T.d_Machine_step p_Machine_step (spStep T.C_Machine) := by
  refine T.F_Machine_step.ok sc_Machine_step (fun vs H Q E h => ?_) (fun cdv A outer s H vs Q E hr h => ?_)
  · obtain ⟨x, dx, st, td, n, ws, p, ds, rfl, _⟩ := h
    rfl
  · obtain ⟨x, dx, st, td, n, ws, p, ds, rfl, m, hp, hds, l200, q⟩ := h
    refine ⟨_, (pss_cons (ps_expr (pe_call (ok_check_state T) (hr.mono (by decide)) rfl T.m_check_state T.F_check_state.kp T.b_check_state .nil pass0 (pa_cons (pv 0) (pa_cons (pv 1) pa_nil))))
    (pss_cons (ps_expr (pe_call (ok_check_text T) (hr.mono (by decide)) rfl T.m_check_text T.F_check_text.kp T.b_check_text .nil pass0 (pa_cons (fldK K (pv 0) rfl) (pa_cons (pv 2) pa_nil))))
    (pss_one (ps_ret (pe_call (ok_led_from T) (hr.mono (by decide)) rfl T.m_led_from T.F_led_from.kp T.b_led_from .nil pass0 (pa_cons (fldK K (pv 0) rfl) (pa_cons (pv 1) (pa_cons (pv 2) pa_nil)))))))), ?_⟩
    obtain ⟨r, hr, rfl⟩ := List.mem_map.mp hp
    obtain ⟨wr, hw, rfl⟩ := List.mem_map.mp hr
    refine ⟨_, rfl, _, rfl, x, dx, st, td, n, ws, wr, rfl, m, hw, ?_⟩
    refine ⟨_, rfl, x, T.C_Machine, dx, _, _, rfl, m.obj, T.cl_Machine, T.n_Machine_letters, mF_letters _ _ _, _, rfl, n, ds, rfl, m.good.lo, m.good.hi, hds, l200, fun H1 s1 => ?_⟩
    have m1 := m.same s1
    exact ⟨_, rfl, x, T.C_Machine, dx, _, _, rfl, m1.obj, T.cl_Machine, T.n_Machine_table, mF_table _ _ _, _, rfl, _, rfl, td, n, ws, wr.1.nm, ds, rfl, m1.tab, m1.good, hp, hds, l200, fun H2 t s2 t0 ht => q H2 t (s1.trans s2) (s1.free t0) ht⟩
end
end My

set_option Elab.async false
set_option linter.all false
set_option maxRecDepth 100000
set_option maxHeartbeats 4000000
/-! tables that are written out -/
namespace My
open PySem PySem.Spec PyProof.Rows L2
def trisR (rs : List Row) : List Tri := rs.map triOf
def goodT (n : Nat) (t : List Tri) : Bool :=
  decide (2 ≤ n) && decide (n ≤ 4) && decide ((t.map (·.1)).Nodup) && (t.map (·.1)).all (fun z => decide (z ∈ ALLN)) && decide (1 ≤ t.length) && decide (t.length ≤ 8) &&
  t.all (fun r => decide (r.2.1.Perm (upto n)) && decide (r.2.2.length = n) && r.2.2.all (fun z => decide (z ∈ t.map (·.1))))
theorem good_of {n : Nat} {rs : List Row} (h : goodT n (rs.map triOf) = true) : GoodM n rs := by
  have en : ((rs.map triOf).map (·.1)) = rs.map Row.nm := by rw [List.map_map]; rfl
  unfold goodT at h
  rw [en] at h
  simp only [Bool.and_eq_true, decide_eq_true_eq, List.all_eq_true, List.length_map] at h
  obtain ⟨⟨⟨⟨⟨⟨h1, h2⟩, h3⟩, h4⟩, h5⟩, h6⟩, h7⟩ := h
  refine ⟨h1, h2, h3, fun r hr => h4 _ (List.mem_map.mpr ⟨r, hr, rfl⟩), h5, h6, fun r hr => ?_⟩
  obtain ⟨⟨a, b⟩, c⟩ := h7 _ (List.mem_map.mpr ⟨r, hr, rfl⟩)
  exact ⟨a, b, c⟩
theorem key_inj {α β : Type} {f : α → β} : ∀ {m : List α} {a b : α}, (m.map f).Nodup → a ∈ m → b ∈ m → f a = f b → a = b
  | [], a, b, _, h, _, _ => by cases h
  | x :: m, a, b, nd, ha, hb, e => by
    rw [List.map_cons] at nd
    obtain ⟨n1, n2⟩ := List.nodup_cons.mp nd
    rcases List.mem_cons.mp ha with rfl | ha
    · rcases List.mem_cons.mp hb with rfl | hb
      · rfl
      · exact absurd (List.mem_map.mpr ⟨b, hb, e.symm⟩) n1
    · rcases List.mem_cons.mp hb with hb | hb
      · rw [hb] at e
        exact absurd (List.mem_map.mpr ⟨a, ha, e⟩) n1
      · exact key_inj n2 ha hb e
theorem keys_eq {α β : Type} {f : α → β} {l m : List α} (p : l.Perm m) (e : l.map f = m.map f) (nd : (m.map f).Nodup) : l = m := by
  have ll := p.length_eq
  refine List.ext_getElem ll fun i h1 h2 => ?_
  refine key_inj nd (p.mem_iff.mp (List.getElem_mem h1)) (List.getElem_mem h2) ?_
  have := congrArg (fun x => x[i]?) e
  simp only [List.getElem?_map, List.getElem?_eq_getElem h1, List.getElem?_eq_getElem h2, Option.map_some] at this
  exact Option.some.inj this
/-- rows that lie in the heap -/
structure Laid (H : Hp) (ws : List (Row × Addr)) : Prop where
  pair : ∀ r ∈ ws, H r.2 = some (.tup [.ref r.1.ta, .ref r.1.xa])
  tt : ∀ r ∈ ws, H r.1.ta = some (.tup (r.1.turn.map V.int))
  xt : ∀ r ∈ ws, H r.1.xa = some (.tup (r.1.nexts.map V.str))
theorem Laid.nil {H : Hp} : Laid H [] := ⟨fun r h => absurd h List.not_mem_nil, fun r h => absurd h List.not_mem_nil, fun r h => absurd h List.not_mem_nil⟩
theorem Laid.same {H H' : Hp} {ws : List (Row × Addr)} (l : Laid H ws) (s : Same H H') : Laid H' ws := ⟨fun r h => s _ _ (l.pair r h), fun r h => s _ _ (l.tt r h), fun r h => s _ _ (l.xt r h)⟩
theorem Laid.add {H : Hp} {ws : List (Row × Addr)} {r : Row} {W : Addr} (l : Laid H ws) (hp : H W = some (.tup [.ref r.ta, .ref r.xa])) (ht : H r.ta = some (.tup (r.turn.map V.int))) (hx : H r.xa = some (.tup (r.nexts.map V.str))) : Laid H (ws ++ [(r, W)]) := by
  refine ⟨fun q h => ?_, fun q h => ?_, fun q h => ?_⟩ <;> rcases List.mem_append.mp h with h | h
  · exact l.pair q h
  · obtain rfl := List.mem_singleton.mp h
    exact hp
  · exact l.tt q h
  · obtain rfl := List.mem_singleton.mp h
    exact ht
  · exact l.xt q h
  · obtain rfl := List.mem_singleton.mp h
    exact hx
theorem Laid.dict {H : Hp} {ws : List (Row × Addr)} {e : Addr} {kvs : List (Key × V)} {o : HO} (l : Laid H ws) (he : H e = some (.dK kvs)) : Laid (upd H e o) ws := by
  have kd : ∀ b l, H b = some (.tup l) → (upd H e o) b = some (.tup l) := fun b l z => by
    rw [upd_ne (fun y => by rw [y, he] at z; cases z)]
    exact z
  exact ⟨fun r h => kd _ _ (l.pair r h), fun r h => kd _ _ (l.tt r h), fun r h => kd _ _ (l.xt r h)⟩
end My

set_option Elab.async false
set_option linter.all false
set_option maxRecDepth 100000
set_option maxHeartbeats 8000000
namespace My
open PySem PySem.Spec PyProof.Rows L2
def spMade (C : Addr) (n : Nat) (t : List Tri) : Sp := fun vs H Q _ => vs = [] ∧ ∀ (H' : Hp) (o dx st td : Addr) (ws : List (Row × Addr)), Same H H' → H o = none → MachAt C H' o dx st td n ws → tris ws = t → Q (.ref o) H'
def spMadeN (C : Addr) (t : Nat → List Tri) : Sp := fun vs H Q _ => ∃ n : Nat, vs = [.int n] ∧ 2 ≤ n ∧ n ≤ 4 ∧ ∀ (H' : Hp) (o dx st td : Addr) (ws : List (Row × Addr)), Same H H' → H o = none → MachAt C H' o dx st td n ws → tris ws = t n → Q (.ref o) H'
def grayT : List Tri := [("a", [1, 0], ["e", "e"]), ("b", [0, 1], ["b", "a"]), ("e", [0, 1], ["e", "e"])]
def towersT : List Tri := [("a", [1, 0, 2], ["e", "e", "a"]), ("b", [2, 1, 0], ["e", "b", "e"]), ("c", [0, 2, 1], ["c", "e", "e"]), ("e", [0, 1, 2], ["e", "e", "e"])]
def foldedT : List Tri := [("a", [1, 0], ["e", "b"]), ("b", [0, 1], ["e", "a"]), ("e", [0, 1], ["e", "e"])]
def addN (n : Nat) : List Int := (List.range n).map fun (k : Nat) => ((k : Int) + 1) % (n : Int)
def behN (n : Nat) : List Str := (List.range n).map fun (k : Nat) => if (k : Int) = (n : Int) - 1 then "a" else "e"
def countT (n : Nat) : List Tri := [("a", addN n, behN n), ("e", upto n, List.replicate n "e")]
theorem gray_good : goodT 2 grayT = true ∧ sortedS (grayT.map (·.1)) = true := by decide +kernel
theorem towers_good : goodT 3 towersT = true ∧ sortedS (towersT.map (·.1)) = true := by decide +kernel
theorem folded_good : goodT 2 foldedT = true ∧ sortedS (foldedT.map (·.1)) = true := by decide +kernel
theorem count_good : ∀ n : Nat, n = 2 ∨ n = 3 ∨ n = 4 → goodT n (countT n) = true ∧ sortedS ((countT n).map (·.1)) = true
  | _, .inl rfl => by decide +kernel
  | _, .inr (.inl rfl) => by decide +kernel
  | _, .inr (.inr rfl) => by decide +kernel
theorem tris_nms (ws : List (Row × Addr)) : (tris ws).map (·.1) = ws.map fun r => r.1.nm := by
  unfold tris
  rw [List.map_map, List.map_map]
  rfl
theorem mach_tris {C : Addr} {H : Hp} {x dx st td : Addr} {n : Nat} {ws ws' : List (Row × Addr)} (m : MachAt C H x dx st td n ws') (p : ws'.Perm ws) (s : sortedS ((tris ws).map (·.1)) = true) : ws' = ws := by
  rw [tris_nms] at s
  have e := sorted_unique (p.map fun r => r.1.nm) m.srt s
  refine keys_eq p e ?_
  rw [← e]
  have := m.good.nd
  rwa [List.map_map] at this
theorem row_laid {H : Hp} {A B W : Addr} {l z : List V} (hA : H A = none) (hB : (upd H A (.tup l)) B = none) (hW : (upd (upd H A (.tup l)) B (.tup z)) W = none) :
    Same H (upd (upd (upd H A (.tup l)) B (.tup z)) W (.tup [.ref A, .ref B])) ∧ (upd (upd (upd H A (.tup l)) B (.tup z)) W (.tup [.ref A, .ref B])) A = some (.tup l) ∧
    (upd (upd (upd H A (.tup l)) B (.tup z)) W (.tup [.ref A, .ref B])) B = some (.tup z) ∧ (upd (upd (upd H A (.tup l)) B (.tup z)) W (.tup [.ref A, .ref B])) W = some (.tup [.ref A, .ref B]) :=
  ⟨((same_new hA).trans (same_new hB)).trans (same_new hW), same_new hW _ _ (same_new hB _ _ upd_same), same_new hW _ _ upd_same, upd_same⟩
theorem Laid.tab {H : Hp} {ws : List (Row × Addr)} {e : Addr} (l : Laid H ws) (he : H e = some (.dK [])) (nd : (ws.map fun r => r.1.nm).Nodup) : TabAt (upd H e (.dK (mergeK [] (ws.map fun r => ((.inr r.1.nm : Key), V.ref r.2))))) e ws := by
  have m : mergeK [] (ws.map fun r => ((.inr r.1.nm : Key), V.ref r.2)) = ws.map fun r => ((.inr r.1.nm : Key), V.ref r.2) := by
    rw [merge_apart, List.nil_append]
    rw [List.nil_append, List.map_map]
    have : ((fun x : Key × V => x.1) ∘ fun (r : Row × Addr) => ((.inr r.1.nm : Key), V.ref r.2)) = (Sum.inr : Str → Key) ∘ fun r => r.1.nm := rfl
    rw [this, ← List.map_map, List.nodup_iff_pairwise_ne]
    exact List.Pairwise.map _ (fun a b h z => h (Sum.inr.inj z)) (List.nodup_iff_pairwise_ne.mp nd)
  rw [m]
  have l2 := l.dict (o := .dK (ws.map fun r => ((.inr r.1.nm : Key), V.ref r.2))) he
  exact ⟨upd_same, l2.pair, l2.tt, l2.xt⟩
def spIdle : Sp := fun vs H Q _ => ∃ n : Nat, vs = [.int n] ∧ 2 ≤ n ∧ n ≤ 4 ∧ ∀ (H' : Hp) (p ta xa : Addr), Same H H' → H p = none → H' p = some (.tup [.ref ta, .ref xa]) → H' ta = some (.tup ((upto n).map V.int)) → H' xa = some (.tup ((List.replicate n (Str.ofString "e")).map V.str)) → Q (.ref p) H'
section
variable {P : Program} {w : World} {K : PySem.W.Frag} {mg : Str → Option Value} {base : Heap}
theorem ok_idle_row (T : Tx K mg) : FnOk P w K mg base CX0 1 T.f_idle_row T.d_idle_row p_idle_row spIdle := by
  refine T.F_idle_row.ok sc_idle_row (fun vs H Q E h => ?_) (fun cdv A outer s H vs Q E hr h => ?_)
  · obtain ⟨n, rfl, _⟩ := h
    rfl
  · obtain ⟨n, rfl, n2, n4, q⟩ := h
    refine ⟨_, (pss_one (ps_ret (pe_tup (pa_cons (pe_tupRg rfl rfl T.tuple (prg_1 rfl T.range (pv 0))) (pa_cons (pe_op (repT K) (pe_tup (pa_cons pe_str pa_nil)) (pv 0)) pa_nil))))), ?_⟩
    refine ⟨_, rfl, n, rfl, ⟨by omega, by omega, by omega, by omega, by omega⟩, fun ta hta => ?_⟩
    have sa := same_new (o := HO.tup (rgV 0 n)) hta
    have ha := upd_same (H := H) (a := ta) (o := HO.tup (rgV 0 n))
    generalize upd H ta (HO.tup (rgV 0 n)) = H1 at sa ha ⊢
    refine ⟨by show 1 ≤ sizeLine; decide, fun w hw => ?_⟩
    have sw := same_new (o := HO.tup [V.str "e"]) hw
    have hw1 := upd_same (H := H1) (a := w) (o := HO.tup [V.str "e"])
    generalize upd H1 w (HO.tup [V.str "e"]) = H2 at sw hw1 ⊢
    refine ⟨_, rfl, w, n, [.str "e"], rfl, rfl, .of hw1, by simp, by omega, by omega, by show 1 ≤ 1000; decide, fun xa hxa => ?_⟩
    have sx := same_new (o := HO.tup (List.replicate ((n : Int)).toNat [V.str "e"]).flatten) hxa
    have hx3 := upd_same (H := H2) (a := xa) (o := HO.tup (List.replicate ((n : Int)).toNat [V.str "e"]).flatten)
    generalize upd H2 xa (HO.tup (List.replicate ((n : Int)).toNat [V.str "e"]).flatten) = H3 at sx hx3 ⊢
    refine ⟨by show 2 ≤ sizeLine; decide, fun p hp => ?_⟩
    have sp := same_new (o := HO.tup [V.ref ta, V.ref xa]) hp
    have s03 := (sa.trans sw).trans sx
    rw [rgV_upto] at ha
    rw [Int.toNat_natCast, rep_flat] at hx3
    refine q _ p ta xa (s03.trans sp) (s03.free hp) upd_same (sp _ _ (sx _ _ (sw _ _ ha))) ?_
    rw [List.map_replicate]
    exact sp _ _ hx3
theorem ok_gray (T : Tx K mg) : FnOk P w K mg base CX0 10 T.f_gray T.d_gray p_gray (spMade T.C_Machine 2 grayT) := by
  refine T.F_gray.ok sc_gray (fun vs H Q E h => ?_) (fun cdv A outer s H vs Q E hr h => ?_)
  · obtain ⟨rfl, _⟩ := h
    rfl
  · obtain ⟨rfl, q⟩ := h
    refine ⟨_, (pss_cons (ps_set (i := 0) sc_gray.nd rfl (by first | exact Or.inl rfl | exact Or.inr rfl) (pe_disp (pps_cons pe_str (pe_tup (pa_cons (pe_tup (pa_cons pe_int (pa_cons pe_int pa_nil))) (pa_cons (pe_tup (pa_cons pe_str (pa_cons pe_str pa_nil))) pa_nil))) (pps_cons pe_str (pe_tup (pa_cons (pe_tup (pa_cons pe_int (pa_cons pe_int pa_nil))) (pa_cons (pe_tup (pa_cons pe_str (pa_cons pe_str pa_nil))) pa_nil))) (pps_cons pe_str (pe_call (ok_idle_row T) (hr.mono (by decide)) rfl T.m_idle_row T.F_idle_row.kp T.b_idle_row .nil pass0 (pa_cons pe_int pa_nil)) pps_nil))) (by rfl) (by rfl) (fun z => by cases z) (by decide)))
    (pss_one (ps_ret (pe_make T.mk_Machine (ok_Machine_init T) (hr.mono (by decide)) rfl T.g_Machine T.b_Machine_init .nil pass0 (pa_cons pe_int (pa_cons (pv 0) pa_nil)))))), ?_⟩
    intro e e0
    have se := same_new (o := HO.dK []) e0
    have he := upd_same (H := H) (a := e) (o := HO.dK [])
    generalize upd H e (.dK []) = H0 at se he
    have l0 := Laid.nil (H := H0)
    refine ⟨by show 2 ≤ sizeLine; decide, fun A1 hA => ⟨by show 2 ≤ sizeLine; decide, fun B1 hB => ⟨by show 2 ≤ sizeLine; decide, fun W1 hW => ?_⟩⟩⟩
    obtain ⟨s1, a1, b1, w1⟩ := row_laid hA hB hW
    have he := s1 _ _ he
    have se := se.trans s1
    have l1 := (l0.same s1).add (r := ⟨"a", A1, [1, 0], B1, ["e", "e"]⟩) w1 a1 b1
    clear s1 a1 b1 w1 hA hB hW l0
    generalize upd (upd (upd H0 A1 (.tup [.int 1, .int 0])) B1 (.tup [.str "e", .str "e"])) W1 (.tup [.ref A1, .ref B1]) = H1 at *
    refine ⟨by show 2 ≤ sizeLine; decide, fun A2 hA => ⟨by show 2 ≤ sizeLine; decide, fun B2 hB => ⟨by show 2 ≤ sizeLine; decide, fun W2 hW => ?_⟩⟩⟩
    obtain ⟨s2, a2, b2, w2⟩ := row_laid hA hB hW
    have he := s2 _ _ he
    have se := se.trans s2
    have l2 := (l1.same s2).add (r := ⟨"b", A2, [0, 1], B2, ["b", "a"]⟩) w2 a2 b2
    clear s2 a2 b2 w2 hA hB hW l1
    generalize upd (upd (upd H1 A2 (.tup [.int 0, .int 1])) B2 (.tup [.str "b", .str "a"])) W2 (.tup [.ref A2, .ref B2]) = H2 at *
    refine ⟨2, rfl, by decide, by decide, fun H3 W3 A3 B3 s3 _ w3 a3 b3 => ?_⟩
    have he := s3 _ _ he
    have se := se.trans s3
    have l3 := (l2.same s3).add (r := ⟨"e", A3, [0, 1], B3, ["e", "e"]⟩) w3 a3 b3
    refine ⟨he, ([] ++ [((⟨"a", A1, [1, 0], B1, ["e", "e"]⟩ : Row), W1)] ++ [((⟨"b", A2, [0, 1], B2, ["b", "a"]⟩ : Row), W2)] ++ [((⟨"e", A3, [0, 1], B3, ["e", "e"]⟩ : Row), W3)] : List (Row × Addr)).map (fun (r : Row × Addr) => ((.inr r.1.nm : Key), V.ref r.2)), rfl, by rw [List.length_map]; show 3 ≤ 15; decide, _, rfl, ?_⟩
    have tb := l3.tab he (by decide +kernel : ((grayT).map (·.1)).Nodup)
    have et : tris ([] ++ [((⟨"a", A1, [1, 0], B1, ["e", "e"]⟩ : Row), W1)] ++ [((⟨"b", A2, [0, 1], B2, ["b", "a"]⟩ : Row), W2)] ++ [((⟨"e", A3, [0, 1], B3, ["e", "e"]⟩ : Row), W3)]) = grayT := rfl
    have gd : GoodM 2 (([] ++ [((⟨"a", A1, [1, 0], B1, ["e", "e"]⟩ : Row), W1)] ++ [((⟨"b", A2, [0, 1], B2, ["b", "a"]⟩ : Row), W2)] ++ [((⟨"e", A3, [0, 1], B3, ["e", "e"]⟩ : Row), W3)] : List (Row × Addr)).map Prod.fst) := good_of (show goodT 2 grayT = true from gray_good.1)
    generalize ([] ++ [((⟨"a", A1, [1, 0], B1, ["e", "e"]⟩ : Row), W1)] ++ [((⟨"b", A2, [0, 1], B2, ["b", "a"]⟩ : Row), W2)] ++ [((⟨"e", A3, [0, 1], B3, ["e", "e"]⟩ : Row), W3)] : List (Row × Addr)) = ws at tb et gd ⊢
    have s2 : Same H (upd H3 e (.dK (mergeK [] (ws.map fun r => ((.inr r.1.nm : Key), V.ref r.2))))) := fun b o z => by rw [upd_ne (ne_of_none z e0)]; exact se _ _ z
    generalize upd H3 e (.dK (mergeK [] (ws.map fun r => ((.inr r.1.nm : Key), V.ref r.2)))) = H9 at tb s2 ⊢
    refine fun o dxo o0 dxo0 ne => ?_
    have s45 : Same H9 (upd (upd H9 dxo (.own o)) o (.ins T.C_Machine dxo [])) := fun b u' z => by
      rw [upd_ne (ne_of_none z o0), upd_ne (ne_of_none z dxo0)]
      exact z
    exact ⟨o, dxo, e, 2, ws, rfl, upd_same, tb.same s45, gd, fun H8 st' td' ws' k9 st0 td0 pw m9 => ⟨rfl, q H8 o dxo st' td' ws' (fun b o' z => k9 b o' (ne_of_none (s2 _ _ z) o0) (s45 _ _ (s2 _ _ z))) (s2.free o0) m9 (by rw [mach_tris m9 pw (by rw [et]; exact gray_good.2), et])⟩⟩
theorem ok_towers (T : Tx K mg) : FnOk P w K mg base CX0 10 T.f_towers T.d_towers p_towers (spMade T.C_Machine 3 towersT) := by
  refine T.F_towers.ok sc_towers (fun vs H Q E h => ?_) (fun cdv A outer s H vs Q E hr h => ?_)
  · obtain ⟨rfl, _⟩ := h
    rfl
  · obtain ⟨rfl, q⟩ := h
    refine ⟨_, (pss_cons (ps_set (i := 0) sc_towers.nd rfl (by first | exact Or.inl rfl | exact Or.inr rfl) (pe_disp (pps_cons pe_str (pe_tup (pa_cons (pe_tup (pa_cons pe_int (pa_cons pe_int (pa_cons pe_int pa_nil)))) (pa_cons (pe_tup (pa_cons pe_str (pa_cons pe_str (pa_cons pe_str pa_nil)))) pa_nil))) (pps_cons pe_str (pe_tup (pa_cons (pe_tup (pa_cons pe_int (pa_cons pe_int (pa_cons pe_int pa_nil)))) (pa_cons (pe_tup (pa_cons pe_str (pa_cons pe_str (pa_cons pe_str pa_nil)))) pa_nil))) (pps_cons pe_str (pe_tup (pa_cons (pe_tup (pa_cons pe_int (pa_cons pe_int (pa_cons pe_int pa_nil)))) (pa_cons (pe_tup (pa_cons pe_str (pa_cons pe_str (pa_cons pe_str pa_nil)))) pa_nil))) (pps_cons pe_str (pe_call (ok_idle_row T) (hr.mono (by decide)) rfl T.m_idle_row T.F_idle_row.kp T.b_idle_row .nil pass0 (pa_cons pe_int pa_nil)) pps_nil)))) (by rfl) (by rfl) (fun z => by cases z) (by decide)))
    (pss_one (ps_ret (pe_make T.mk_Machine (ok_Machine_init T) (hr.mono (by decide)) rfl T.g_Machine T.b_Machine_init .nil pass0 (pa_cons pe_int (pa_cons (pv 0) pa_nil)))))), ?_⟩
    intro e e0
    have se := same_new (o := HO.dK []) e0
    have he := upd_same (H := H) (a := e) (o := HO.dK [])
    generalize upd H e (.dK []) = H0 at se he
    have l0 := Laid.nil (H := H0)
    refine ⟨by show 3 ≤ sizeLine; decide, fun A1 hA => ⟨by show 3 ≤ sizeLine; decide, fun B1 hB => ⟨by show 2 ≤ sizeLine; decide, fun W1 hW => ?_⟩⟩⟩
    obtain ⟨s1, a1, b1, w1⟩ := row_laid hA hB hW
    have he := s1 _ _ he
    have se := se.trans s1
    have l1 := (l0.same s1).add (r := ⟨"a", A1, [1, 0, 2], B1, ["e", "e", "a"]⟩) w1 a1 b1
    clear s1 a1 b1 w1 hA hB hW l0
    generalize upd (upd (upd H0 A1 (.tup [.int 1, .int 0, .int 2])) B1 (.tup [.str "e", .str "e", .str "a"])) W1 (.tup [.ref A1, .ref B1]) = H1 at *
    refine ⟨by show 3 ≤ sizeLine; decide, fun A2 hA => ⟨by show 3 ≤ sizeLine; decide, fun B2 hB => ⟨by show 2 ≤ sizeLine; decide, fun W2 hW => ?_⟩⟩⟩
    obtain ⟨s2, a2, b2, w2⟩ := row_laid hA hB hW
    have he := s2 _ _ he
    have se := se.trans s2
    have l2 := (l1.same s2).add (r := ⟨"b", A2, [2, 1, 0], B2, ["e", "b", "e"]⟩) w2 a2 b2
    clear s2 a2 b2 w2 hA hB hW l1
    generalize upd (upd (upd H1 A2 (.tup [.int 2, .int 1, .int 0])) B2 (.tup [.str "e", .str "b", .str "e"])) W2 (.tup [.ref A2, .ref B2]) = H2 at *
    refine ⟨by show 3 ≤ sizeLine; decide, fun A3 hA => ⟨by show 3 ≤ sizeLine; decide, fun B3 hB => ⟨by show 2 ≤ sizeLine; decide, fun W3 hW => ?_⟩⟩⟩
    obtain ⟨s3, a3, b3, w3⟩ := row_laid hA hB hW
    have he := s3 _ _ he
    have se := se.trans s3
    have l3 := (l2.same s3).add (r := ⟨"c", A3, [0, 2, 1], B3, ["c", "e", "e"]⟩) w3 a3 b3
    clear s3 a3 b3 w3 hA hB hW l2
    generalize upd (upd (upd H2 A3 (.tup [.int 0, .int 2, .int 1])) B3 (.tup [.str "c", .str "e", .str "e"])) W3 (.tup [.ref A3, .ref B3]) = H3 at *
    refine ⟨3, rfl, by decide, by decide, fun H4 W4 A4 B4 s4 _ w4 a4 b4 => ?_⟩
    have he := s4 _ _ he
    have se := se.trans s4
    have l4 := (l3.same s4).add (r := ⟨"e", A4, [0, 1, 2], B4, ["e", "e", "e"]⟩) w4 a4 b4
    refine ⟨he, ([] ++ [((⟨"a", A1, [1, 0, 2], B1, ["e", "e", "a"]⟩ : Row), W1)] ++ [((⟨"b", A2, [2, 1, 0], B2, ["e", "b", "e"]⟩ : Row), W2)] ++ [((⟨"c", A3, [0, 2, 1], B3, ["c", "e", "e"]⟩ : Row), W3)] ++ [((⟨"e", A4, [0, 1, 2], B4, ["e", "e", "e"]⟩ : Row), W4)] : List (Row × Addr)).map (fun (r : Row × Addr) => ((.inr r.1.nm : Key), V.ref r.2)), rfl, by rw [List.length_map]; show 4 ≤ 15; decide, _, rfl, ?_⟩
    have tb := l4.tab he (by decide +kernel : ((towersT).map (·.1)).Nodup)
    have et : tris ([] ++ [((⟨"a", A1, [1, 0, 2], B1, ["e", "e", "a"]⟩ : Row), W1)] ++ [((⟨"b", A2, [2, 1, 0], B2, ["e", "b", "e"]⟩ : Row), W2)] ++ [((⟨"c", A3, [0, 2, 1], B3, ["c", "e", "e"]⟩ : Row), W3)] ++ [((⟨"e", A4, [0, 1, 2], B4, ["e", "e", "e"]⟩ : Row), W4)]) = towersT := rfl
    have gd : GoodM 3 (([] ++ [((⟨"a", A1, [1, 0, 2], B1, ["e", "e", "a"]⟩ : Row), W1)] ++ [((⟨"b", A2, [2, 1, 0], B2, ["e", "b", "e"]⟩ : Row), W2)] ++ [((⟨"c", A3, [0, 2, 1], B3, ["c", "e", "e"]⟩ : Row), W3)] ++ [((⟨"e", A4, [0, 1, 2], B4, ["e", "e", "e"]⟩ : Row), W4)] : List (Row × Addr)).map Prod.fst) := good_of (show goodT 3 towersT = true from towers_good.1)
    generalize ([] ++ [((⟨"a", A1, [1, 0, 2], B1, ["e", "e", "a"]⟩ : Row), W1)] ++ [((⟨"b", A2, [2, 1, 0], B2, ["e", "b", "e"]⟩ : Row), W2)] ++ [((⟨"c", A3, [0, 2, 1], B3, ["c", "e", "e"]⟩ : Row), W3)] ++ [((⟨"e", A4, [0, 1, 2], B4, ["e", "e", "e"]⟩ : Row), W4)] : List (Row × Addr)) = ws at tb et gd ⊢
    have s2 : Same H (upd H4 e (.dK (mergeK [] (ws.map fun r => ((.inr r.1.nm : Key), V.ref r.2))))) := fun b o z => by rw [upd_ne (ne_of_none z e0)]; exact se _ _ z
    generalize upd H4 e (.dK (mergeK [] (ws.map fun r => ((.inr r.1.nm : Key), V.ref r.2)))) = H9 at tb s2 ⊢
    refine fun o dxo o0 dxo0 ne => ?_
    have s45 : Same H9 (upd (upd H9 dxo (.own o)) o (.ins T.C_Machine dxo [])) := fun b u' z => by
      rw [upd_ne (ne_of_none z o0), upd_ne (ne_of_none z dxo0)]
      exact z
    exact ⟨o, dxo, e, 3, ws, rfl, upd_same, tb.same s45, gd, fun H8 st' td' ws' k9 st0 td0 pw m9 => ⟨rfl, q H8 o dxo st' td' ws' (fun b o' z => k9 b o' (ne_of_none (s2 _ _ z) o0) (s45 _ _ (s2 _ _ z))) (s2.free o0) m9 (by rw [mach_tris m9 pw (by rw [et]; exact towers_good.2), et])⟩⟩
theorem ok_folded (T : Tx K mg) : FnOk P w K mg base CX0 10 T.f_folded T.d_folded p_folded (spMade T.C_Machine 2 foldedT) := by
  refine T.F_folded.ok sc_folded (fun vs H Q E h => ?_) (fun cdv A outer s H vs Q E hr h => ?_)
  · obtain ⟨rfl, _⟩ := h
    rfl
  · obtain ⟨rfl, q⟩ := h
    refine ⟨_, (pss_cons (ps_set (i := 0) sc_folded.nd rfl (by first | exact Or.inl rfl | exact Or.inr rfl) (pe_disp (pps_cons pe_str (pe_tup (pa_cons (pe_tup (pa_cons pe_int (pa_cons pe_int pa_nil))) (pa_cons (pe_tup (pa_cons pe_str (pa_cons pe_str pa_nil))) pa_nil))) (pps_cons pe_str (pe_tup (pa_cons (pe_tup (pa_cons pe_int (pa_cons pe_int pa_nil))) (pa_cons (pe_tup (pa_cons pe_str (pa_cons pe_str pa_nil))) pa_nil))) (pps_cons pe_str (pe_call (ok_idle_row T) (hr.mono (by decide)) rfl T.m_idle_row T.F_idle_row.kp T.b_idle_row .nil pass0 (pa_cons pe_int pa_nil)) pps_nil))) (by rfl) (by rfl) (fun z => by cases z) (by decide)))
    (pss_one (ps_ret (pe_make T.mk_Machine (ok_Machine_init T) (hr.mono (by decide)) rfl T.g_Machine T.b_Machine_init .nil pass0 (pa_cons pe_int (pa_cons (pv 0) pa_nil)))))), ?_⟩
    intro e e0
    have se := same_new (o := HO.dK []) e0
    have he := upd_same (H := H) (a := e) (o := HO.dK [])
    generalize upd H e (.dK []) = H0 at se he
    have l0 := Laid.nil (H := H0)
    refine ⟨by show 2 ≤ sizeLine; decide, fun A1 hA => ⟨by show 2 ≤ sizeLine; decide, fun B1 hB => ⟨by show 2 ≤ sizeLine; decide, fun W1 hW => ?_⟩⟩⟩
    obtain ⟨s1, a1, b1, w1⟩ := row_laid hA hB hW
    have he := s1 _ _ he
    have se := se.trans s1
    have l1 := (l0.same s1).add (r := ⟨"a", A1, [1, 0], B1, ["e", "b"]⟩) w1 a1 b1
    clear s1 a1 b1 w1 hA hB hW l0
    generalize upd (upd (upd H0 A1 (.tup [.int 1, .int 0])) B1 (.tup [.str "e", .str "b"])) W1 (.tup [.ref A1, .ref B1]) = H1 at *
    refine ⟨by show 2 ≤ sizeLine; decide, fun A2 hA => ⟨by show 2 ≤ sizeLine; decide, fun B2 hB => ⟨by show 2 ≤ sizeLine; decide, fun W2 hW => ?_⟩⟩⟩
    obtain ⟨s2, a2, b2, w2⟩ := row_laid hA hB hW
    have he := s2 _ _ he
    have se := se.trans s2
    have l2 := (l1.same s2).add (r := ⟨"b", A2, [0, 1], B2, ["e", "a"]⟩) w2 a2 b2
    clear s2 a2 b2 w2 hA hB hW l1
    generalize upd (upd (upd H1 A2 (.tup [.int 0, .int 1])) B2 (.tup [.str "e", .str "a"])) W2 (.tup [.ref A2, .ref B2]) = H2 at *
    refine ⟨2, rfl, by decide, by decide, fun H3 W3 A3 B3 s3 _ w3 a3 b3 => ?_⟩
    have he := s3 _ _ he
    have se := se.trans s3
    have l3 := (l2.same s3).add (r := ⟨"e", A3, [0, 1], B3, ["e", "e"]⟩) w3 a3 b3
    refine ⟨he, ([] ++ [((⟨"a", A1, [1, 0], B1, ["e", "b"]⟩ : Row), W1)] ++ [((⟨"b", A2, [0, 1], B2, ["e", "a"]⟩ : Row), W2)] ++ [((⟨"e", A3, [0, 1], B3, ["e", "e"]⟩ : Row), W3)] : List (Row × Addr)).map (fun (r : Row × Addr) => ((.inr r.1.nm : Key), V.ref r.2)), rfl, by rw [List.length_map]; show 3 ≤ 15; decide, _, rfl, ?_⟩
    have tb := l3.tab he (by decide +kernel : ((foldedT).map (·.1)).Nodup)
    have et : tris ([] ++ [((⟨"a", A1, [1, 0], B1, ["e", "b"]⟩ : Row), W1)] ++ [((⟨"b", A2, [0, 1], B2, ["e", "a"]⟩ : Row), W2)] ++ [((⟨"e", A3, [0, 1], B3, ["e", "e"]⟩ : Row), W3)]) = foldedT := rfl
    have gd : GoodM 2 (([] ++ [((⟨"a", A1, [1, 0], B1, ["e", "b"]⟩ : Row), W1)] ++ [((⟨"b", A2, [0, 1], B2, ["e", "a"]⟩ : Row), W2)] ++ [((⟨"e", A3, [0, 1], B3, ["e", "e"]⟩ : Row), W3)] : List (Row × Addr)).map Prod.fst) := good_of (show goodT 2 foldedT = true from folded_good.1)
    generalize ([] ++ [((⟨"a", A1, [1, 0], B1, ["e", "b"]⟩ : Row), W1)] ++ [((⟨"b", A2, [0, 1], B2, ["e", "a"]⟩ : Row), W2)] ++ [((⟨"e", A3, [0, 1], B3, ["e", "e"]⟩ : Row), W3)] : List (Row × Addr)) = ws at tb et gd ⊢
    have s2 : Same H (upd H3 e (.dK (mergeK [] (ws.map fun r => ((.inr r.1.nm : Key), V.ref r.2))))) := fun b o z => by rw [upd_ne (ne_of_none z e0)]; exact se _ _ z
    generalize upd H3 e (.dK (mergeK [] (ws.map fun r => ((.inr r.1.nm : Key), V.ref r.2)))) = H9 at tb s2 ⊢
    refine fun o dxo o0 dxo0 ne => ?_
    have s45 : Same H9 (upd (upd H9 dxo (.own o)) o (.ins T.C_Machine dxo [])) := fun b u' z => by
      rw [upd_ne (ne_of_none z o0), upd_ne (ne_of_none z dxo0)]
      exact z
    exact ⟨o, dxo, e, 2, ws, rfl, upd_same, tb.same s45, gd, fun H8 st' td' ws' k9 st0 td0 pw m9 => ⟨rfl, q H8 o dxo st' td' ws' (fun b o' z => k9 b o' (ne_of_none (s2 _ _ z) o0) (s45 _ _ (s2 _ _ z))) (s2.free o0) m9 (by rw [mach_tris m9 pw (by rw [et]; exact folded_good.2), et])⟩⟩
end
end My

set_option Elab.async false
set_option linter.all false
set_option maxRecDepth 100000
set_option maxHeartbeats 8000000
namespace My
open PySem PySem.Spec PyProof.Rows L2
section
variable {P : Program} {w : World} {K : PySem.W.Frag} {mg : Str → Option Value} {base : Heap}
theorem ok_counter (T : Tx K mg) : FnOk P w K mg base CX0 10 T.f_counter T.d_counter p_counter (spMadeN T.C_Machine countT) := by
  refine T.F_counter.ok sc_counter (fun vs H Q E h => ?_) (fun cdv A outer s H vs Q E hr h => ?_)
  · obtain ⟨n, rfl, _⟩ := h
    rfl
  · obtain ⟨n, rfl, n2, n4, q⟩ := h
    refine ⟨_, (pss_cons (ps_expr (pe_call (ok_check_letters T) (hr.mono (by decide)) rfl T.m_check_letters T.F_check_letters.kp T.b_check_letters .nil passL (pa_cons (pv 0) pa_nil)))
    (pss_cons (ps_set (i := 1) sc_counter.nd rfl (by first | exact Or.inl rfl | exact Or.inr rfl) (pe_op op_sub (pv 0) pe_int))
    (pss_cons (ps_set (i := 2) sc_counter.nd rfl (by first | exact Or.inl rfl | exact Or.inr rfl) (pe_callTy (tupK K) (by rfl) T.tuple (by decide +kernel) (pa_cons (pe_lc (own := [("letter", 4)]) (g := gName 4) (tt := tYes) rfl sc_counter.nd (pi_range1 (by rfl) T.range (pa_cons (pv 0) pa_nil)) (blkOk_by (N := n_counter) (sc := defScope s_counter) (by decide +kernel)) (fun _ _ _ _ _ => pg_name (i := 4) sc_counter.nd rfl (Or.inl rfl)) (fun _ _ _ _ _ => by exact pts_nil) (fun _ _ _ _ _ => by exact (pe_op op_mod (pe_op op_add (pv 4) pe_int) (pv 0)))) pa_nil)))
    (C8.pss_cut (ps_set (i := 3) sc_counter.nd rfl (by first | exact Or.inl rfl | exact Or.inr rfl) (pe_callTy (tupK K) (by rfl) T.tuple (by decide +kernel) (pa_cons (pe_lc (own := [("letter", 4)]) (g := gName 4) (tt := tYes) rfl sc_counter.nd (pi_range1 (by rfl) T.range (pa_cons (pv 0) pa_nil)) (blkOk_by (N := n_counter) (sc := defScope s_counter) (by decide +kernel)) (fun _ _ _ _ _ => pg_name (i := 4) sc_counter.nd rfl (Or.inl rfl)) (fun _ _ _ _ _ => by exact pts_nil) (fun _ _ _ _ _ => by exact (pe_ifExp (pt_cmpR op_eq (pv 4) (pv 1) (nomark _)) pe_str pe_str))) pa_nil)))
    (pss_one (ps_ret (pe_make T.mk_Machine (ok_Machine_init T) (hr.mono (by decide)) rfl T.g_Machine T.b_Machine_init .nil pass0 (pa_cons (pv 0) (pa_cons (pe_disp (pps_cons pe_str (pe_tup (pa_cons (pv 2) (pa_cons (pv 3) pa_nil))) (pps_cons pe_str (pe_call (ok_idle_row T) (hr.mono (by decide)) rfl T.m_idle_row T.F_idle_row.kp T.b_idle_row .nil pass0 (pa_cons (pv 0) pa_nil)) pps_nil)) (by rfl) (by rfl) (fun z => by cases z) (by decide)) pa_nil))))))))), ?_⟩
    refine ⟨_, rfl, .int n, rfl, .int n, fun _ => ?_, fun hb => ?_⟩
    · refine ⟨_, rfl, _, _, rfl, rfl, ?_⟩
      have la : (addN n).length = n := by simp [addN]
      have lb : (behN n).length = n := by simp [behN]
      refine ⟨_, rfl, _, rfl, by omega, by omega, fun D hD => lc_range (Pv := fun i H' => H' D = some (.lst (((addN n).take i).map V.int)) ∧ Same H H') ⟨upd_same, same_new hD⟩ ?_ ?_⟩
      · rintro i H1 hi ⟨h1, s1⟩
        have hi : i < n := by omega
        refine ⟨wipe1 _ _ _, tyes_if ?_⟩
        refine ⟨_, rfl, _, _, rfl, rfl, _, rfl, _, _, rfl, rfl, by omega, _, h1, by rw [List.length_map, List.length_take, sizeLine_eq]; omega, ?_, same_put s1 hD⟩
        have e : (addN n)[i]'(by omega) = ((i : Int) + 1) % (n : Int) := by simp [addN]
        rw [upd_same, take_next (by omega : i < (addN n).length), List.map_append, e, Int.zero_add]
        rfl
      · rintro H1 ⟨h1, s1⟩
        have h1 : H1 D = some (.lst (((addN n).take ((n : Int)).toNat).map V.int)) := h1
        rw [Int.toNat_natCast, List.take_of_length_le (by omega)] at h1
        refine ⟨D, _, rfl, .inl ⟨.of h1, fun A hA => ?_⟩⟩
        have sA := same_new (o := HO.tup ((addN n).map V.int)) hA
        have hA2 := upd_same (H := H1) (a := A) (o := HO.tup ((addN n).map V.int))
        have s2 := s1.trans sA
        generalize upd H1 A (HO.tup ((addN n).map V.int)) = H2 at sA hA2 s2 ⊢
        refine ⟨fun σ H' => ∃ (v4 : Option V) (B : Addr), σ = [some (.int n), some (.int ((n : Int) - 1)), some (.ref A), some (.ref B), v4] ∧ H' A = some (.tup ((addN n).map V.int)) ∧ H' B = some (.tup ((behN n).map V.str)) ∧ Same H H', ?_, ?_⟩
        · refine ⟨_, rfl, _, rfl, by omega, by omega, fun F hF => lc_range (Pv := fun i H' => H' F = some (.lst (((behN n).take i).map V.str)) ∧ Same H2 H') ⟨upd_same, same_new hF⟩ ?_ ?_⟩
          · rintro i H3 hi ⟨h3, s3⟩
            have hi : i < n := by omega
            refine ⟨wipe1 _ _ _, tyes_if ?_⟩
            have e : (behN n)[i]'(by omega) = if (i : Int) = (n : Int) - 1 then Str.ofString "a" else Str.ofString "e" := by simp [behN]
            have nx : ∀ z : Str, (behN n)[i]'(by omega) = z → upd H3 F (.lst ((((behN n).take i).map V.str) ++ [.str z])) F = some (.lst (((behN n).take (i + 1)).map V.str)) := fun z ez => by
              rw [upd_same, take_next (by omega : i < (behN n).length), List.map_append, ez]
              rfl
            have few : (((behN n).take i).map V.str).length < sizeLine := by rw [List.length_map, List.length_take, sizeLine_eq]; omega
            refine ⟨_, rfl, _, rfl, rfl, _, rfl, ite2 (fun hc => ?_) (fun hc => ?_)⟩
            · have hc := of_decide_eq_true hc
              injection hc with hc
              exact ⟨_, h3, few, nx _ (by rw [e, if_pos (by omega)]), same_put s3 hF⟩
            · have hc := of_decide_eq_false (by simpa using hc)
              exact ⟨_, h3, few, nx _ (by rw [e, if_neg (fun z => hc (by first | exact z | exact congrArg V.int z | (rw [z])))]), same_put s3 hF⟩
          · rintro H3 ⟨h3, s3⟩
            have h3 : H3 F = some (.lst (((behN n).take ((n : Int)).toNat).map V.str)) := h3
            rw [Int.toNat_natCast, List.take_of_length_le (by omega)] at h3
            refine ⟨F, _, rfl, .inl ⟨.of h3, fun B hB => ⟨_, B, rfl, same_new hB _ _ (s3 _ _ hA2), upd_same, (s2.trans s3).trans (same_new hB)⟩⟩⟩
        · rintro σ H3 ⟨v4, B, rfl, hA3, hB3, s3⟩
          refine ⟨_, rfl, fun e e0 => ?_⟩
          have se := s3.trans (same_new (o := HO.dK []) e0)
          have hA4 := same_new (o := HO.dK []) e0 _ _ hA3
          have hB4 := same_new (o := HO.dK []) e0 _ _ hB3
          have he := upd_same (H := H3) (a := e) (o := HO.dK [])
          have eH : H e = none := s3.free e0
          generalize upd H3 e (.dK []) = H4 at se he hA4 hB4 ⊢
          refine ⟨_, rfl, _, rfl, by show 2 ≤ sizeLine; decide, fun W1 hW1 => ?_⟩
          have sW := same_new (o := HO.tup [.ref A, .ref B]) hW1
          have w1 := upd_same (H := H4) (a := W1) (o := HO.tup [.ref A, .ref B])
          have l1 := (Laid.nil (H := upd H4 W1 (.tup [.ref A, .ref B]))).add (r := ⟨"a", A, addN n, B, behN n⟩) w1 (sW _ _ hA4) (sW _ _ hB4)
          have he := sW _ _ he
          have se := se.trans sW
          generalize upd H4 W1 (.tup [.ref A, .ref B]) = H5 at l1 he se ⊢
          refine ⟨_, rfl, n, rfl, n2, n4, fun H6 W2 A2 B2 s6 _ w2 a2 b2 => ?_⟩
          have he := s6 _ _ he
          have se := se.trans s6
          have l2 := (l1.same s6).add (r := ⟨"e", A2, upto n, B2, List.replicate n "e"⟩) w2 a2 b2
          refine ⟨he, ([] ++ [((⟨"a", A, addN n, B, behN n⟩ : Row), W1)] ++ [((⟨"e", A2, upto n, B2, List.replicate n "e"⟩ : Row), W2)] : List (Row × Addr)).map (fun (r : Row × Addr) => ((.inr r.1.nm : Key), V.ref r.2)), rfl, by rw [List.length_map]; show 2 ≤ 15; decide, ?_⟩
          have tb := l2.tab he (by decide +kernel : (["a", "e"] : List Str).Nodup)
          have et : tris ([] ++ [((⟨"a", A, addN n, B, behN n⟩ : Row), W1)] ++ [((⟨"e", A2, upto n, B2, List.replicate n "e"⟩ : Row), W2)]) = countT n := rfl
          have cg := count_good n (by omega)
          have gd : GoodM n (([] ++ [((⟨"a", A, addN n, B, behN n⟩ : Row), W1)] ++ [((⟨"e", A2, upto n, B2, List.replicate n "e"⟩ : Row), W2)] : List (Row × Addr)).map Prod.fst) := good_of (show goodT n (countT n) = true from cg.1)
          generalize ([] ++ [((⟨"a", A, addN n, B, behN n⟩ : Row), W1)] ++ [((⟨"e", A2, upto n, B2, List.replicate n "e"⟩ : Row), W2)] : List (Row × Addr)) = ws at tb et gd ⊢
          have s2 : Same H (upd H6 e (.dK (mergeK [] (ws.map fun r => ((.inr r.1.nm : Key), V.ref r.2))))) := fun b o z => by rw [upd_ne (ne_of_none z eH)]; exact se _ _ z
          generalize upd H6 e (.dK (mergeK [] (ws.map fun r => ((.inr r.1.nm : Key), V.ref r.2)))) = H9 at tb s2 ⊢
          refine fun o dxo o0 dxo0 ne => ?_
          have s45 : Same H9 (upd (upd H9 dxo (.own o)) o (.ins T.C_Machine dxo [])) := fun b u' z => by
            rw [upd_ne (ne_of_none z o0), upd_ne (ne_of_none z dxo0)]
            exact z
          exact ⟨o, dxo, e, n, ws, rfl, upd_same, tb.same s45, gd, fun H8 st' td' ws' k9 st0 td0 pw m9 => ⟨rfl, q H8 o dxo st' td' ws' (fun b o' z => k9 b o' (ne_of_none (s2 _ _ z) o0) (s45 _ _ (s2 _ _ z))) (s2.free o0) m9 (by rw [mach_tris m9 pw (by rw [et]; exact cg.2), et])⟩⟩
    · exfalso
      have hb : (decide ((2 : Int) ≤ (n : Int)) && decide ((n : Int) ≤ 4)) = false := hb
      rw [decide_eq_true (by omega : (2 : Int) ≤ (n : Int)), decide_eq_true (by omega : (n : Int) ≤ 4)] at hb
      cases hb
end
end My

set_option Elab.async false
set_option linter.all false
set_option maxRecDepth 100000
set_option maxHeartbeats 8000000
namespace My
open PySem PySem.Spec PyProof.Rows L2
def spDrawn : Sp := fun vs H Q _ => ∃ (u : Addr) (n m : Nat), vs = [.ref u, .int n, .int m] ∧ UrnOk H u ∧ 0 < n ∧ n ≤ 4 ∧ m ≤ 200 ∧
  ∀ (H' : Hp) (ds : List Nat), Drew u H H' → ds.length ≤ m → (∀ d ∈ ds, d < n) → Q (.str (digS ds)) H'
/-- a number's digits, the lowest one first -/
def digitsN : Nat → Nat → Nat → List Nat
  | _, _, 0 => []
  | v, n, k + 1 => v % n :: digitsN (v / n) n k
def spDigits : Sp := fun vs H Q _ => ∃ (v n k : Nat), vs = [.int v, .int n, .int k] ∧ 0 < n ∧ n ≤ 4 ∧ k ≤ 200 ∧ v < 2 ^ 400 ∧ Q (.str (digS (digitsN v n k))) H
theorem digitsN_len : ∀ (k v n : Nat), (digitsN v n k).length = k
  | 0, _, _ => rfl
  | k + 1, v, n => by rw [digitsN, List.length_cons, digitsN_len k]
theorem digitsN_lt {n : Nat} (h : 0 < n) : ∀ (k v : Nat), ∀ d ∈ digitsN v n k, d < n
  | 0, _, d, hd => absurd hd List.not_mem_nil
  | k + 1, v, d, hd => by
    rw [digitsN] at hd
    rcases List.mem_cons.mp hd with rfl | hd
    · exact Nat.mod_lt _ h
    · exact digitsN_lt h k _ d hd
theorem digitsN_snoc : ∀ (k v n : Nat), digitsN v n (k + 1) = digitsN v n k ++ [v / n ^ k % n]
  | 0, v, n => by simp [digitsN]
  | k + 1, v, n => by
    rw [digitsN, digitsN_snoc k (v / n) n, digitsN, Nat.div_div_eq_div_mul, Nat.pow_succ, Nat.mul_comm (n ^ k) n]
    rfl
section
variable {P : Program} {w : World} {K : PySem.W.Frag} {mg : Str → Option Value} {base : Heap}
theorem ok_text (T : Tx K mg) : FnOk P w K mg base CX0 2 T.f_text T.d_text p_text spDrawn := by
  refine T.F_text.ok sc_text (fun vs H Q E h => ?_) (fun cdv A outer s H vs Q E hr h => ?_)
  · obtain ⟨u, n, m, rfl, _⟩ := h
    rfl
  · obtain ⟨u, n, m, rfl, hu, n0, n4, m2, q⟩ := h
    refine ⟨_, (pss_one (ps_ret (pe_join pe_str (pe_lc (own := [("_law_turn", 3)]) (g := gName 3) (tt := tYes) rfl sc_text.nd (pi_range1 (by rfl) T.range (pa_cons (pe_call (ok_dip T) (hr.mono (by decide)) rfl T.m_dip T.F_dip.kp T.b_dip .nil pass0 (pa_cons (pv 0) (pa_cons (pe_op op_add (pv 2) pe_int) pa_nil))) pa_nil)) (blkOk_by (N := n_text) (sc := defScope s_text) (by decide +kernel)) (fun _ _ _ _ _ => pg_name (i := 3) sc_text.nd rfl (Or.inl rfl)) (fun _ _ _ _ _ => by exact pts_nil) (fun _ _ _ _ _ => by exact (pe_callTy call_str_int (by rfl) T.str (by decide +kernel) (pa_cons (pe_call (ok_dip T) (hr.mono (by decide)) rfl T.m_dip T.F_dip.kp T.b_dip .nil pass0 (pa_cons (pv 0) (pa_cons (pv 1) pa_nil))) pa_nil))))))), ?_⟩
    refine ⟨⟨_, rfl⟩, _, rfl, _, rfl, _, _, rfl, rfl, u, _, rfl, hu, by omega, small_abs (n := 1000000) (by omega) (by omega) (by decide +kernel), fun H1 r d1 r0 r1 => ⟨r, rfl, by omega, by omega, fun D hD => ?_⟩⟩
    have hDu : D ≠ u := d1.1.ne hD
    refine lc_range (Pv := fun i H' => ∃ ds : List Nat, H' D = some (.lst ((ds.map dig).map V.str)) ∧ ds.length = i ∧ (∀ d ∈ ds, d < n) ∧ Drew u H1 H') ⟨[], upd_same, rfl, fun d hd => absurd hd List.not_mem_nil, (Drew.of d1.1 (Same.refl _)).new hD⟩ ?_ ?_
    · rintro i H2 hi ⟨ds, hD2, ld, hds, d2⟩
      refine ⟨wipe1 _ _ _, tyes_if ?_⟩
      refine ⟨_, rfl, _, rfl, u, _, rfl, d2.1, by omega, small_abs (n := 1000000) (by omega) (by omega) (by decide +kernel), fun H3 e d3 e0 e1 => ?_⟩
      have ln : ds.length < r.toNat := by omega
      refine ⟨e, rfl, small_log e0 (by omega), _, d3.2 _ _ hDu hD2, ?_, ds ++ [e.toNat], ?_, ?_, ?_, ?_⟩
      · rw [List.length_map, List.length_map, sizeLine_eq]; omega
      · rw [upd_same, List.map_append, List.map_append]
        have : e = ((e.toNat : Nat) : Int) := by omega
        rw [this, str_dig (by omega)]
        rfl
      · rw [List.length_append, ld]; rfl
      · intro d hd
        rcases List.mem_append.mp hd with hd | hd
        · exact hds d hd
        · obtain rfl := List.mem_singleton.mp hd
          omega
      · exact (d2.trans d3).put hD hDu
    · rintro H2 ⟨ds, hD2, ld, hds, d2⟩
      have d12 := d1.trans d2
      refine ⟨_, D, _, rfl, rfl, .inl (.of hD2), ?_, ?_⟩
      · have := sum_map_le (f := (fun x : Str => x.length) ∘ dig) (c := 1) (l := ds) fun x _ => Nat.le_refl 1
        rw [List.map_map, show (Str.ofString "").length = 0 from rfl]
        omega
      · rw [join_digs]
        exact q _ ds d12 (by omega) hds
theorem ok_digits (T : Tx K mg) : FnOk P w K mg base CX0 1 T.f_digits T.d_digits p_digits spDigits := by
  refine T.F_digits.ok sc_digits (fun vs H Q E h => ?_) (fun cdv A outer s H vs Q E hr h => ?_)
  · obtain ⟨v, n, k, rfl, _⟩ := h
    rfl
  · obtain ⟨v, n, k, rfl, n0, n4, k2, v4, q⟩ := h
    refine ⟨_, (pss_cons (ps_set (i := 3) sc_digits.nd rfl (by first | exact Or.inl rfl | exact Or.inr rfl) pe_str)
    (pss_cons (ps_for PassesOwn.never rfl (pi_range1 (by rfl) T.range (pa_cons (pv 2) pa_nil)) (pg_name (i := 4) sc_digits.nd rfl (by first | exact Or.inl rfl | exact Or.inr rfl))
    (pss_one (ps_par (i := 3) (j := 0) (by rfl) sc_digits.nd rfl rfl (by decide) rfl rfl (pa_cons (pe_op op_add_str (pv 3) (pe_callTy call_str_int (by rfl) T.str (by decide +kernel) (pa_cons (pe_op op_mod (pe_callTy call_int1 (by rfl) T.int (by decide +kernel) (pa_cons (pv 0) pa_nil)) (pv 1)) pa_nil))) (pa_cons (pe_callTy call_int1 (by rfl) T.int (by decide +kernel) (pa_cons (pe_op op_fdivW (pv 0) (pv 1)) pa_nil)) pa_nil)) (by first | rfl | kernel_rfl))))
    (pss_one (ps_ret (pv 3))))), ?_⟩
    refine ⟨_, rfl, _, rfl, by omega, by omega, for_range (Pv := fun i σ H' => (∃ v4 : Option V, σ = [some (.int ((v / n ^ i : Nat) : Int)), some (.int n), some (.int k), some (.str (digS (digitsN v n i))), v4]) ∧ H' = H) ⟨⟨_, by rw [Nat.pow_zero, Nat.div_one]; rfl⟩, rfl⟩ ?_ ?_⟩
    · rintro i σ H1 hi ⟨⟨v4, rfl⟩, rfl⟩
      have hmod : (((v / n ^ i : Nat) : Int) % (n : Int)) = ((v / n ^ i % n : Nat) : Int) := by omega
      have hlt := Nat.mod_lt (v / n ^ i) n0
      have hq : v / n ^ i ≤ v := Nat.div_le_self _ _
      refine ⟨_, rfl, _, rfl, .inl ⟨_, rfl, _, rfl, _, _, rfl, rfl, by omega, _, rfl, ?_, _, _, rfl, rfl, ?_, _, rfl, _, rfl, _, _, rfl, rfl, wide_div (b := 3) (by omega) (by omega) (by decide) (by decide), .inl ⟨_, rfl, ?_⟩⟩⟩
      · rw [hmod]; exact small_log (by omega) (by omega)
      · rw [hmod, str_dig (by omega)]; show _ + 1 ≤ _; rw [digS_len, digitsN_len, sizeLine_eq]; omega
      · have e1 : ((v / n ^ i : Nat) : Int) / (n : Int) = ((v / n ^ (i + 1) : Nat) : Int) := by
          rw [Nat.pow_succ, ← Nat.div_div_eq_div_mul]
          rfl
        have e2 : digS (digitsN v n i) ++ Str.ofString (toString (((v / n ^ i : Nat) : Int) % (n : Int))) = digS (digitsN v n (i + 1)) := by
          rw [hmod, str_dig (by omega), digitsN_snoc, ← digS_app]
          rfl
        refine ⟨_, _, rfl, ⟨some (.int (0 + (i : Int))), ?_⟩, rfl⟩
        show [some (V.int (((v / n ^ i : Nat) : Int) / (n : Int))), some (V.int n), some (V.int k), some (V.str (digS (digitsN v n i) ++ Str.ofString (toString (((v / n ^ i : Nat) : Int) % (n : Int))))), some (V.int (0 + (i : Int)))] = _
        rw [e1, e2]
    · rintro σ H1 ⟨⟨v4, rfl⟩, rfl⟩
      exact ⟨_, rfl, q⟩
end
end My

set_option Elab.async false
set_option linter.all false
set_option maxRecDepth 100000
set_option maxHeartbeats 8000000
namespace My
open PySem PySem.Spec PyProof.Rows L2
/-- all texts of a length, in order -/
def textsN (n : Nat) : Nat → List (List Nat)
  | 0 => [[]]
  | k + 1 => (textsN n k).flatMap fun ds => (List.range n).map fun d => ds ++ [d]
theorem textsN_len (n : Nat) : ∀ k, ∀ ds ∈ textsN n k, ds.length = k
  | 0, ds, h => by
    obtain rfl := List.mem_singleton.mp h
    rfl
  | k + 1, ds, h => by
    obtain ⟨es, he, h⟩ := List.mem_flatMap.mp h
    obtain ⟨d, _, rfl⟩ := List.mem_map.mp h
    rw [List.length_append, textsN_len n k es he]
    rfl
def dstrs (l : List (List Nat)) : List V := (l.map digS).map V.str
def ext (n : Nat) (ds : List Nat) : List (List Nat) := (List.range n).map fun d => ds ++ [d]
theorem ext_len (n : Nat) (ds : List Nat) : (ext n ds).length = n := by simp [ext]
theorem flat_len (n : Nat) : ∀ l : List (List Nat), (l.flatMap (ext n)).length = l.length * n
  | [] => by simp
  | d :: l => by
    rw [List.flatMap_cons, List.length_append, ext_len, flat_len n l, List.length_cons, Nat.add_mul, Nat.one_mul]
    omega
theorem dstrs_len (l : List (List Nat)) : (dstrs l).length = l.length := by simp [dstrs]
theorem dstrs_app (a b : List (List Nat)) : dstrs (a ++ b) = dstrs a ++ dstrs b := by simp [dstrs]
def spTextsOf : Sp := fun vs H Q _ => ∃ (n k : Nat), vs = [.int n, .int k] ∧ 0 < n ∧ n ≤ 4 ∧ k ≤ 5 ∧ (∀ j ≤ k, (textsN n j).length ≤ 1000) ∧ ∀ (H' : Hp) (p : Addr), Same H H' → H p = none → H' p = some (.lst (dstrs (textsN n k))) → Q (.ref p) H'
section
variable {P : Program} {w : World} {K : PySem.W.Frag} {mg : Str → Option Value} {base : Heap}
theorem ok_texts_of (T : Tx K mg) : FnOk P w K mg base CX0 1 T.f_texts_of T.d_texts_of p_texts_of spTextsOf := by
  refine T.F_texts_of.ok sc_texts_of (fun vs H Q E h => ?_) (fun cdv A outer s H vs Q E hr h => ?_)
  · obtain ⟨n, k, rfl, _⟩ := h
    rfl
  · obtain ⟨n, k, rfl, n0, n4, k5, few, q⟩ := h
    refine ⟨_, (pss_cons (ps_set (i := 2) sc_texts_of.nd rfl (by first | exact Or.inl rfl | exact Or.inr rfl) (pe_lst (pa_cons pe_str pa_nil)))
    (pss_cons (ps_for PassesOwn.never rfl (pi_range1 (by rfl) T.range (pa_cons (pv 1) pa_nil)) (pg_name (i := 3) sc_texts_of.nd rfl (by first | exact Or.inl rfl | exact Or.inr rfl))
    (pss_cons (ps_set (i := 4) sc_texts_of.nd rfl (by first | exact Or.inl rfl | exact Or.inr rfl) (pe_lst pa_nil))
    (pss_cons (ps_for PassesOwn.never rfl (piL K (pv 2)) (pg_name (i := 5) sc_texts_of.nd rfl (by first | exact Or.inl rfl | exact Or.inr rfl))
    (pss_one (ps_expr (bmK K PySem.F.plainAttrs_list PySem.F.slot_list_extend PySem.F.type_list_extend mt_extend (by exact (pv 4)) (by exact (pa_cons (pe_lc (own := [("_law_k", 6)]) (g := gName 6) (tt := tYes) rfl sc_texts_of.nd (pi_range1 (by rfl) T.range (pa_cons (pv 0) pa_nil)) (blkOk_by (N := n_texts_of) (sc := defScope s_texts_of) (by decide +kernel)) (fun _ _ _ _ _ => pg_name (i := 6) sc_texts_of.nd rfl (Or.inl rfl)) (fun _ _ _ _ _ => by exact pts_nil) (fun _ _ _ _ _ => by exact (pe_op op_add_str (pv 5) (pe_callTy call_str_int (by rfl) T.str (by decide +kernel) (pa_cons (pv 6) pa_nil))))) pa_nil))))))
    (pss_one (ps_set (i := 2) sc_texts_of.nd rfl (by first | exact Or.inl rfl | exact Or.inr rfl) (pe_callTy (listK K) (by rfl) T.list (by decide +kernel) (pa_cons (pv 4) pa_nil)))))))
    (pss_one (ps_ret (pv 2))))), ?_⟩
    refine ⟨by show 1 ≤ sizeLine; decide, fun F hF => ?_⟩
    refine ⟨_, rfl, _, rfl, by omega, by omega, for_range (Pv := fun i σ H' => ∃ (v3 v4 v5 v6 : Option V) (F : Addr), σ = [some (.int n), some (.int k), some (.ref F), v3, v4, v5, v6] ∧ H F = none ∧ H' F = some (.lst (dstrs (textsN n i))) ∧ Same H H') ⟨_, _, _, _, F, rfl, hF, upd_same, same_new hF⟩ ?_ ?_⟩
    · rintro i σ H1 hi ⟨v3, v4, v5, v6, F1, rfl, F0, h1, s1⟩
      refine ⟨by show 0 ≤ sizeLine; decide, fun L hL => ?_⟩
      have fi := few i (by omega)
      have L0 : H L = none := s1.free hL
      have FL : F1 ≠ L := ne_of_none h1 hL
      have h1L := same_new (o := HO.lst []) hL _ _ h1
      refine ⟨_, rfl, F1, rfl, ⟨_, .of h1L⟩, for_it (walk_list (K := K) (a := F1) (xs := dstrs (textsN n i))) (fun j σ H' => (∃ (v3 v5 v6 : Option V), σ = [some (.int n), some (.int k), some (.ref F1), v3, some (.ref L), v5, v6]) ∧ H' L = some (.lst (dstrs (((textsN n i).take j).flatMap (ext n)))) ∧ Same H1 H') ⟨⟨_, _, _, rfl⟩, upd_same, same_new hL⟩ (fun j σ H' _ h => .of (h.2.2 _ _ h1)) ?_ ?_⟩
      · rintro j y σ H2 H3 hj ⟨⟨v3, v5, v6, rfl⟩, h2, s2⟩ ⟨rfl, hy⟩
        rw [dstrs_len] at hj
        obtain rfl : y = .str (digS (textsN n i)[j]) := by
          unfold dstrs at hy
          rw [List.getElem?_map, List.getElem?_map, List.getElem?_eq_getElem hj] at hy
          exact (Option.some.inj hy).symm
        have lj := textsN_len n i _ (List.getElem_mem hj)
        refine ⟨_, rfl, .inl ⟨rfl, _, .of h2⟩, ?_⟩
        refine ⟨_, rfl, _, rfl, by omega, by omega, fun D hD => lc_range (Pv := fun m H' => H' D = some (.lst (dstrs ((ext n (textsN n i)[j]).take m))) ∧ Same H3 H') ⟨upd_same, same_new hD⟩ ?_ ?_⟩
        · rintro m H4 hm ⟨h4, s4⟩
          have hm : m < n := by omega
          refine ⟨wipe1 _ _ _, tyes_if ?_⟩
          have em : (0 : Int) + (m : Int) = ((m : Nat) : Int) := by omega
          refine ⟨_, rfl, _, rfl, ((m : Nat) : Int), by rw [em], small_log (by omega) (by omega), _, _, rfl, rfl, ?_, _, h4, ?_, ?_, same_put s4 hD⟩
          · rw [str_dig (by omega), digS_len, lj, sizeLine_eq]; show i + 1 ≤ _; omega
          · rw [dstrs_len, List.length_take, ext_len, sizeLine_eq]; omega
          · have tk := take_next (l := ext n (textsN n i)[j]) (k := m) (by rw [ext_len]; exact hm)
            rw [upd_same, tk, dstrs_app, str_dig (by omega)]
            have ee : (ext n (textsN n i)[j])[m]'(by rw [ext_len]; exact hm) = (textsN n i)[j] ++ [m] := by simp [ext]
            rw [ee]
            show some (HO.lst (_ ++ [V.str (digS _ ++ digS [m])])) = _
            rw [digS_app]
            rfl
        · rintro H4 ⟨h4, s4⟩
          have h4 : H4 D = some (.lst (dstrs ((ext n (textsN n i)[j]).take ((n : Int)).toNat))) := h4
          rw [Int.toNat_natCast, List.take_of_length_le (by rw [ext_len]; omega)] at h4
          refine ⟨L, D, _, _, rfl, rfl, s4 _ _ h2, h4, ?_, ⟨_, _, _, rfl⟩, ?_, ?_⟩
          · rw [dstrs_len, dstrs_len, flat_len, ext_len, List.length_take, sizeLine_eq]
            have : min j (textsN n i).length * n ≤ 1000 * 4 := Nat.mul_le_mul (by omega) n4
            omega
          · rw [upd_same, take_next hj, List.flatMap_append, dstrs_app]
            simp
          · exact fun b o z => by rw [upd_ne (ne_of_none z hL)]; exact s4 _ _ (s2 _ _ z)
      · rintro σ H2 ⟨⟨v3, v5, v6, rfl⟩, h2, s2⟩
        rw [dstrs_len, List.take_length] at h2
        refine ⟨_, rfl, L, _, rfl, .inl (.of h2), fun N hN => ⟨_, _, _, _, N, rfl, (s1.trans s2).free hN, upd_same, (s1.trans s2).trans (same_new hN)⟩⟩
    · rintro σ H1 ⟨v3, v4, v5, v6, F1, rfl, F0, h1, s1⟩
      exact ⟨_, rfl, q H1 F1 s1 F0 h1⟩
end
end My

set_option Elab.async false
set_option linter.all false
set_option maxRecDepth 100000
set_option maxHeartbeats 4000000
/-! "0" * n, n from 0 on, few; the place of a sign in a text -/
namespace My
open PySem PySem.Spec PyProof.Rows L2
def rRepZ : R2 := fun x y H Q => ∃ n : Nat, x = .str "0" ∧ y = .int n ∧ n < 9 ∧ Q (.str (digS (List.replicate n 0))) H
theorem mul0 : ∀ n : Nat, n < 9 → Txt.mul "0" (n : Int) = digS (List.replicate n 0) := by decide +kernel
theorem mulOk0 : ∀ n : Nat, n < 9 → MulOk "0" (n : Int) := by
  unfold MulOk
  decide +kernel
theorem op_repZ {X : Cx} : OpR X (binaryOp .Mult) rRepZ := by
  intro pins s σ H x y v u Q I rx ry h
  obtain ⟨n, rfl, rfl, h3, q⟩ := h
  obtain ⟨t, rfl⟩ := rx
  obtain ⟨t2, rfl⟩ := ry
  exact SB.mul (n := (n : Int)) (mulOk0 n h3) fun t' k => ⟨.str (Txt.mul "0" (n : Int)), H, I.tok _, ⟨_, rfl⟩, by rw [mul0 n h3]; exact q⟩
/-! ### s.index(y), where y is in s -/
def rIdx : V → List V → Hp → VK → Prop := fun x xs H Q => ∃ (a b : Str) (k : Nat) (rest : List Nat), x = .str a ∧ xs = [.str b] ∧ Builtin.Str.occurrences a b 0 a.length 1 = k :: rest ∧ Q (.int k) H
theorem mt_idx {X : Cx} : MtR X "str.index" rIdx := by
  intro pins s σ H x xs v us Q I rx rs h
  obtain ⟨a, b, k, rest, rfl, rfl, e, q⟩ := h
  obtain ⟨t, rfl⟩ := rx
  cases rs with
  | cons r1 rs =>
    cases rs
    obtain ⟨u, rfl⟩ := r1
    exact PySem.SC.index e ⟨.int (k : Nat), H, I.tok _, ⟨_, rfl⟩, q⟩
end My

set_option Elab.async false
set_option linter.all false
set_option maxRecDepth 100000
set_option maxHeartbeats 4000000
/-! a row of a machine as data: (turn, nexts) -/
namespace My
open PySem PySem.Spec PyProof.Rows L2
def pairD (r : Row) : PyData := .tuple [.tuple (r.turn.map PyData.int), .tuple (r.nexts.map PyData.str)]
theorem eqv_ints : ∀ l m : List Int, PyData.eqvAll (l.map PyData.int) (m.map PyData.int) = decide (l = m)
  | [], [] => rfl
  | [], b :: m => by simp [PyData.eqvAll]
  | a :: l, [] => by simp [PyData.eqvAll]
  | a :: l, b :: m => by
    have ih := eqv_ints l m
    show (PyData.eqv (.int a) (.int b) && PyData.eqvAll (l.map PyData.int) (m.map PyData.int)) = _
    rw [ih]
    show ((a == b) && decide (l = m)) = _
    by_cases e : a = b <;> by_cases f : l = m <;> simp [e, f]
theorem eqv_strs : ∀ l m : List Str, PyData.eqvAll (l.map PyData.str) (m.map PyData.str) = decide (l = m)
  | [], [] => rfl
  | [], b :: m => by simp [PyData.eqvAll]
  | a :: l, [] => by simp [PyData.eqvAll]
  | a :: l, b :: m => by
    have ih := eqv_strs l m
    show (PyData.eqv (.str a) (.str b) && PyData.eqvAll (l.map PyData.str) (m.map PyData.str)) = _
    rw [ih]
    show ((a == b) && decide (l = m)) = _
    by_cases e : a = b <;> by_cases f : l = m <;> simp [e, f]
theorem eqv_pair (r q : Row) : PyData.eqv (pairD r) (pairD q) = (decide (r.turn = q.turn) && decide (r.nexts = q.nexts)) := by
  show (PyData.eqvAll (r.turn.map PyData.int) (q.turn.map PyData.int) && (PyData.eqvAll (r.nexts.map PyData.str) (q.nexts.map PyData.str) && PyData.eqvAll [] [])) = _
  rw [eqv_ints, eqv_strs]
  show (_ && (_ && true)) = _
  rw [Bool.and_true]
theorem names_lay : ∀ z ∈ ALLN, (PyData.str z).canLay0 = true := by decide +kernel
theorem lay_strs : ∀ {l : List Str}, (∀ z ∈ l, z ∈ ALLN) → PyData.canLayAll0 (l.map PyData.str) = true
  | [], _ => rfl
  | z :: l, h => by
    show ((PyData.str z).canLay0 && PyData.canLayAll0 (l.map PyData.str)) = true
    rw [names_lay z (h z List.mem_cons_self), lay_strs fun y hy => h y (List.mem_cons_of_mem _ hy)]
    rfl
theorem lay_ints : ∀ l : List Int, PyData.canLayAll0 (l.map PyData.int) = true
  | [] => rfl
  | z :: l => by
    show ((PyData.int z).canLay0 && PyData.canLayAll0 (l.map PyData.int)) = true
    rw [lay_ints l]
    rfl
theorem deep_strs : ∀ l : List Str, PyData.depthAll (l.map PyData.str) ≤ 1
  | [] => by simp [PyData.depthAll]
  | z :: l => by
    have ih := deep_strs l
    simp only [List.map_cons, PyData.depthAll, PyData.depth]
    omega
theorem deep_ints : ∀ l : List Int, PyData.depthAll (l.map PyData.int) ≤ 1
  | [] => by simp [PyData.depthAll]
  | z :: l => by
    have ih := deep_ints l
    simp only [List.map_cons, PyData.depthAll, PyData.depth]
    omega
theorem shaped_pair {r : Row} (h : ∀ z ∈ r.nexts, z ∈ ALLN) : SeqAt.shaped (pairD r) = true := by
  have a := lay_ints r.turn
  have b := lay_strs h
  have c := deep_ints r.turn
  have d := deep_strs r.nexts
  unfold SeqAt.shaped pairD
  rw [Bool.and_eq_true]
  refine ⟨?_, decide_eq_true ?_⟩
  · simp [PyData.canLay0, PyData.canLayAll0, a, b]
  · simp only [PyData.depth, PyData.depthAll]
    omega
theorem dp_ints {K : PySem.W.Frag} {H : Hp} : ∀ l : List Int, DpAll K H (l.map V.int) (l.map PyData.int)
  | [] => .nil
  | i :: l => .cons (.int i) (dp_ints l)
theorem dp_strs {K : PySem.W.Frag} {H : Hp} : ∀ l : List Str, DpAll K H (l.map V.str) (l.map PyData.str)
  | [] => .nil
  | z :: l => .cons (.str z) (dp_strs l)
theorem dp_pair {K : PySem.W.Frag} {H : Hp} {w : Addr} {r : Row} (hw : H w = some (.tup [.ref r.ta, .ref r.xa])) (ht : H r.ta = some (.tup (r.turn.map V.int))) (hx : H r.xa = some (.tup (r.nexts.map V.str))) : Dp K H (.ref w) (pairD r) :=
  .tup (.of hw) (.cons (.tup (.of ht) (dp_ints _)) (.cons (.tup (.of hx) (dp_strs _)) .nil))
end My

set_option Elab.async false
set_option linter.all false
set_option maxRecDepth 100000
set_option maxHeartbeats 4000000
/-! how long the texts of values are; texts of plain signs; rows with the same names -/
namespace My
open PySem PySem.Spec PyProof.Rows L2
def sumL : List Str → Nat
  | [] => 0
  | t :: ts => t.length + 2 + sumL ts
theorem sep_len : (Str.ofString ", ").length = 2 := by decide +kernel
theorem textFrom_le : ∀ (ts : List Str) (k : Nat) (acc : Str), (PySem.textFrom k acc ts).length ≤ acc.length + sumL ts
  | [], k, acc => Nat.le_refl _
  | t :: ts, k, acc => by
    have ih := textFrom_le ts (k + 1) (acc ++ (if k > 0 then ", " else "" : String) ++ t)
    have e : (acc ++ ((if k > 0 then ", " else "" : String) : Str) ++ t).length ≤ acc.length + 2 + t.length := by
      rw [Str.length_append, Str.length_append]
      have : (((if k > 0 then ", " else "" : String) : Str)).length ≤ 2 := by
        split
        · exact Nat.le_of_eq sep_len
        · exact Nat.zero_le _
      omega
    show (PySem.textFrom (k + 1) _ ts).length ≤ _
    unfold sumL
    omega
theorem listText_le (ts : List Str) : (PySem.listText ts).length ≤ 2 + sumL ts := by
  unfold PySem.listText
  rw [Str.length_append]
  have a := textFrom_le ts 0 "["
  have e1 : (("[" : String) : Str).length = 1 := by decide +kernel
  have e2 : (("]" : String) : Str).length = 1 := by decide +kernel
  rw [e1] at a
  rw [e2]
  omega
theorem sumL_join : ∀ ts : List Str, (Str.join ", " ts).length ≤ sumL ts
  | [] => Nat.le_refl _
  | [x] => by show x.length ≤ x.length + 2 + 0; omega
  | x :: y :: r => by
    have ih := sumL_join (y :: r)
    show (x ++ ", " ++ Str.join ", " (y :: r)).length ≤ _
    rw [Str.length_append, Str.length_append]
    have e2 : ((", " : String) : Str).length = 2 := rfl
    rw [e2]
    show _ ≤ x.length + 2 + sumL (y :: r)
    omega
theorem tupleText_le (ts : List Str) : (PySem.tupleText ts).length ≤ 3 + sumL ts := by
  unfold PySem.tupleText
  rw [Str.length_append, Str.length_append]
  have a := sumL_join ts
  have e1 : (("(" : String) : Str).length = 1 := by decide +kernel
  have e2 : (((if ts.length == 1 then ",)" else ")" : String) : Str)).length ≤ 2 := by split <;> decide +kernel
  rw [e1]
  omega
theorem names_shown : ∀ z ∈ ALLN, (reprText z).length ≤ 10 := by decide +kernel
theorem sum_names : ∀ l : List Str, (∀ z ∈ l, z ∈ ALLN) → sumL (PyData.shownAll (l.map PyData.str)) ≤ 12 * l.length
  | [], _ => Nat.le_refl _
  | z :: l, h => by
    have ih := sum_names l fun y hy => h y (List.mem_cons_of_mem _ hy)
    have a := names_shown z (h z List.mem_cons_self)
    simp only [List.map_cons, PyData.shownAll, PyData.shown, sumL, List.length_cons]
    omega
/-- a text of plain signs -/
def Asc (z : Str) : Prop := ∀ c ∈ z.cps.toList, c < 128
theorem Asc.app {a b : Str} (h : Asc a) (k : Asc b) : Asc (a ++ b) := fun c hc => by
  rw [Str.cps_append] at hc
  rcases List.mem_append.mp (show c ∈ a.cps.toList ++ b.cps.toList by simpa using hc) with q | q
  · exact h c q
  · exact k c q
theorem Asc.joinS {sep : Str} (hs : Asc sep) : ∀ {l : List Str}, (∀ z ∈ l, Asc z) → Asc (Str.join sep l)
  | [], _ => fun c hc => by cases hc
  | [x], h => h x List.mem_cons_self
  | x :: y :: r, h => by
    show Asc (x ++ sep ++ Str.join sep (y :: r))
    exact ((h x List.mem_cons_self).app hs).app (Asc.joinS hs fun z hz => h z (List.mem_cons_of_mem _ hz))
theorem ascS {s : String} (h : (Str.ofString s).cps.toList.all (fun c => decide (c < 128)) = true) : Asc (Str.ofString s) := fun c hc => of_decide_eq_true (List.all_eq_true.mp h c hc)
theorem asc_names : ∀ z ∈ ALLN, Asc z := fun z hz c hc => of_decide_eq_true (List.all_eq_true.mp ((by decide +kernel : ∀ z ∈ ALLN, z.cps.toList.all (fun c => decide (c < 128)) = true) z hz) c hc)
theorem asc_digit (i : Int) (h0 : 0 ≤ i) (h4 : i < 5) : Asc (Str.ofString (toString i)) := by
  obtain ⟨k, rfl⟩ := Int.eq_ofNat_of_zero_le h0
  have hk : k < 5 := by omega
  refine ascS ?_
  revert hk
  revert k
  exact fun k _ _ hk => (by decide +kernel : ∀ k : Nat, k < 5 → (Str.ofString (toString (k : Int))).cps.toList.all (fun c => decide (c < 128)) = true) k hk
theorem Asc.join {sep : Str} (hs : Asc sep) {l : List Str} (h : ∀ z ∈ l, Asc z) : Asc (Txt.join sep l) := by
  show Asc (Builtin.Str.glued sep l)
  rw [StrLaws.glued_eq_join]
  exact Asc.joinS hs h
/-- rows of one table with the same names in one order are the same -/
theorem find_nm {rs : List Row} (nd : (rs.map Row.nm).Nodup) {r : Row} (hr : r ∈ rs) : rs.find? (fun q => decide (q.nm = r.nm)) = some r := by
  induction rs with
  | nil => cases hr
  | cons a rs ih =>
    rw [List.map_cons, List.nodup_cons] at nd
    rcases List.mem_cons.mp hr with rfl | hr
    · exact (List.find?_cons_of_pos (decide_eq_true rfl))
    · have ne : a.nm ≠ r.nm := fun z => nd.1 (z ▸ List.mem_map.mpr ⟨r, hr, rfl⟩)
      rw [List.find?_cons_of_neg (by simpa using ne)]
      exact ih nd.2 hr
theorem some_inj : ∀ {l m : List Row}, l.map some = m.map some → l = m
  | [], [], _ => rfl
  | [], _ :: _, h => by cases h
  | _ :: _, [], h => by cases h
  | a :: l, b :: m, h => by
    rw [List.map_cons, List.map_cons] at h
    injection h with h1 h2
    injection h1 with h1
    rw [h1, some_inj h2]
theorem rows_same {rs l l' : List Row} (nd : (rs.map Row.nm).Nodup) (p : l.Perm rs) (p' : l'.Perm rs) (e : l.map Row.nm = l'.map Row.nm) : l = l' := by
  have at_ : ∀ {l : List Row}, l.Perm rs → l.map some = (l.map Row.nm).map fun (z : Str) => rs.find? fun r => decide (r.nm = z) := fun {l} p => by
    rw [List.map_map]
    refine List.map_congr_left fun r hr => ?_
    show some r = rs.find? fun q => decide (q.nm = r.nm)
    exact (find_nm nd (p.mem_iff.mp hr)).symm
  have q := at_ p
  rw [e, ← at_ p'] at q
  exact some_inj q
theorem line_asc {n : Nat} {rs rs' : List Row} (gd : GoodM n rs) (p : rs'.Perm rs) : Asc (lineTxt n rs') := by
  have n2 := gd.lo
  have n4 := gd.hi
  unfold lineTxt tabTxt
  refine (((ascS (by decide +kernel)).app (asc_digit _ (by omega) (by omega))).app (ascS (by decide +kernel))).app ?_
  refine Asc.join (ascS (by decide +kernel)) fun z hz => ?_
  obtain ⟨r, hr, rfl⟩ := List.mem_map.mp hz
  have hr := p.mem_iff.mp hr
  unfold rowTxt
  refine Asc.join (ascS (by decide +kernel)) fun z hz => ?_
  rcases List.mem_cons.mp hz with rfl | hz
  · exact asc_names _ (gd.nms r hr)
  · rcases List.mem_cons.mp hz with rfl | hz
    · unfold digTxt
      refine Asc.join (fun c hc => by cases hc) fun z hz => ?_
      obtain ⟨i, hi, rfl⟩ := List.mem_map.mp hz
      have := turn_small n4 (gd.ok r hr) i hi
      exact asc_digit i this.1 (by omega)
    · obtain ⟨r2, k2, e2⟩ := List.mem_map.mp ((gd.ok r hr).among z hz)
      rw [← e2]
      exact asc_names _ (gd.nms r2 k2)
theorem line_len {n : Nat} {rs rs' : List Row} (gd : GoodM n rs) (p : rs'.Perm rs) : (lineTxt n rs').length ≤ 450 := by
  have n4 := gd.hi
  have t := tabTxt_le gd p
  have e9 : (Str.ofString "machine of ").length = 11 := by decide +kernel
  have e8 : (Str.ofString " letters: ").length = 10 := by decide +kernel
  have e7 : (Str.ofString (toString (n : Int))).length ≤ 1 := by
    have : n < 5 := by omega
    exact (by decide +kernel : ∀ n : Nat, n < 5 → (Str.ofString (toString (n : Int))).length ≤ 1) n this
  unfold lineTxt
  rw [Str.length_append, Str.length_append, Str.length_append, e9, e8]
  omega
/-- what is told of a machine -/
def toldD (n : Nat) (l : List Str) (line : Str) : PyData := .list [.int n, .tuple (l.map PyData.str), .list (l.map PyData.str), .int (l.length : Nat), .str line]
theorem strs_showable : ∀ l : List Str, PyData.showableAll (l.map PyData.str) = true
  | [] => rfl
  | z :: l => by simp only [List.map_cons, PyData.showableAll, PyData.showable, strs_showable l, Bool.and_self]
theorem strs_nodict : ∀ l : List Str, PyData.hasDictAll (l.map PyData.str) = false
  | [] => rfl
  | z :: l => by simp only [List.map_cons, PyData.hasDictAll, PyData.hasDict, strs_nodict l, Bool.or_self]
theorem small_digits (k : Nat) (h : k < 9) : (Str.ofString (toString (k : Int))).length ≤ 1 := (by decide +kernel : ∀ n : Nat, n < 9 → (Str.ofString (toString (n : Int))).length ≤ 1) k h
theorem small_showable (k : Nat) (h : k < 9) : (PyData.int (k : Int)).showable = true := (by decide +kernel : ∀ n : Nat, n < 9 → (PyData.int (n : Int)).showable = true) k h
theorem toldD_ok {n : Nat} {l : List Str} {line : Str} (hn : n ≤ 4) (hl : l.length ≤ 8) (h : ∀ z ∈ l, z ∈ ALLN) (a : Asc line) (z : line.length ≤ 450) :
    (toldD n l line).showable = true ∧ (toldD n l line).hasDict = false ∧ (toldD n l line).depth ≤ 8 ∧ (toldD n l line).shown.length ≤ sizeLine := by
  unfold toldD
  have d := deep_strs l
  have s := sum_names l h
  have t := tupleText_le (PyData.shownAll (l.map PyData.str))
  have u := listText_le (PyData.shownAll (l.map PyData.str))
  have r := StrLaws.reprText_len line fun c hc => Nat.lt_trans (a c hc) (by decide)
  have i1 := small_digits n (by omega)
  have i2 := small_digits l.length (by omega)
  refine ⟨?_, ?_, ?_, ?_⟩
  · have a1 := small_showable n (by omega)
    have a2 := small_showable l.length (by omega)
    simp only [PyData.showable, PyData.showableAll, strs_showable, Bool.and_true, Bool.true_and] at a1 a2 ⊢
    rw [a1, a2]
    rfl
  · simp only [PyData.hasDict, PyData.hasDictAll, strs_nodict, Bool.or_self]
  · simp only [PyData.depth, PyData.depthAll]
    omega
  · have v := listText_le [toString (n : Int), tupleText (PyData.shownAll (l.map PyData.str)), listText (PyData.shownAll (l.map PyData.str)), toString (l.length : Int), reprText line]
    simp only [sumL] at v
    simp only [PyData.shown, PyData.shownAll]
    rw [sizeLine_eq]
    have i1' : ((toString (n : Int) : String) : Str).length ≤ 1 := i1
    have i2' : ((toString (l.length : Int) : String) : Str).length ≤ 1 := i2
    refine Nat.le_trans v ?_
    omega
theorem dp_told {K : PySem.W.Frag} {H : Hp} {D st L : Addr} {n m : Nat} {l : List Str} {line : Str} (hm : m = l.length) (hD : H D = some (.lst [.int n, .ref st, .ref L, .int (m : Nat), .str line])) (hs : H st = some (.tup (l.map V.str))) (hL : H L = some (.lst (l.map V.str))) : Dp K H (.ref D) (toldD n l line) := by
  subst hm
  exact .lst (.of hD) (.cons (.int _) (.cons (.tup (.of hs) (dp_strs _)) (.cons (.lst (.of hL) (dp_strs _)) (.cons (.int _) (.cons (.str _) .nil)))))
theorem eqv_self_ints (l : List Int) : PyData.eqv (.tuple (l.map PyData.int)) (.tuple (l.map PyData.int)) = true := by
  show PyData.eqvAll _ _ = true
  rw [eqv_ints]
  exact decide_eq_true rfl
theorem eqv_self_strs (l : List Str) : PyData.eqv (.tuple (l.map PyData.str)) (.tuple (l.map PyData.str)) = true := by
  show PyData.eqvAll _ _ = true
  rw [eqv_strs]
  exact decide_eq_true rfl
end My

set_option Elab.async false
set_option linter.all false
set_option maxRecDepth 100000
set_option maxHeartbeats 8000000
namespace My
open PySem PySem.Spec PyProof.Rows L2
def flipA : List Nat → List Nat
  | [] => []
  | d :: ds => (1 - d) :: ds
def flipB : List Nat → List Nat
  | [] => []
  | 0 :: ds => 0 :: flipB ds
  | (d + 1) :: ds => (d + 1) :: flipA ds
def orb (k : Nat) : Nat → List Nat
  | 0 => List.replicate k 0
  | t + 1 => if t % 2 = 0 then flipA (orb k t) else flipB (orb k t)
def orbs (k n : Nat) : List (List Nat) := (List.range n).map (orb k)
def diffs (k : Nat) (a b : List Nat) : List Nat := (List.range k).filter fun j => decide (a.getD j 0 ≠ b.getD j 0)
def grayB (k : Nat) : Bool :=
  ((List.range (2 ^ k - 1)).all fun t => !(orbs k (t + 1)).contains (orb k (t + 1)) && (diffs k (orb k (t + 1)) (orb k t)).length == 1) &&
  (orbs k (2 ^ k)).contains (orb k (2 ^ k)) && (orbs k (2 ^ k)).isPerm (textsN 2 k) && sortedS ((textsN 2 k).map digS) && (List.range 33).all (fun t => (orb k t).length == k && (orb k t).all (fun d => decide (d < 2)))
theorem gray_facts : ∀ k : Nat, k < 6 → grayB k = true := by decide +kernel
theorem rowG (p : Str) (r : Tri) (h : rowAt grayT p = r) : rowAt grayT p = r := h
theorem rowGa : rowAt grayT "a" = (("a", [1, 0], ["e", "e"]) : Tri) := by decide +kernel
theorem rowGb : rowAt grayT "b" = (("b", [0, 1], ["b", "a"]) : Tri) := by decide +kernel
theorem rowGe : rowAt grayT "e" = (("e", [0, 1], ["e", "e"]) : Tri) := by decide +kernel
theorem idle_led {t : List Tri} (h : rowAt t "e" = (("e", [0, 1], ["e", "e"]) : Tri)) : ∀ ds : List Nat, (∀ d ∈ ds, d < 2) → led t "e" ds = (ds, Str.ofString "e")
  | [], _ => rfl
  | d :: ds, hd => by
    have d2 := hd d List.mem_cons_self
    have ih := idle_led h ds fun x hx => hd x (List.mem_cons_of_mem _ hx)
    rw [led_cons, h]
    match d, d2 with
    | 0, _ =>
      show (0 :: (led t "e" ds).1, (led t "e" ds).2) = _
      rw [ih]
    | 1, _ =>
      show (1 :: (led t "e" ds).1, (led t "e" ds).2) = _
      rw [ih]
theorem gray_a : ∀ ds : List Nat, (∀ d ∈ ds, d < 2) → (led grayT "a" ds).1 = flipA ds
  | [], _ => rfl
  | d :: ds, hd => by
    have d2 := hd d List.mem_cons_self
    have ih := idle_led rowGe ds fun x hx => hd x (List.mem_cons_of_mem _ hx)
    rw [led_cons, rowGa]
    match d, d2 with
    | 0, _ =>
      show 1 :: (led grayT "e" ds).1 = _
      rw [ih]
      rfl
    | 1, _ =>
      show 0 :: (led grayT "e" ds).1 = _
      rw [ih]
      rfl
theorem gray_b : ∀ ds : List Nat, (∀ d ∈ ds, d < 2) → (led grayT "b" ds).1 = flipB ds
  | [], _ => rfl
  | d :: ds, hd => by
    have d2 := hd d List.mem_cons_self
    have ha := gray_a ds fun x hx => hd x (List.mem_cons_of_mem _ hx)
    have ih := gray_b ds fun x hx => hd x (List.mem_cons_of_mem _ hx)
    rw [led_cons, rowGb]
    match d, d2 with
    | 0, _ =>
      show 0 :: (led grayT "b" ds).1 = _
      rw [ih]
      rfl
    | 1, _ =>
      show 1 :: (led grayT "a" ds).1 = _
      rw [ha]
      rfl
theorem digS_inj {a b : List Nat} (h : digS a = digS b) : a = b := by
  have h1 : (a.map fun d => 48 + d).toArray = (b.map fun d => 48 + d).toArray := congrArg Str.cps h
  have h2 : a.map (fun d => 48 + d) = b.map fun d => 48 + d := congrArg Array.toList h1
  exact (List.map_inj_right fun x y e => by omega).mp h2
theorem in_dstrs (a : List Nat) : ∀ l : List (List Nat), inV (.str (digS a)) (dstrs l) = l.contains a
  | [] => rfl
  | b :: l => by
    have ih := in_dstrs a l
    show (decide (digS b = digS a) || inV (.str (digS a)) (dstrs l)) = _
    rw [ih, List.contains_cons]
    have e : decide (digS b = digS a) = (a == b) := by
      by_cases h : a = b
      · subst h; simp
      · rw [decide_eq_false (fun z => h (digS_inj z).symm)]
        simp [h]
    rw [e]
def textsD (k : Nat) : PyData := .list (((textsN 2 k).map digS).map PyData.str)
theorem textsD_ok : ∀ k : Nat, k < 6 → SeqAt.shaped (textsD k) = true ∧ PyData.eqv (textsD k) (textsD k) = true := by decide +kernel
theorem texts_few : ∀ k : Nat, k < 6 → (textsN 2 k).length ≤ 1000 := by decide +kernel
theorem orbs_snoc (k t : Nat) : orbs k (t + 1) = orbs k t ++ [orb k t] := by
  unfold orbs
  rw [List.range_succ, List.map_append]
  rfl
theorem flat_dstrs (l : List (List Nat)) : (dstrs l).all flatV = true := by
  unfold dstrs
  exact flat_strs _
theorem dstrs_get (l : List (List Nat)) (i : Nat) (h : i < l.length) : (dstrs l)[i]? = some (.str (digS l[i])) := by
  unfold dstrs
  rw [List.getElem?_map, List.getElem?_map, List.getElem?_eq_getElem h]
  rfl
theorem dig_at {ds : List Nat} {i : Nat} (h : i < ds.length) : (digS ds).cps.toList[i]? = some (48 + ds[i]) := by
  show (ds.map fun d => 48 + d)[i]? = _
  rw [List.getElem?_map, List.getElem?_eq_getElem h]
  rfl
theorem at_dig {ds : List Nat} {i : Nat} (h : i < ds.length) : atI (digS ds).cps.toList (0 + (i : Int)) = some (48 + ds[i]) := by
  have e : (digS ds).cps.toList.length = ds.length := by
    show (ds.map fun d => 48 + d).length = _
    rw [List.length_map]
  rw [Int.zero_add]
  unfold atI
  rw [e, ixN_nat h]
  exact dig_at h
def spGray : Sp := fun vs H Q _ => ∃ k : Nat, vs = [.int k] ∧ k < 6 ∧ ∀ H', Same H H' → Q (.bl true) H'
section
variable {P : Program} {w : World} {K : PySem.W.Frag} {mg : Str → Option Value} {base : Heap}
theorem ok_gray_right (T : Tx K mg) : FnOk P w K mg base CX0 12 T.f_gray_right T.d_gray_right p_gray_right spGray := by
  refine T.F_gray_right.ok sc_gray_right (fun vs H Q E h => ?_) (fun cdv A outer s H vs Q E hr h => ?_)
  · obtain ⟨k, rfl, _⟩ := h
    rfl
  · obtain ⟨k, rfl, k6, q⟩ := h
    refine ⟨_, (pss_cons (ps_asg (pe_tup (pa_cons (pe_lst (pa_cons (pe_op op_repZ pe_str (pv 0)) pa_nil)) (pa_cons (pe_op op_repZ pe_str (pv 0)) pa_nil))) (pg_tup (by rfl) (pgs_cons (pg_name (i := 1) sc_gray_right.nd rfl (by first | exact Or.inl rfl | exact Or.inr rfl)) (pgs_cons (pg_name (i := 2) sc_gray_right.nd rfl (by first | exact Or.inl rfl | exact Or.inr rfl)) pgs_nil))))
    (pss_cons (ps_for PassesOwn.never rfl (pi_range1 (by rfl) T.range (pa_cons (pe_op op_powB pe_int pe_int) pa_nil)) (pg_name (i := 3) sc_gray_right.nd rfl (by first | exact Or.inl rfl | exact Or.inr rfl))
    (pss_cons (ps_set (i := 2) sc_gray_right.nd rfl (by first | exact Or.inl rfl | exact Or.inr rfl) (pe_ix (ixT K) (pe_meth (pl := _) (pe_call0 (ok_gray T) (hr.mono (by decide)) rfl T.m_gray T.F_gray.kp T.b_gray .nil pass0) T.cl_Machine T.mt_Machine_step (ok_Machine_step T) (hr.mono (by decide)) T.b_Machine_step .nil pass0 (pa_cons (pe_ix ix_str pe_str (pe_op op_mod (pe_callTy call_int1 (by rfl) T.int (by decide +kernel) (pa_cons (pv 3) pa_nil)) pe_int) (fun _ _ => rfl)) (pa_cons (pv 2) pa_nil))) pe_int (fun _ _ => rfl)))
    (pss_cons (ps_if (pt_cmpR (inK K) (pv 2) (pv 1) (by rfl))
      (pss_one ps_break)
      pss_nil)
    (pss_cons (ps_if (pt_cmpR op_ne (pe_callB (lenS K) (by rfl) T.len (by decide +kernel) (pa_cons (pe_lc (own := [("_law_at", 4)]) (g := gName 4)  rfl sc_gray_right.nd (pi_range1 (by rfl) T.range (pa_cons (pv 0) pa_nil)) (blkOk_by (N := n_gray_right) (sc := defScope s_gray_right) (by decide +kernel)) (fun _ _ _ _ _ => pg_name (i := 4) sc_gray_right.nd rfl (Or.inl rfl)) (fun _ _ _ _ _ => by exact (pts_one (pt_cmpR op_ne (pe_ix ix_str (pv 2) (pv 4) (fun _ _ => rfl)) (pe_ix ix_str (pe_ix (ixL K) (pv 1) (pe_un un_neg pe_int) (fun _ _ => rfl)) (pv 4) (fun _ _ => rfl)) (nomark _)))) (fun _ _ _ _ _ => by exact (pv 4))) pa_nil)) pe_int (nomark _))
      (pss_one (ps_ret pe_bl))
      pss_nil)
    (pss_one (ps_expr (bmK K PySem.F.plainAttrs_list PySem.F.slot_list_append PySem.F.type_list_append mt_append (by exact (pv 1)) (by exact (pa_cons (pv 2) pa_nil)))))))))
    (pss_one (ps_ret (pe_cmpR (eqK K hr.units) (pe_callB (sortSK K) (by rfl) T.sorted (by decide +kernel) (pa_cons (pv 1) pa_nil)) (pe_call (ok_texts_of T) (hr.mono (by decide)) rfl T.m_texts_of T.F_texts_of.kp T.b_texts_of .nil pass0 (pa_cons pe_int (pa_cons (pv 0) pa_nil))) (nomark _)))))), ?_⟩
    have gf := gray_facts k k6
    unfold grayB at gf
    simp only [Bool.and_eq_true, List.all_eq_true, decide_eq_true_eq, Bool.not_eq_true', beq_iff_eq, List.isPerm_iff] at gf
    obtain ⟨⟨⟨⟨g1, g2⟩, g3⟩, g4⟩, g5⟩ := gf
    have p32 : 2 ^ k ≤ 32 := Nat.pow_le_pow_right (by decide) (by omega : k ≤ 5)
    have p1 : 1 ≤ 2 ^ k := Nat.one_le_two_pow
    have ol : ∀ t, t < 33 → (orb k t).length = k ∧ ∀ d ∈ orb k t, d < 2 := fun t ht => by
      have := g5 t (List.mem_range.mpr ht)
      exact ⟨this.1, this.2⟩
    refine ⟨_, rfl, k, rfl, rfl, by omega, by show 1 ≤ sizeLine; decide, fun F hF => ⟨_, rfl, k, rfl, rfl, by omega, by show 2 ≤ sizeLine; decide, fun W hW => ?_⟩⟩
    have sF := same_new (o := HO.lst [V.str (digS (List.replicate k 0))]) hF
    have hF1 := upd_same (H := H) (a := F) (o := HO.lst [V.str (digS (List.replicate k 0))])
    generalize upd H F (HO.lst [V.str (digS (List.replicate k 0))]) = H1 at sF hF1 hW ⊢
    refine ⟨W, _, rfl, .of upd_same, rfl, _, _, rfl, _, _, rfl, rfl, ?_⟩
    refine ⟨2, 5, rfl, rfl, ⟨by decide, by decide +kernel⟩, _, rfl, by decide, by decide, for_range (Pv := fun t σ H' => (∃ (v3 v4 : Option V), σ = [some (.int k), some (.ref F), some (.str (digS (orb k t))), v3, v4]) ∧ H' F = some (.lst (dstrs (orbs k (t + 1)))) ∧ Same H H' ∧ t < 2 ^ k) ⟨⟨_, _, rfl⟩, same_new hW _ _ hF1, sF.trans (same_new hW), by omega⟩ ?_ ?_⟩
    · rintro t σ H2 ht ⟨⟨v3, v4, rfl⟩, hF2, s2, t2⟩
      have ot := ol t (by omega)
      have ot1 := ol (t + 1) (by omega)
      have hc : ∃ c : Nat, atI (Str.ofString "ab").cps.toList ((0 + (t : Int)) % 2) = some c ∧ (⟨#[c]⟩ : Str) ∈ grayT.map (·.1) ∧ (led grayT ⟨#[c]⟩ (orb k t)).1 = orb k (t + 1) := by
        rcases Nat.mod_two_eq_zero_or_one t with e | e
        · refine ⟨97, ?_, by decide +kernel, ?_⟩
          · rw [show (0 + (t : Int)) % 2 = 0 by omega]
            decide +kernel
          · rw [show (⟨#[97]⟩ : Str) = Str.ofString "a" by decide +kernel, gray_a _ ot.2]
            show _ = if t % 2 = 0 then flipA (orb k t) else flipB (orb k t)
            rw [if_pos e]
        · refine ⟨98, ?_, by decide +kernel, ?_⟩
          · rw [show (0 + (t : Int)) % 2 = 1 by omega]
            decide +kernel
          · rw [show (⟨#[98]⟩ : Str) = Str.ofString "b" by decide +kernel, gray_b _ ot.2]
            show _ = if t % 2 = 0 then flipA (orb k t) else flipB (orb k t)
            rw [if_neg (by omega)]
      obtain ⟨c, c1, c2, c3⟩ := hc
      refine ⟨rfl, fun H3 o dx st td ws s3 o0 m et => ?_⟩
      refine ⟨o, dx, _, rfl, m.obj, mF_no _ _ _ (by decide) (by decide) (by decide), _, rfl, .inl ⟨_, rfl, _, _, rfl, rfl, by show (0 : Int) < 2; decide, Str.ofString "ab", _, c, rfl, rfl, by rw [sizeLine_eq]; decide +kernel, c1, ?_⟩⟩
      refine ⟨_, rfl, o, dx, st, td, 2, ws, ⟨#[c]⟩, orb k t, rfl, m, ?_, ot.2, by omega, fun H4 t4 s4 t40 ht4 => ?_⟩
      · have : (ws.map Prod.fst).map Row.nm = grayT.map (·.1) := by
          rw [← et, tris_nms, List.map_map]
          rfl
        rw [this]
        exact c2
      rw [et, c3] at ht4
      have s24 := s3.trans s4
      have hF4 := s24 _ _ hF2
      refine ⟨t4, _, 0, _, rfl, rfl, .of ht4, rfl, ?_⟩
      refine ⟨_, rfl, _, rfl, F, _, rfl, .inl (.of hF4), rfl, flat_dstrs _, _, rfl, ?_⟩
      rw [if_neg (by decide), in_dstrs]
      have s2' := s2.trans s24
      by_cases last : t + 1 = 2 ^ k
      · have hc : (orbs k (t + 1)).contains (orb k (t + 1)) = true := by rw [last]; exact g2
        rw [hc]
        refine iteT ?_
        have hF5 : H4 F = some (.lst (((orbs k (2 ^ k)).map digS).map V.str)) := by rw [← last]; exact hF4
        have lo : (orbs k (2 ^ k)).length = 2 ^ k := by simp [orbs]
        refine ⟨_, rfl, F, (orbs k (2 ^ k)).map digS, rfl, .of hF5, by rw [List.length_map, lo]; omega, fun ys p pm srt p0 => ?_⟩
        obtain rfl : ys = (textsN 2 k).map digS := sorted_unique (pm.trans (g3.map digS)) srt g4
        have hp5 := upd_same (H := H4) (a := p) (o := HO.lst (((textsN 2 k).map digS).map V.str))
        have s5 := s2'.trans (same_new (o := HO.lst (((textsN 2 k).map digS).map V.str)) p0)
        generalize upd H4 p (HO.lst (((textsN 2 k).map digS).map V.str)) = H5 at hp5 s5 ⊢
        refine ⟨_, rfl, 2, k, rfl, by decide, by decide, by omega, fun j hj => texts_few j (by omega), fun H6 p6 s6 p60 hp6 => ?_⟩
        have td := textsD_ok k k6
        refine ⟨textsD k, textsD k, .lst (.of (s6 _ _ hp5)) (dp_strs _), .lst (.of hp6) (dp_strs _), td.1, td.1, ?_⟩
        rw [td.2]
        exact q _ (s5.trans s6)
      · have t3 : t + 1 < 2 ^ k := by omega
        obtain ⟨g1a, g1b⟩ := g1 t (List.mem_range.mpr (by omega))
        rw [g1a]
        refine iteF ?_
        have hat : atI (dstrs (orbs k (t + 1))) (-1) = some (.str (digS (orb k t))) := by
          unfold atI ixN
          have lo : (dstrs (orbs k (t + 1))).length = t + 1 := by rw [dstrs_len]; simp [orbs]
          rw [lo, if_neg (by decide), if_pos (by omega)]
          show (dstrs (orbs k (t + 1)))[((-1 : Int) + ((t + 1 : Nat) : Int)).toNat]? = _
          rw [show ((-1 : Int) + ((t + 1 : Nat) : Int)).toNat = t by omega, dstrs_get _ t (by simp [orbs])]
          simp [orbs]
        have l200 : ∀ x ∈ [orb k t, orb k (t + 1)], (digS x).length ≤ sizeLine := fun x hx => by
          rw [digS_len, sizeLine_eq]
          rcases List.mem_cons.mp hx with rfl | hx
          · omega
          · obtain rfl := List.mem_singleton.mp hx
            omega
        refine ⟨_, rfl, _, rfl, by omega, by omega, fun D hD => lc_range (Pv := fun i H' => H' D = some (.lst (((List.range i).filter fun j => decide ((orb k (t + 1)).getD j 0 ≠ (orb k t).getD j 0)).map fun (j : Nat) => V.int j)) ∧ Same H4 H') ⟨upd_same, same_new hD⟩ ?_ ?_⟩
        · rintro i H5 hi ⟨h5, s5⟩
          have hi : i < k := by omega
          have ia : i < (orb k (t + 1)).length := by omega
          have ib : i < (orb k t).length := by omega
          refine ⟨wipe1 _ _ _, _, rfl, _, rfl, digS (orb k (t + 1)), (0 + (i : Int)), 48 + (orb k (t + 1))[i], rfl, rfl, l200 _ (by simp), at_dig ia, _, rfl, 1, rfl, F, _, -1, _, rfl, rfl, .of (s5 _ _ hF4), hat, _, rfl, digS (orb k t), (0 + (i : Int)), 48 + (orb k t)[i], rfl, rfl, l200 _ (by simp), at_dig ib, rfl, _, rfl, ?_⟩
          have eg : decide ((orb k (t + 1)).getD i 0 ≠ (orb k t).getD i 0) = !decide (V.str ⟨#[48 + (orb k (t + 1))[i]]⟩ = V.str ⟨#[48 + (orb k t)[i]]⟩) := by
            rw [List.getD_eq_getElem?_getD, List.getD_eq_getElem?_getD, List.getElem?_eq_getElem ia, List.getElem?_eq_getElem ib]
            show decide ((orb k (t + 1))[i] ≠ (orb k t)[i]) = _
            by_cases e : (orb k (t + 1))[i] = (orb k t)[i]
            · rw [e]; simp
            · rw [decide_eq_true e, decide_eq_false (fun z => e (by injection z with z; injection z with z; have := congrArg (fun a => a.toList) z; simp at this; exact this))]
              rfl
          have em : (0 : Int) + (i : Int) = ((i : Nat) : Int) := by omega
          have few : (((List.range i).filter fun j => decide ((orb k (t + 1)).getD j 0 ≠ (orb k t).getD j 0)).map fun (j : Nat) => V.int j).length < sizeLine := by
            have := List.length_filter_le (fun j => decide ((orb k (t + 1)).getD j 0 ≠ (orb k t).getD j 0)) (List.range i)
            rw [List.length_range] at this
            rw [List.length_map, sizeLine_eq]
            omega
          have step : (List.range (i + 1)).filter (fun j => decide ((orb k (t + 1)).getD j 0 ≠ (orb k t).getD j 0)) = (List.range i).filter (fun j => decide ((orb k (t + 1)).getD j 0 ≠ (orb k t).getD j 0)) ++ (if decide ((orb k (t + 1)).getD i 0 ≠ (orb k t).getD i 0) = true then [i] else []) := by
            rw [List.range_succ, List.filter_append, List.filter_cons, List.filter_nil]
          rw [← eg]
          rw [step]
          cases decide ((orb k (t + 1)).getD i 0 ≠ (orb k t).getD i 0) with
          | true => exact iteT ⟨_, rfl, _, h5, few, by rw [upd_same, em, if_pos rfl, List.map_append]; rfl, same_put s5 hD⟩
          | false => exact iteF ⟨by rw [h5, if_neg (by decide), List.append_nil], s5⟩
        · rintro H5 ⟨h5, s5⟩
          refine ⟨D, _, rfl, .inl (.of h5), rfl, _, rfl, ?_⟩
          have e1 : ((((List.range ((k : Int)).toNat).filter fun j => decide ((orb k (t + 1)).getD j 0 ≠ (orb k t).getD j 0)).map fun (j : Nat) => V.int j).length : Int) = 1 := by
            rw [Int.toNat_natCast, List.length_map]
            show ((diffs k (orb k (t + 1)) (orb k t)).length : Int) = 1
            rw [g1b]
            rfl
          rw [e1]
          refine iteF ?_
          refine ⟨_, rfl, .inl ⟨rfl, _, .of (s5 _ _ hF4)⟩, _, rfl, F, _, _, rfl, rfl, s5 _ _ hF4, by rw [dstrs_len]; simp [orbs]; rw [sizeLine_eq]; omega, ⟨_, _, rfl⟩, ?_, fun b o z => by rw [upd_ne (ne_of_none z hF)]; exact s5 _ _ (s2' _ _ z), t3⟩
          rw [upd_same, orbs_snoc k (t + 1), dstrs_app]
          rfl
    · rintro σ H2 ⟨_, _, _, h⟩
      exfalso
      have h : (32 : Nat) < 2 ^ k := h
      omega
end
end My

set_option Elab.async false
set_option linter.all false
set_option maxRecDepth 100000
set_option maxHeartbeats 8000000
namespace My
open PySem PySem.Spec PyProof.Rows L2
theorem sh2 {a b : Str} (ha : PyData.strOk a = true) (hb : PyData.strOk b = true) : SeqAt.shaped (.tuple [.str a, .str b]) = true := by
  show (PyData.canLay0 (.tuple [.str a, .str b]) && decide (PyData.depth (.tuple [.str a, .str b]) ≤ 64)) = true
  have e : PyData.canLay0 (.tuple [.str a, .str b]) = true := by
    simp only [PyData.canLay0, PyData.canLayAll0, ha, hb, Bool.and_self]
  rw [e]
  simp [PyData.depth, PyData.depthAll]
theorem ok_dig {n : Nat} {ds : List Nat} (h : ∀ d ∈ ds, d < n) (n4 : n ≤ 4) : PyData.strOk (digS ds) = true := by
  show (digS ds).cps.all _ = true
  rw [← Array.all_toList]
  show (ds.map fun d => 48 + d).all _ = true
  rw [List.all_eq_true]
  intro c hc
  obtain ⟨d, hd, rfl⟩ := List.mem_map.mp hc
  have := h d hd
  exact decide_eq_true (by omega)
theorem eqv2 (a b c d : Str) : PyData.eqv (.tuple [.str a, .str b]) (.tuple [.str c, .str d]) = (decide (a = c) && decide (b = d)) := by
  show (a == c && (b == d && true)) = _
  rw [Bool.and_true]
  by_cases e : a = c <;> by_cases f : b = d <;> simp [e, f]
/-! ### the counter -/
theorem count_a (n : Nat) : rowAt (countT n) "a" = ((Str.ofString "a", addN n, behN n) : Tri) := by
  unfold rowAt countT
  rw [List.find?_cons, show decide (((Str.ofString "a", addN n, behN n) : Tri).1 = Str.ofString "a") = true from decide_eq_true rfl]
  rfl
theorem count_e (n : Nat) : rowAt (countT n) "e" = ((Str.ofString "e", upto n, List.replicate n (Str.ofString "e")) : Tri) := by
  unfold rowAt countT
  rw [List.find?_cons, show decide (((Str.ofString "a", addN n, behN n) : Tri).1 = Str.ofString "e") = false from (by decide +kernel : decide (Str.ofString "a" = Str.ofString "e") = false), List.find?_cons, show decide (((Str.ofString "e", upto n, List.replicate n (Str.ofString "e")) : Tri).1 = Str.ofString "e") = true from decide_eq_true rfl]
  rfl
theorem upto_getD {n d : Nat} (h : d < n) : ((upto n).getD d 0).toNat = d := by
  rw [List.getD_eq_getElem?_getD, List.getElem?_eq_getElem (by rw [upto_len]; exact h)]
  simp [upto]
theorem count_idle {n : Nat} : ∀ ds : List Nat, (∀ d ∈ ds, d < n) → led (countT n) "e" ds = (ds, Str.ofString "e")
  | [], _ => rfl
  | d :: ds, hd => by
    have dn := hd d List.mem_cons_self
    have ih := count_idle ds fun x hx => hd x (List.mem_cons_of_mem _ hx)
    have e2 : (List.replicate n (Str.ofString "e")).getD d Str.empty = Str.ofString "e" := by
      rw [List.getD_eq_getElem?_getD, List.getElem?_eq_getElem (by rw [List.length_replicate]; exact dn)]
      simp
    rw [led_cons, count_e, upto_getD dn, e2, ih]
theorem count_step {n d : Nat} (h : d < n) : ((addN n).getD d 0).toNat = (d + 1) % n ∧ (behN n).getD d Str.empty = if d = n - 1 then Str.ofString "a" else Str.ofString "e" := by
  refine ⟨?_, ?_⟩
  · rw [List.getD_eq_getElem?_getD, List.getElem?_eq_getElem (by simp [addN]; exact h)]
    simp only [addN, List.getElem_map, List.getElem_range, Option.getD_some]
    rw [show ((d : Int) + 1) % (n : Int) = (((d + 1) % n : Nat) : Int) by rw [Int.natCast_emod]; rfl, Int.toNat_natCast]
  · rw [List.getD_eq_getElem?_getD, List.getElem?_eq_getElem (by simp [behN]; exact h)]
    simp only [behN, List.getElem_map, List.getElem_range, Option.getD_some]
    by_cases e : d = n - 1
    · rw [if_pos e, if_pos (by omega)]
    · rw [if_neg e, if_neg (by omega)]
theorem count_adds {n : Nat} (n0 : 0 < n) : ∀ (k v : Nat), v < n ^ k → led (countT n) "a" (digitsN v n k) = (digitsN ((v + 1) % n ^ k) n k, if v = n ^ k - 1 then Str.ofString "a" else Str.ofString "e")
  | 0, v, h => by
    have : v = 0 := by simpa using h
    subst this
    rfl
  | k + 1, v, h => by
    have hm := Nat.mod_lt v n0
    have hv := Nat.div_add_mod v n
    have hp : 0 < n ^ k := Nat.pow_pos n0
    have hs : n ^ (k + 1) = n * n ^ k := by rw [Nat.pow_succ, Nat.mul_comm]
    have hq : v / n < n ^ k := by
      rw [hs] at h
      exact Nat.div_lt_of_lt_mul h
    rw [digitsN, led_cons, count_a]
    obtain ⟨c1, c2⟩ := count_step hm
    rw [show (((Str.ofString "a", addN n, behN n) : Tri).2.1.getD (v % n) 0).toNat = (v % n + 1) % n from c1, show ((Str.ofString "a", addN n, behN n) : Tri).2.2.getD (v % n) Str.empty = _ from c2]
    by_cases e : v % n = n - 1
    · rw [if_pos e, count_adds n0 k (v / n) hq, e]
      have e1 : (v + 1) % n ^ (k + 1) = n * ((v / n + 1) % n ^ k) := by
        rw [hs, ← Nat.mul_mod_mul_left]
        congr 1
        rw [Nat.mul_add, Nat.mul_one]
        omega
      have e2 : (v + 1) % n ^ (k + 1) % n = 0 := by rw [e1]; exact Nat.mul_mod_right _ _
      have e3 : (v + 1) % n ^ (k + 1) / n = (v / n + 1) % n ^ k := by rw [e1]; exact Nat.mul_div_cancel_left _ n0
      rw [digitsN, e2, e3, show (n - 1 + 1) % n = 0 by rw [Nat.sub_add_cancel n0]; exact Nat.mod_self n]
      have e4 : (v / n = n ^ k - 1) ↔ (v = n ^ (k + 1) - 1) := by
        rw [hs]
        constructor
        · intro q
          rw [q] at hv
          have : n * (n ^ k - 1) + n = n * n ^ k := by
            rw [← Nat.mul_succ, Nat.succ_eq_add_one, Nat.sub_add_cancel hp]
          omega
        · intro q
          have h1 : n * (v / n) + n = n * n ^ k := by
            have : 0 < n * n ^ k := Nat.mul_pos n0 hp
            omega
          have h2 : n * (v / n + 1) = n * n ^ k := by rw [Nat.mul_add, Nat.mul_one]; exact h1
          have h3 := Nat.eq_of_mul_eq_mul_left n0 h2
          omega
      by_cases q : v / n = n ^ k - 1
      · rw [if_pos q, if_pos (e4.mp q)]
      · rw [if_neg q, if_neg (fun z => q (e4.mpr z))]
    · rw [if_neg e, count_idle _ (digitsN_lt n0 _ _)]
      have ne : v ≠ n ^ (k + 1) - 1 := fun q => e (by
        have h0 : 0 < n ^ (k + 1) := Nat.pow_pos n0
        have : v + 1 = n * n ^ k := by rw [← hs]; omega
        have h1 : (v + 1) % n = 0 := by rw [this]; exact Nat.mul_mod_right _ _
        have h2 : (v % n + 1) % n = 0 := by rw [← h1]; simp
        by_cases z : v % n + 1 < n
        · rw [Nat.mod_eq_of_lt z] at h2
          omega
        · omega)
      have lt1 : v % n + 1 < n := by omega
      have big : (v + 1) % n ^ (k + 1) = v + 1 := Nat.mod_eq_of_lt (by omega)
      have m1 : (v + 1) % n = v % n + 1 := by
        rw [Nat.add_mod, show (1 : Nat) % n = 1 from Nat.mod_eq_of_lt (by omega)]
        exact Nat.mod_eq_of_lt lt1
      have d1 : (v + 1) / n = v / n := by
        have := Nat.div_add_mod (v + 1) n
        rw [m1] at this
        have : n * ((v + 1) / n) = n * (v / n) := by omega
        exact Nat.eq_of_mul_eq_mul_left n0 this
      rw [if_neg ne, big, digitsN, m1, d1, Nat.mod_eq_of_lt lt1]
/-! ### undone -/
theorem und_led {n : Nat} {ws us ws' : List (Row × Addr)} (g : GoodM n (ws.map Prod.fst)) (u : UndRows ws us) (p : ws'.Perm us) : ∀ (ds : List Nat) (s : Str), s ∈ (ws.map Prod.fst).map Row.nm → (∀ d ∈ ds, d < n) → (led (tris ws') s (led (tris ws) s ds).1).1 = ds
  | [], _, _, _ => rfl
  | d :: ds, s, hs, hd => by
    have gu := u.good g
    have pr : (ws'.map Prod.fst).Perm (us.map Prod.fst) := p.map _
    have g' := gu.perm pr
    obtain ⟨r, hr, rfl⟩ := List.mem_map.mp hs
    obtain ⟨wr, hw, rfl⟩ := List.mem_map.mp hr
    obtain ⟨j, hj, rfl⟩ := List.getElem_of_mem hw
    have hj' : j < us.length := by rw [u.len]; exact hj
    have ur := u.at_ j hj hj'
    have hv : us[j].1 ∈ ws'.map Prod.fst := pr.mem_iff.mpr (List.mem_map.mpr ⟨_, List.getElem_mem hj', rfl⟩)
    obtain ⟨e, h1, h2, e1, e2, e3, e4, e5⟩ := row_step g hr (hd d List.mem_cons_self)
    obtain ⟨f, k1, k2, f1, f2, f3, f4, f5⟩ := row_step g' hv e2
    have ee : ws[j].1.turn[d].toNat = e := by rw [e1]; rfl
    have back := ur.und.at_ d h1
    rw [ee] at back
    obtain ⟨_, back⟩ := List.getElem?_eq_some_iff.mp back
    rw [back] at f1
    have fd : d = f := by omega
    subst fd
    have nx : us[j].1.nexts[e] = ws[j].1.nexts[d] := by
      have q := ur.nexts
      have q1 : us[j].1.nexts[e]? = (pick ws[j].1.nexts us[j].1.turn)[e]? := by rw [q]
      rw [List.getElem?_eq_getElem k2] at q1
      unfold pick at q1
      rw [List.getElem?_map, List.getElem?_eq_getElem k1, back, Option.map_some, Int.toNat_natCast, List.getD_eq_getElem?_getD, List.getElem?_eq_getElem h2] at q1
      exact Option.some.inj q1
    have e3 : ((rowAt (tris ws) ws[j].1.nm).2.1.getD d 0).toNat = e := e3
    have e4 : (rowAt (tris ws) ws[j].1.nm).2.2.getD d Str.empty = ws[j].1.nexts[d] := e4
    have f3 : ((rowAt (tris ws') us[j].1.nm).2.1.getD e 0).toNat = d := f3
    have f4 : (rowAt (tris ws') us[j].1.nm).2.2.getD e Str.empty = us[j].1.nexts[e] := f4
    rw [ur.nm] at f3 f4
    have ih := und_led g u p ds _ e5 fun x hx => hd x (List.mem_cons_of_mem _ hx)
    rw [led_cons, e3, e4]
    show (led (tris ws') ws[j].1.nm (e :: (led (tris ws) ws[j].1.nexts[d] ds).1)).1 = _
    rw [led_cons, f3, f4, nx]
    show d :: (led (tris ws') ws[j].1.nexts[d] (led (tris ws) ws[j].1.nexts[d] ds).1).1 = _
    rw [ih]
end My

set_option Elab.async false
set_option linter.all false
set_option maxRecDepth 100000
set_option maxHeartbeats 8000000
namespace My
open PySem PySem.Spec PyProof.Rows L2
def spCounts : Sp := fun vs H Q _ => ∃ (u : Addr) (n : Nat), vs = [.ref u, .int n] ∧ UrnOk H u ∧ 2 ≤ n ∧ n ≤ 4 ∧ ∀ H', Drew u H H' → Q (.bl true) H'
section
variable {P : Program} {w : World} {K : PySem.W.Frag} {mg : Str → Option Value} {base : Heap}
theorem ok_counts (T : Tx K mg) : FnOk P w K mg base CX0 12 T.f_counts T.d_counts p_counts spCounts := by
  refine T.F_counts.ok sc_counts (fun vs H Q E h => ?_) (fun cdv A outer s H vs Q E hr h => ?_)
  · obtain ⟨u, n, rfl, _⟩ := h
    rfl
  · obtain ⟨u, n, rfl, hu, n2, n4, q⟩ := h
    refine ⟨_, (pss_cons (ps_set (i := 2) sc_counts.nd rfl (by first | exact Or.inl rfl | exact Or.inr rfl) (pe_call (ok_dip T) (hr.mono (by decide)) rfl T.m_dip T.F_dip.kp T.b_dip .nil pass0 (pa_cons (pv 0) (pa_cons pe_int pa_nil))))
    (pss_cons (ps_set (i := 3) sc_counts.nd rfl (by first | exact Or.inl rfl | exact Or.inr rfl) pe_int)
    (pss_cons (ps_for PassesOwn.never rfl (pi_range1 (by rfl) T.range (pa_cons (pv 2) pa_nil)) (pg_name (i := 4) sc_counts.nd rfl (by first | exact Or.inl rfl | exact Or.inr rfl))
    (pss_one (ps_set (i := 3) sc_counts.nd rfl (by first | exact Or.inl rfl | exact Or.inr rfl) (pe_op op_mulW (pv 3) (pv 1)))))
    (pss_cons (ps_set (i := 5) sc_counts.nd rfl (by first | exact Or.inl rfl | exact Or.inr rfl) (pe_op op_mod (pe_callTy call_int1 (by rfl) T.int (by decide +kernel) (pa_cons (pe_op op_add (pe_op op_mulW (pe_call (ok_dip T) (hr.mono (by decide)) rfl T.m_dip T.F_dip.kp T.b_dip .nil pass0 (pa_cons (pv 0) (pa_cons (pe_op op_powB pe_int pe_int) pa_nil))) (pe_op op_powB pe_int pe_int)) (pe_call (ok_dip T) (hr.mono (by decide)) rfl T.m_dip T.F_dip.kp T.b_dip .nil pass0 (pa_cons (pv 0) (pa_cons (pe_op op_powB pe_int pe_int) pa_nil)))) pa_nil)) (pv 3)))
    (C8.pss_cut (ps_if (pt_cmpR op_eq (pe_call (ok_dip T) (hr.mono (by decide)) rfl T.m_dip T.F_dip.kp T.b_dip .nil pass0 (pa_cons (pv 0) (pa_cons pe_int pa_nil))) pe_int (nomark _))
      (pss_one (ps_set (i := 5) sc_counts.nd rfl (by first | exact Or.inl rfl | exact Or.inr rfl) (pe_op op_sub (pv 3) pe_int)))
      pss_nil)
    (pss_cons (ps_set (i := 6) sc_counts.nd rfl (by first | exact Or.inl rfl | exact Or.inr rfl) (pe_meth (pl := _) (pe_call (ok_counter T) (hr.mono (by decide)) rfl T.m_counter T.F_counter.kp T.b_counter .nil pass0 (pa_cons (pv 1) pa_nil)) T.cl_Machine T.mt_Machine_step (ok_Machine_step T) (hr.mono (by decide)) T.b_Machine_step .nil pass0 (pa_cons pe_str (pa_cons (pe_call (ok_digits T) (hr.mono (by decide)) rfl T.m_digits T.F_digits.kp T.b_digits .nil pass0 (pa_cons (pv 5) (pa_cons (pv 1) (pa_cons (pv 2) pa_nil)))) pa_nil))))
    (pss_cons (ps_if (pt_cmpR (neK K hr.units) (pv 6) (pe_tup (pa_cons (pe_call (ok_digits T) (hr.mono (by decide)) rfl T.m_digits T.F_digits.kp T.b_digits .nil pass0 (pa_cons (pe_op op_mod (pe_callTy call_int1 (by rfl) T.int (by decide +kernel) (pa_cons (pe_op op_add (pv 5) pe_int) pa_nil)) (pv 3)) (pa_cons (pv 1) (pa_cons (pv 2) pa_nil)))) (pa_cons (pe_ifExp (pt_cmpR op_eq (pv 5) (pe_op op_sub (pv 3) pe_int) (nomark _)) pe_str pe_str) pa_nil))) (nomark _))
      (pss_one (ps_ret pe_bl))
      pss_nil)
    (pss_one (ps_ret (pe_cmpR op_eq (pe_ix (ixT K) (pe_meth (pl := _) (pe_un (un_invO (ok_Machine_invert T) (hr.mono (by decide)) T.b_Machine_invert pass0 T.mt_Machine_invert) (pe_call (ok_counter T) (hr.mono (by decide)) rfl T.m_counter T.F_counter.kp T.b_counter .nil pass0 (pa_cons (pv 1) pa_nil))) T.cl_Machine T.mt_Machine_step (ok_Machine_step T) (hr.mono (by decide)) T.b_Machine_step .nil pass0 (pa_cons pe_str (pa_cons (pe_ix (ixT K) (pv 6) pe_int (fun _ _ => rfl)) pa_nil))) pe_int (fun _ _ => rfl)) (pe_call (ok_digits T) (hr.mono (by decide)) rfl T.m_digits T.F_digits.kp T.b_digits .nil pass0 (pa_cons (pv 5) (pa_cons (pv 1) (pa_cons (pv 2) pa_nil)))) (nomark _))))))))))), ?_⟩
    have n0 : 0 < n := by omega
    refine ⟨_, rfl, u, _, rfl, hu, by decide, by decide, fun H1 L d1 L0 L1 => ?_⟩
    have small : ∀ i, i ≤ 40 → n ^ i ≤ 2 ^ 80 := fun i hi => Nat.le_trans (Nat.pow_le_pow_left n4 i) (Nat.le_trans (Nat.pow_le_pow_right (by decide) hi) (by decide))
    refine ⟨_, rfl, _, rfl, by omega, by omega, for_range (Pv := fun i σ H' => (∃ v4 v5 v6 : Option V, σ = [some (.ref u), some (.int n), some (.int L), some (.int ((n ^ i : Nat) : Int)), v4, v5, v6]) ∧ H' = H1) ⟨⟨_, _, _, rfl⟩, rfl⟩ ?_ ?_⟩
    · rintro i σ H2 hi ⟨⟨v4, v5, v6, rfl⟩, rfl⟩
      have s1 := small i (by omega)
      refine ⟨_, rfl, _, rfl, _, _, rfl, rfl, wide_mul (a := 81) (b := 3) (by omega) (by omega) (by decide) (by decide) (by decide), ⟨some (.int (0 + (i : Int))), v5, v6, ?_⟩, rfl⟩
      rw [Nat.pow_succ, Int.natCast_mul]
      rfl
    · rintro σ H2 ⟨⟨v4, v5, v6, rfl⟩, rfl⟩
      have hW : 0 < n ^ (L.toNat) := Nat.pow_pos n0
      have sW := small L.toNat (by omega)
      refine ⟨_, rfl, ⟨10, 9, rfl, rfl, ⟨by decide, by decide +kernel⟩, u, _, rfl, d1.1, by decide +kernel, by decide +kernel, fun H2 r1 d2 r10 r11 => ?_⟩⟩
      have e9 : (10 : Int) ^ (9 : Int).toNat = 1000000000 := by decide +kernel
      have e15 : (10 : Int) ^ (15 : Int).toNat = 1000000000000000 := by decide +kernel
      rw [e9] at r11
      refine ⟨10, 15, rfl, rfl, ⟨by decide, by decide +kernel⟩, _, _, rfl, rfl, wide_mul (a := 30) (b := 50) (by omega) (by rw [e15]; decide) (by decide) (by decide) (by decide), ?_⟩
      refine ⟨_, rfl, ⟨10, 15, rfl, rfl, ⟨by decide, by decide +kernel⟩, u, _, rfl, d2.1, by decide +kernel, by decide +kernel, fun H3 r2 d3 r20 r21 => ?_⟩⟩
      rw [e15]
      refine ⟨_, _, rfl, rfl, .inl ⟨_, rfl, _, rfl, _, _, rfl, rfl, by show (0 : Int) < ((n ^ L.toNat : Nat) : Int); omega, ?_⟩⟩
      have d13 := (d1.trans d2).trans d3
      have x0 : 0 ≤ (r1 * 1000000000000000 + r2) % ((n ^ L.toNat : Nat) : Int) := Int.emod_nonneg _ (by omega)
      have x1 : (r1 * 1000000000000000 + r2) % ((n ^ L.toNat : Nat) : Int) < ((n ^ L.toNat : Nat) : Int) := Int.emod_lt_of_pos _ (by omega)
      obtain ⟨x, hx⟩ : ∃ x, x = (r1 * 1000000000000000 + r2) % ((n ^ L.toNat : Nat) : Int) := ⟨_, rfl⟩
      rw [← hx] at x0 x1
      refine ⟨fun σ H' => ∃ (v : Nat) (v4 v6 : Option V), v < n ^ L.toNat ∧ σ = [some (.ref u), some (.int n), some (.int L), some (.int ((n ^ L.toNat : Nat) : Int)), v4, some (.int (v : Nat)), v6] ∧ Drew u H H', ?_, ?_⟩
      · refine ⟨_, rfl, u, _, rfl, d3.1, by decide, by decide, fun H4 r d4 _ _ => ⟨rfl, _, rfl, ite2 (fun _ => ?_) (fun _ => ?_)⟩⟩
        · refine ⟨_, rfl, _, _, rfl, rfl, n ^ L.toNat - 1, v4, v6, by omega, ?_, d13.trans d4⟩
          rw [show ((n ^ L.toNat - 1 : Nat) : Int) = ((n ^ L.toNat : Nat) : Int) - 1 by omega]
          rfl
        · refine ⟨x.toNat, v4, v6, by omega, ?_, d13.trans d4⟩
          rw [Int.toNat_of_nonneg x0, hx]
          rfl
      · rintro σ H4 ⟨v, v4, v6, hv, rfl, d4⟩
        have nm : ∀ {ws : List (Row × Addr)}, tris ws = countT n → (Str.ofString "a") ∈ (ws.map Prod.fst).map Row.nm := fun {ws} et => by
          have : (ws.map Prod.fst).map Row.nm = (tris ws).map (·.1) := by rw [tris_nms, List.map_map]; rfl
          rw [this, et]
          exact List.mem_cons_self
        have vL : ∀ z : V, [V.int ((v : Nat) : Int), z, V.int L] = [V.int ((v : Nat) : Int), z, V.int ((L.toNat : Nat) : Int)] := fun z => by rw [Int.toNat_of_nonneg L0]
        have v4' : v < 2 ^ 400 := Nat.lt_of_lt_of_le (Nat.lt_of_lt_of_le hv sW) (by decide)
        have dl := digitsN_len L.toNat v n
        have dlt := digitsN_lt n0 L.toNat v
        have ca := count_adds n0 L.toNat v hv
        refine ⟨_, rfl, n, rfl, n2, n4, fun H5 o dx st td ws s5 o0 m et => ?_⟩
        refine ⟨o, dx, _, rfl, m.obj, mF_no _ _ _ (by decide) (by decide) (by decide), _, rfl, _, rfl, _, rfl, v, n, L.toNat, vL _, n0, n4, by omega, v4', ?_⟩
        refine ⟨o, dx, st, td, n, ws, "a", digitsN v n L.toNat, rfl, m, nm et, dlt, by omega, fun H6 t6 s6 t60 ht6 => ?_⟩
        rw [et, ca] at ht6
        have ht6 : H6 t6 = some (.tup [.str (digS (digitsN ((v + 1) % n ^ L.toNat) n L.toNat)), .str (if v = n ^ L.toNat - 1 then Str.ofString "a" else Str.ofString "e")]) := ht6
        have hv1 : (v + 1) % n ^ L.toNat < n ^ L.toNat := Nat.mod_lt _ hW
        have dlt1 := digitsN_lt n0 L.toNat ((v + 1) % n ^ L.toNat)
        have dl1 := digitsN_len L.toNat ((v + 1) % n ^ L.toNat) n
        have vD : [V.int (((v : Nat) : Int) + 1) , V.int n, V.int L] = [V.int (((v + 1 : Nat)) : Int), V.int n, V.int ((L.toNat : Nat) : Int)] := by rw [Int.toNat_of_nonneg L0]; rfl
        have eM : ((((v : Nat) : Int) + 1) % ((n ^ L.toNat : Nat) : Int)) = (((v + 1) % n ^ L.toNat : Nat) : Int) := by rw [Int.natCast_emod]; rfl
        have ln : ((n ^ L.toNat : Nat) : Int) - 1 = ((n ^ L.toNat - 1 : Nat) : Int) := by omega
        have v5' : (v + 1) % n ^ L.toNat < 2 ^ 400 := Nat.lt_of_lt_of_le (Nat.lt_of_lt_of_le hv1 sW) (by decide)
        refine ⟨_, rfl, _, rfl, _, _, rfl, rfl, .inl ⟨_, rfl, _, rfl, _, _, rfl, rfl, by show (0 : Int) < ((n ^ L.toNat : Nat) : Int); omega, _, rfl, _, rfl, (v + 1) % n ^ L.toNat, n, L.toNat, by rw [← eM, Int.toNat_of_nonneg L0]; rfl, n0, n4, by omega, v5', _, rfl, _, rfl, _, _, rfl, rfl, rfl, _, rfl, ?_⟩⟩
        have dec : decide (V.int ((v : Nat) : Int) = V.int (((n ^ L.toNat : Nat) : Int) - 1)) = decide (v = n ^ L.toNat - 1) := by
          by_cases e : v = n ^ L.toNat - 1
          · rw [decide_eq_true e, decide_eq_true (by rw [ln, ← e])]
          · rw [decide_eq_false e, decide_eq_false (fun z => e (by injection z with z; omega))]
        rw [dec]
        have s56 := s5.trans s6
        have d6 := d4.same s56
        by_cases e : v = n ^ L.toNat - 1
        · rw [if_pos e] at ht6
          rw [decide_eq_true e]
          refine iteT ?_
          refine ⟨by show 2 ≤ sizeLine; decide, fun p hp => ?_⟩
          have s7 := same_new (o := HO.tup [.str (digS (digitsN ((v + 1) % n ^ L.toNat) n L.toNat)), .str "a"]) hp
          have ht7 := s7 _ _ ht6
          refine ⟨.tuple [.str (digS (digitsN ((v + 1) % n ^ L.toNat) n L.toNat)), .str "a"], .tuple [.str (digS (digitsN ((v + 1) % n ^ L.toNat) n L.toNat)), .str "a"], .tup (.of ht7) (.cons (.str _) (.cons (.str _) .nil)), .tup (.of upd_same) (.cons (.str _) (.cons (.str _) .nil)), sh2 (ok_dig dlt1 n4) (by decide +kernel), sh2 (ok_dig dlt1 n4) (by decide +kernel), _, rfl, ?_⟩
          rw [eqv2, decide_eq_true rfl, decide_eq_true rfl]
          refine iteF ?_
          generalize upd H6 p (HO.tup [.str (digS (digitsN ((v + 1) % n ^ L.toNat) n L.toNat)), .str "a"]) = H7 at s7 ht7 ⊢
          refine ⟨_, rfl, n, rfl, n2, n4, fun H8 o2 dx2 st2 td2 ws2 s8 o20 m2 et2 => ?_⟩
          refine ⟨o2, dx2, _, rfl, m2.obj, o2, dx2, st2, td2, n, ws2, rfl, m2, fun H9 o3 dx3 st3 td3 us ws3 s9 o30 m3 uu pp => ?_⟩
          have ht9 := s9 _ _ (s8 _ _ ht7)
          have n3 : Str.ofString "a" ∈ (ws3.map Prod.fst).map Row.nm := by
            have e1 : (ws3.map Prod.fst).map Row.nm = ws3.map fun r => r.1.nm := by rw [List.map_map]; rfl
            have e2 : (ws2.map Prod.fst).map Row.nm = ws2.map fun r => r.1.nm := by rw [List.map_map]; rfl
            have := nm et2
            rw [e2, ← uu.nms] at this
            rw [e1]
            exact (pp.map fun r => r.1.nm).mem_iff.mpr this
          refine ⟨o3, dx3, _, rfl, m3.obj, mF_no _ _ _ (by decide) (by decide) (by decide), _, rfl, t6, _, 0, _, rfl, rfl, .of ht9, rfl, o3, dx3, st3, td3, n, ws3, "a", digitsN ((v + 1) % n ^ L.toNat) n L.toNat, rfl, m3, n3, dlt1, by omega, fun HA tA sA tA0 htA => ?_⟩
          have ul := und_led m2.good uu pp (digitsN v n L.toNat) "a" (nm et2) dlt
          rw [et2, ca] at ul
          refine ⟨tA, _, 0, _, rfl, rfl, .of htA, rfl, _, rfl, _, rfl, _, rfl, v, n, L.toNat, vL _, n0, n4, by omega, v4', rfl, ?_⟩
          rw [show (led (tris ws3) "a" (digitsN ((v + 1) % n ^ L.toNat) n L.toNat)).1 = digitsN v n L.toNat from ul, decide_eq_true rfl]
          exact q _ ((((d6.same s7).same s8).same s9).same sA)
        · rw [if_neg e] at ht6
          rw [decide_eq_false e]
          refine iteF ?_
          refine ⟨by show 2 ≤ sizeLine; decide, fun p hp => ?_⟩
          have s7 := same_new (o := HO.tup [.str (digS (digitsN ((v + 1) % n ^ L.toNat) n L.toNat)), .str "e"]) hp
          have ht7 := s7 _ _ ht6
          refine ⟨.tuple [.str (digS (digitsN ((v + 1) % n ^ L.toNat) n L.toNat)), .str "e"], .tuple [.str (digS (digitsN ((v + 1) % n ^ L.toNat) n L.toNat)), .str "e"], .tup (.of ht7) (.cons (.str _) (.cons (.str _) .nil)), .tup (.of upd_same) (.cons (.str _) (.cons (.str _) .nil)), sh2 (ok_dig dlt1 n4) (by decide +kernel), sh2 (ok_dig dlt1 n4) (by decide +kernel), _, rfl, ?_⟩
          rw [eqv2, decide_eq_true rfl, decide_eq_true rfl]
          refine iteF ?_
          generalize upd H6 p (HO.tup [.str (digS (digitsN ((v + 1) % n ^ L.toNat) n L.toNat)), .str "e"]) = H7 at s7 ht7 ⊢
          refine ⟨_, rfl, n, rfl, n2, n4, fun H8 o2 dx2 st2 td2 ws2 s8 o20 m2 et2 => ?_⟩
          refine ⟨o2, dx2, _, rfl, m2.obj, o2, dx2, st2, td2, n, ws2, rfl, m2, fun H9 o3 dx3 st3 td3 us ws3 s9 o30 m3 uu pp => ?_⟩
          have ht9 := s9 _ _ (s8 _ _ ht7)
          have n3 : Str.ofString "a" ∈ (ws3.map Prod.fst).map Row.nm := by
            have e1 : (ws3.map Prod.fst).map Row.nm = ws3.map fun r => r.1.nm := by rw [List.map_map]; rfl
            have e2 : (ws2.map Prod.fst).map Row.nm = ws2.map fun r => r.1.nm := by rw [List.map_map]; rfl
            have := nm et2
            rw [e2, ← uu.nms] at this
            rw [e1]
            exact (pp.map fun r => r.1.nm).mem_iff.mpr this
          refine ⟨o3, dx3, _, rfl, m3.obj, mF_no _ _ _ (by decide) (by decide) (by decide), _, rfl, t6, _, 0, _, rfl, rfl, .of ht9, rfl, o3, dx3, st3, td3, n, ws3, "a", digitsN ((v + 1) % n ^ L.toNat) n L.toNat, rfl, m3, n3, dlt1, by omega, fun HA tA sA tA0 htA => ?_⟩
          have ul := und_led m2.good uu pp (digitsN v n L.toNat) "a" (nm et2) dlt
          rw [et2, ca] at ul
          refine ⟨tA, _, 0, _, rfl, rfl, .of htA, rfl, _, rfl, _, rfl, _, rfl, v, n, L.toNat, vL _, n0, n4, by omega, v4', rfl, ?_⟩
          rw [show (led (tris ws3) "a" (digitsN ((v + 1) % n ^ L.toNat) n L.toNat)).1 = digitsN v n L.toNat from ul, decide_eq_true rfl]
          exact q _ ((((d6.same s7).same s8).same s9).same sA)
end
end My

set_option Elab.async false
set_option linter.all false
set_option maxRecDepth 100000
set_option maxHeartbeats 8000000
namespace My
open PySem PySem.Spec PyProof.Rows L2
def isDisc (a b d : Nat) : Bool := decide (d = a) || decide (d = b)
/-- the first letter that is one of two becomes the other one -/
def swp (a b : Nat) : List Nat → List Nat
  | [] => []
  | d :: ds => if isDisc a b d = true then (if d = a then b else a) :: ds else d :: swp a b ds
def idxs (a b : Nat) (ds : List Nat) : List Nat := (List.range ds.length).filter fun j => isDisc a b (ds.getD j 0)
theorem idxs_cons (a b d : Nat) (ds : List Nat) : idxs a b (d :: ds) = (if isDisc a b d = true then [0] else []) ++ (idxs a b ds).map (· + 1) := by
  unfold idxs
  rw [List.length_cons, List.range_succ_eq_map, List.filter_cons, List.filter_map]
  have e : ((fun j => isDisc a b ((d :: ds).getD j 0)) ∘ Nat.succ) = fun j => isDisc a b (ds.getD j 0) := by
    funext j
    simp
  rw [e]
  show (if isDisc a b d = true then _ else _) = _
  split
  · rfl
  · rfl
theorem swp_none {a b : Nat} : ∀ {ds : List Nat}, idxs a b ds = [] → swp a b ds = ds ∧ ds.any (isDisc a b) = false
  | [], _ => ⟨rfl, rfl⟩
  | d :: ds, h => by
    rw [idxs_cons] at h
    by_cases e : isDisc a b d = true
    · rw [if_pos e] at h
      cases h
    · rw [if_neg e] at h
      have h2 : idxs a b ds = [] := by simpa using h
      obtain ⟨h3, h4⟩ := swp_none h2
      refine ⟨?_, ?_⟩
      · show (if isDisc a b d = true then _ else _) = _
        rw [if_neg e, h3]
      · rw [List.any_cons, h4, Bool.or_false]
        simpa using e
theorem swp_some {a b : Nat} : ∀ {ds : List Nat} {k : Nat} {r : List Nat}, idxs a b ds = k :: r → ∃ h : k < ds.length, swp a b ds = ds.take k ++ [if ds[k] = a then b else a] ++ ds.drop (k + 1) ∧ ds.any (isDisc a b) = true
  | [], k, r, h => by cases h
  | d :: ds, k, r, h => by
    rw [idxs_cons] at h
    by_cases e : isDisc a b d = true
    · rw [if_pos e] at h
      injection h with h1 h2
      subst h1
      refine ⟨Nat.zero_lt_succ _, ?_, ?_⟩
      · show (if isDisc a b d = true then _ else _) = _
        rw [if_pos e]
        simp
      · rw [List.any_cons, e, Bool.true_or]
    · rw [if_neg e, List.nil_append] at h
      cases q : idxs a b ds with
      | nil => rw [q] at h; cases h
      | cons j r' =>
        rw [q] at h
        injection h with h1 h2
        subst h1
        obtain ⟨hj, h3, h4⟩ := swp_some q
        refine ⟨Nat.succ_lt_succ hj, ?_, ?_⟩
        · show (if isDisc a b d = true then _ else _) = _
          rw [if_neg e, h3]
          simp
        · rw [List.any_cons, h4, Bool.or_true]
theorem swp_swp {a b : Nat} (ab : a ≠ b) : ∀ ds : List Nat, swp a b (swp a b ds) = ds
  | [] => rfl
  | d :: ds => by
    show swp a b (if isDisc a b d = true then _ else _) = _
    by_cases e : isDisc a b d = true
    · rw [if_pos e]
      have e2 : isDisc a b (if d = a then b else a) = true := by
        unfold isDisc
        by_cases z : d = a <;> simp [z]
      show (if isDisc a b (if d = a then b else a) = true then _ else _) = _
      rw [if_pos e2]
      congr 1
      unfold isDisc at e
      by_cases z : d = a
      · rw [if_pos z, if_neg (Ne.symm ab), z]
      · rw [if_neg z, if_pos rfl]
        simp [z] at e
        exact e.symm
    · rw [if_neg e]
      show (if isDisc a b d = true then _ else _) = _
      rw [if_neg e, swp_swp ab ds]
theorem swp_lt {a b n : Nat} (ha : a < n) (hb : b < n) : ∀ {ds : List Nat}, (∀ d ∈ ds, d < n) → ∀ d ∈ swp a b ds, d < n
  | [], _, d, h => absurd h List.not_mem_nil
  | c :: ds, hd, d, h => by
    have h : d ∈ (if isDisc a b c = true then (if c = a then b else a) :: ds else c :: swp a b ds) := h
    split at h
    · rcases List.mem_cons.mp h with rfl | h
      · split
        · exact hb
        · exact ha
      · exact hd d (List.mem_cons_of_mem _ h)
    · rcases List.mem_cons.mp h with rfl | h
      · exact hd d List.mem_cons_self
      · exact swp_lt ha hb (fun x hx => hd x (List.mem_cons_of_mem _ hx)) d h
theorem swp_len {a b : Nat} : ∀ ds : List Nat, (swp a b ds).length = ds.length
  | [] => rfl
  | c :: ds => by
    show (if isDisc a b c = true then (if c = a then b else a) :: ds else c :: swp a b ds).length = _
    split
    · rfl
    · rw [List.length_cons, List.length_cons, swp_len ds]
/-- a state of the towers -/
structure Tow (s : Str) (a b : Nat) : Prop where
  la : a < 3
  lb : b < 3
  ne : a ≠ b
  inn : s ∈ towersT.map (·.1)
  ok : PyData.strOk s = true
  row : ∀ d, d < 3 → (((rowAt towersT s).2.1.getD d 0).toNat = if isDisc a b d = true then (if d = a then b else a) else d) ∧ (rowAt towersT s).2.2.getD d Str.empty = if isDisc a b d = true then Str.ofString "e" else s
theorem rowTe : rowAt towersT "e" = (("e", [0, 1, 2], ["e", "e", "e"]) : Tri) := by decide +kernel
theorem tow_idle : ∀ ds : List Nat, (∀ d ∈ ds, d < 3) → led towersT "e" ds = (ds, Str.ofString "e")
  | [], _ => rfl
  | d :: ds, hd => by
    have d2 := hd d List.mem_cons_self
    have ih := tow_idle ds fun x hx => hd x (List.mem_cons_of_mem _ hx)
    rw [led_cons, rowTe]
    match d, d2 with
    | 0, _ =>
      show (0 :: (led towersT "e" ds).1, (led towersT "e" ds).2) = _
      rw [ih]
    | 1, _ =>
      show (1 :: (led towersT "e" ds).1, (led towersT "e" ds).2) = _
      rw [ih]
    | 2, _ =>
      show (2 :: (led towersT "e" ds).1, (led towersT "e" ds).2) = _
      rw [ih]
theorem tow_led {s : Str} {a b : Nat} (t : Tow s a b) : ∀ ds : List Nat, (∀ d ∈ ds, d < 3) → led towersT s ds = (swp a b ds, if ds.any (isDisc a b) = true then Str.ofString "e" else s)
  | [], _ => rfl
  | d :: ds, hd => by
    obtain ⟨r1, r2⟩ := t.row d (hd d List.mem_cons_self)
    have id := tow_idle ds fun x hx => hd x (List.mem_cons_of_mem _ hx)
    have ih := tow_led t ds fun x hx => hd x (List.mem_cons_of_mem _ hx)
    rw [led_cons, r1, r2]
    show _ = ((if isDisc a b d = true then (if d = a then b else a) :: ds else d :: swp a b ds), _)
    by_cases e : isDisc a b d = true
    · rw [if_pos e, if_pos e, if_pos e, id, List.any_cons, e, Bool.true_or]
      rfl
    · rw [if_neg e, if_neg e, if_neg e, ih, List.any_cons, show isDisc a b d = false by simpa using e, Bool.false_or]
theorem towA : Tow "a" 0 1 := ⟨by decide, by decide, by decide, by decide +kernel, by decide +kernel, by decide +kernel⟩
theorem towB : Tow "b" 0 2 := ⟨by decide, by decide, by decide, by decide +kernel, by decide +kernel, by decide +kernel⟩
theorem towC : Tow "c" 1 2 := ⟨by decide, by decide, by decide, by decide +kernel, by decide +kernel, by decide +kernel⟩
end My

set_option Elab.async false
set_option linter.all false
set_option maxRecDepth 100000
set_option maxHeartbeats 8000000
namespace My
open PySem PySem.Spec PyProof.Rows L2
theorem cut_dig_to {ds : List Nat} {k : Nat} (h : k ≤ ds.length) : cutS (digS ds) none (some (k : Int)) = digS (ds.take k) := by
  have e : (digS ds).cps.toList = ds.map fun d => 48 + d := rfl
  unfold cutS
  rw [e, digS_len, HT.sIx_none, HT.sIx_nat, Nat.min_eq_left h, List.drop_zero, Nat.sub_zero, ← List.map_take]
  rfl
theorem cut_dig_from {ds : List Nat} {k : Nat} (h : k < ds.length) : cutS (digS ds) (some ((k : Int) + 1)) none = digS (ds.drop (k + 1)) := by
  have e : (digS ds).cps.toList = ds.map fun d => 48 + d := rfl
  unfold cutS
  rw [show ((k : Int) + 1) = ((k + 1 : Nat) : Int) from rfl, e, digS_len, HT.sIx_none, HT.sIx_nat, Nat.min_eq_left (by omega), ← List.map_drop, ← List.map_take, List.take_of_length_le (by rw [List.length_drop]; exact Nat.le_refl _)]
  rfl
theorem dig_dec (a b : Nat) : decide (dig a = dig b) = decide (b = a) := by
  by_cases e : b = a
  · subst e; simp
  · rw [decide_eq_false e, decide_eq_false (fun z => e ?_)]
    have := congrArg (fun s : Str => s.cps.toList) z
    simp [dig] at this
    omega
def spTow : Sp := fun vs H Q _ => ∃ (u : Addr), vs = [.ref u] ∧ UrnOk H u ∧ ∀ H', Drew u H H' → Q (.bl true) H'
section
variable {P : Program} {w : World} {K : PySem.W.Frag} {mg : Str → Option Value} {base : Heap}
theorem ok_towers_right (T : Tx K mg) : FnOk P w K mg base CX0 12 T.f_towers_right T.d_towers_right p_towers_right spTow := by
  refine T.F_towers_right.ok sc_towers_right (fun vs H Q E h => ?_) (fun cdv A outer s H vs Q E hr h => ?_)
  · obtain ⟨u, rfl, _⟩ := h
    rfl
  · obtain ⟨u, rfl, hu, q⟩ := h
    refine ⟨_, (pss_cons (ps_set (i := 1) sc_towers_right.nd rfl (by first | exact Or.inl rfl | exact Or.inr rfl) (pe_call (ok_text T) (hr.mono (by decide)) rfl T.m_text T.F_text.kp T.b_text .nil pass0 (pa_cons (pv 0) (pa_cons pe_int (pa_cons pe_int pa_nil)))))
    (pss_cons (ps_for PassesOwn.never rfl (piL K (pe_lst (pa_cons (pe_tup (pa_cons pe_str (pa_cons pe_str (pa_cons pe_str pa_nil)))) (pa_cons (pe_tup (pa_cons pe_str (pa_cons pe_str (pa_cons pe_str pa_nil)))) (pa_cons (pe_tup (pa_cons pe_str (pa_cons pe_str (pa_cons pe_str pa_nil)))) pa_nil))))) (pg_tup (by rfl) (pgs_cons (pg_name (i := 2) sc_towers_right.nd rfl (by first | exact Or.inl rfl | exact Or.inr rfl)) (pgs_cons (pg_name (i := 3) sc_towers_right.nd rfl (by first | exact Or.inl rfl | exact Or.inr rfl)) (pgs_cons (pg_name (i := 4) sc_towers_right.nd rfl (by first | exact Or.inl rfl | exact Or.inr rfl)) pgs_nil))))
    (pss_cons (ps_setLc (i := 5) (own := [("_law_at", 8)]) (g := gName 8)  rfl sc_towers_right.nd rfl rfl (sw_true rfl rfl rfl (by decide +kernel)) (pi_range1 (by rfl) T.range (pa_cons (pe_callB call_len_str (by rfl) T.len (by decide +kernel) (pa_cons (pv 1) pa_nil)) pa_nil)) (blkOk_by (N := n_towers_right) (sc := defScope s_towers_right) (by decide +kernel)) (fun _ _ _ _ _ => pg_name (i := 8) sc_towers_right.nd rfl (Or.inl rfl)) (fun _ _ _ _ _ => by exact (pts_one (pt_cmpR (inK K) (pe_ix ix_str (pv 1) (pv 8) (fun _ _ => rfl)) (pe_tup (pa_cons (pv 3) (pa_cons (pv 4) pa_nil))) (by rfl)))) (fun _ _ _ _ _ => by exact (pv 8)))
    (pss_cons (ps_set (i := 6) sc_towers_right.nd rfl (by first | exact Or.inl rfl | exact Or.inr rfl) (pv 1))
    (C8.pss_cut (ps_if (pt_cmpR (neK K hr.units) (pv 5) (pe_lst pa_nil) (nomark _))
      (pss_one (ps_set (i := 6) sc_towers_right.nd rfl (by first | exact Or.inl rfl | exact Or.inr rfl) (pe_op op_add_str (pe_op op_add_str (pe_slice sl_str (pv 1) po_none (po_some (pe_ix (ixL K) (pv 5) pe_int (fun _ _ => rfl)))) (pe_ifExp (pt_cmpR op_eq (pe_ix ix_str (pv 1) (pe_ix (ixL K) (pv 5) pe_int (fun _ _ => rfl)) (fun _ _ => rfl)) (pv 3) (nomark _)) (pv 4) (pv 3))) (pe_slice sl_str (pv 1) (po_some (pe_op op_add (pe_ix (ixL K) (pv 5) pe_int (fun _ _ => rfl)) pe_int)) po_none))))
      pss_nil)
    (pss_cons (ps_set (i := 7) sc_towers_right.nd rfl (by first | exact Or.inl rfl | exact Or.inr rfl) (pe_meth (pl := _) (pe_call0 (ok_towers T) (hr.mono (by decide)) rfl T.m_towers T.F_towers.kp T.b_towers .nil pass0) T.cl_Machine T.mt_Machine_step (ok_Machine_step T) (hr.mono (by decide)) T.b_Machine_step .nil pass0 (pa_cons (pv 2) (pa_cons (pv 1) pa_nil))))
    (pss_one (ps_if (PW.pt (pw_or (pt_cmpR (neK K hr.units) (pv 7) (pe_tup (pa_cons (pv 6) (pa_cons (pe_ifExp (pt_cmpR (neK K hr.units) (pv 5) (pe_lst pa_nil) (nomark _)) pe_str (pv 2)) pa_nil))) (nomark _)) (pw_or1 (pt_cmpR op_ne (pe_ix (ixT K) (pe_meth (pl := _) (pe_call0 (ok_towers T) (hr.mono (by decide)) rfl T.m_towers T.F_towers.kp T.b_towers .nil pass0) T.cl_Machine T.mt_Machine_step (ok_Machine_step T) (hr.mono (by decide)) T.b_Machine_step .nil pass0 (pa_cons (pv 2) (pa_cons (pe_ix (ixT K) (pv 7) pe_int (fun _ _ => rfl)) pa_nil))) pe_int (fun _ _ => rfl)) (pv 1) (nomark _)))))
      (pss_one (ps_ret pe_bl))
      pss_nil)))))))
    (pss_one (ps_ret (pe_cmpR (eqK K hr.units) (pe_meth (pl := _) (pe_call0 (ok_towers T) (hr.mono (by decide)) rfl T.m_towers T.F_towers.kp T.b_towers .nil pass0) T.cl_Machine T.mt_Machine_step (ok_Machine_step T) (hr.mono (by decide)) T.b_Machine_step .nil pass0 (pa_cons pe_str (pa_cons (pv 1) pa_nil))) (pe_tup (pa_cons (pv 1) (pa_cons pe_str pa_nil))) (nomark _)))))), ?_⟩
    refine ⟨_, rfl, u, 3, 30, rfl, hu, by decide, by decide, by decide, fun H1 ds d1 l30 d3 => ?_⟩
    refine ⟨by show 3 ≤ sizeLine; decide, fun A1 hA1 => ⟨by show 3 ≤ sizeLine; decide, fun A2 hA2 => ⟨by show 3 ≤ sizeLine; decide, fun A3 hA3 => ⟨by show 3 ≤ sizeLine; decide, fun B hB => ?_⟩⟩⟩⟩
    have s0 : Same H1 _ := (((same_new (o := HO.tup [.str "a", .str "0", .str "1"]) hA1).trans (same_new (o := HO.tup [.str "b", .str "0", .str "2"]) hA2)).trans (same_new (o := HO.tup [.str "c", .str "1", .str "2"]) hA3)).trans (same_new (o := HO.lst [.ref A1, .ref A2, .ref A3]) hB)
    have a1 := same_new (o := HO.lst [.ref A1, .ref A2, .ref A3]) hB _ _ (same_new (o := HO.tup [.str "c", .str "1", .str "2"]) hA3 _ _ (same_new (o := HO.tup [.str "b", .str "0", .str "2"]) hA2 _ _ (upd_same (H := H1) (a := A1) (o := HO.tup [.str "a", .str "0", .str "1"]))))
    have a2 := same_new (o := HO.lst [.ref A1, .ref A2, .ref A3]) hB _ _ (same_new (o := HO.tup [.str "c", .str "1", .str "2"]) hA3 _ _ (upd_same (H := upd H1 A1 (.tup [.str "a", .str "0", .str "1"])) (a := A2) (o := HO.tup [.str "b", .str "0", .str "2"])))
    have a3 := same_new (o := HO.lst [.ref A1, .ref A2, .ref A3]) hB _ _ (upd_same (H := upd (upd H1 A1 (.tup [.str "a", .str "0", .str "1"])) A2 (.tup [.str "b", .str "0", .str "2"])) (a := A3) (o := HO.tup [.str "c", .str "1", .str "2"]))
    have hB2 := upd_same (H := upd (upd (upd H1 A1 (.tup [.str "a", .str "0", .str "1"])) A2 (.tup [.str "b", .str "0", .str "2"])) A3 (.tup [.str "c", .str "1", .str "2"])) (a := B) (o := HO.lst [.ref A1, .ref A2, .ref A3])
    generalize upd (upd (upd (upd H1 A1 (.tup [.str "a", .str "0", .str "1"])) A2 (.tup [.str "b", .str "0", .str "2"])) A3 (.tup [.str "c", .str "1", .str "2"])) B (.lst [.ref A1, .ref A2, .ref A3]) = H2 at s0 a1 a2 a3 hB2 ⊢
    have d2 := d1.same s0
    refine ⟨B, rfl, ⟨_, .of hB2⟩, for_it (walk_list (K := K) (a := B) (xs := [.ref A1, .ref A2, .ref A3])) (fun i σ H' => (∃ (v2 v3 v4 v5 v6 v7 v8 : Option V), σ = [some (.ref u), some (.str (digS ds)), v2, v3, v4, v5, v6, v7, v8]) ∧ Same H2 H') ⟨⟨_, _, _, _, _, _, _, rfl⟩, Same.refl _⟩ (fun i σ H' _ h => .of (h.2 _ _ hB2)) ?_ ?_⟩
    · rintro i y σ H3 H4 hi ⟨⟨v2, v3, v4, v5, v6, v7, v8, rfl⟩, s3⟩ ⟨rfl, hy⟩
      obtain ⟨A, st, a, b, ey, hA, tw⟩ : ∃ (A : Addr) (st : Str) (a b : Nat), y = .ref A ∧ H2 A = some (.tup [.str st, .str (dig a), .str (dig b)]) ∧ Tow st a b := by
        have z0 : Str.ofString "0" = dig 0 := by decide +kernel
        have z1 : Str.ofString "1" = dig 1 := by decide +kernel
        have z2 : Str.ofString "2" = dig 2 := by decide +kernel
        rw [z0, z1] at a1
        rw [z0, z2] at a2
        rw [z1, z2] at a3
        have hi : i < 3 := hi
        match i, hi, hy with
        | 0, _, hy => exact ⟨A1, _, 0, 1, (Option.some.inj hy).symm, a1, towA⟩
        | 1, _, hy => exact ⟨A2, _, 0, 2, (Option.some.inj hy).symm, a2, towB⟩
        | 2, _, hy => exact ⟨A3, _, 1, 2, (Option.some.inj hy).symm, a3, towC⟩
      subst ey
      have hA4 := s3 _ _ hA
      refine ⟨A, _, rfl, .of hA4, rfl, _, _, rfl, _, _, rfl, _, _, rfl, rfl, ?_⟩
      refine ⟨_, rfl, digS ds, rfl, by rw [digS_len, sizeLine_eq]; omega, _, rfl, by rw [digS_len]; omega, by rw [digS_len]; omega, fun D hD => lc_range (Pv := fun i H' => H' D = some (.lst (((List.range i).filter fun j => isDisc a b (ds.getD j 0)).map fun (j : Nat) => V.int j)) ∧ Same H4 H') ⟨upd_same, same_new hD⟩ ?_ ?_⟩
      · rintro j H5 hj ⟨h5, s5⟩
        rw [digS_len] at hj
        have hj : j < ds.length := by omega
        refine ⟨wipe1 _ _ _, _, rfl, _, rfl, digS ds, (0 + (j : Int)), 48 + ds[j], rfl, rfl, by rw [digS_len, sizeLine_eq]; omega, at_dig hj, _, rfl, _, rfl, by show 2 ≤ sizeLine; decide, fun p hp => ⟨p, _, rfl, .inr (.of upd_same), rfl, rfl, _, rfl, ?_⟩⟩
        have e1 : inV (V.str ⟨#[48 + ds[j]]⟩) [V.str (dig a), V.str (dig b)] = isDisc a b (ds.getD j 0) := by
          rw [List.getD_eq_getElem?_getD, List.getElem?_eq_getElem hj]
          show (decide (dig a = dig ds[j]) || (decide (dig b = dig ds[j]) || false)) = (decide (ds[j] = a) || decide (ds[j] = b))
          rw [Bool.or_false, dig_dec, dig_dec]
        have em : (0 : Int) + (j : Int) = ((j : Nat) : Int) := by omega
        have few : (((List.range j).filter fun j => isDisc a b (ds.getD j 0)).map fun (j : Nat) => V.int j).length < sizeLine := by
          have := List.length_filter_le (fun j => isDisc a b (ds.getD j 0)) (List.range j)
          rw [List.length_range] at this
          rw [List.length_map, sizeLine_eq]
          omega
        have step : (List.range (j + 1)).filter (fun j => isDisc a b (ds.getD j 0)) = (List.range j).filter (fun j => isDisc a b (ds.getD j 0)) ++ (if isDisc a b (ds.getD j 0) = true then [j] else []) := by
          rw [List.range_succ, List.filter_append, List.filter_cons, List.filter_nil]
        have sp := same_new (o := HO.tup [V.str (dig a), V.str (dig b)]) hp
        have h5p := sp _ _ h5
        have s5p := s5.trans sp
        generalize upd H5 p (HO.tup [V.str (dig a), V.str (dig b)]) = H6 at h5p s5p ⊢
        rw [if_neg (by decide), e1, step]
        cases isDisc a b (ds.getD j 0) with
        | true => exact iteT ⟨_, rfl, _, h5p, few, by rw [upd_same, em, if_pos rfl, List.map_append]; rfl, same_put s5p hD⟩
        | false => exact iteF ⟨by rw [h5p, if_neg (by decide), List.append_nil], s5p⟩
      · rintro H5 ⟨h5, s5⟩
        have h5 : H5 D = some (.lst (((idxs a b ds).map fun (j : Nat) => (j : Int)).map V.int)) := by
          rw [h5, digS_len, List.map_map]
          rfl
        refine ⟨_, rfl, ?_⟩
        have lay : ∀ l : List Int, SeqAt.shaped (.list (l.map PyData.int)) = true := fun l => by
          show (PyData.canLay0 (.list (l.map PyData.int)) && decide (PyData.depth (.list (l.map PyData.int)) ≤ 64)) = true
          have e1 : PyData.canLay0 (.list (l.map PyData.int)) = true := by
            simp only [PyData.canLay0]
            exact lay_ints l
          have e2 := deep_ints l
          rw [e1, Bool.true_and]
          simp only [PyData.depth]
          exact decide_eq_true (by omega)
        refine ⟨fun σ H' => ∃ (v7 v8 : Option V), σ = [some (.ref u), some (.str (digS ds)), some (.str st), some (.str (dig a)), some (.str (dig b)), some (.ref D), some (.str (digS (swp a b ds))), v7, v8] ∧ Same H5 H', ?_, ?_⟩
        · refine ⟨_, rfl, by show 0 ≤ sizeLine; decide, fun p hp => ⟨.list (((idxs a b ds).map fun (j : Nat) => (j : Int)).map PyData.int), .list [], .lst (.of (same_new hp _ _ h5)) (dp_ints _), .lst (.of upd_same) .nil, lay _, rfl, _, rfl, ?_⟩⟩
          have sp := same_new (o := HO.lst []) hp
          have hDp := sp _ _ h5
          generalize upd H5 p (HO.lst []) = H6 at sp hDp ⊢
          cases q : idxs a b ds with
          | nil =>
            refine iteF ?_
            exact ⟨v7, v8, by rw [(swp_none q).1]; rfl, sp⟩
          | cons k r =>
            refine iteT ?_
            obtain ⟨hk, e2, e3⟩ := swp_some q
            rw [q] at hDp
            have hDk : H6 D = some (.lst (V.int ((k : Nat) : Int) :: (r.map fun (j : Nat) => (j : Int)).map V.int)) := hDp
            have ln : (digS ds).length ≤ sizeLine := by rw [digS_len, sizeLine_eq]; omega
            have at0 : atI (V.int ((k : Nat) : Int) :: (r.map fun (j : Nat) => (j : Int)).map V.int) 0 = some (.int ((k : Nat) : Int)) := at_of (j := 0) rfl rfl
            have adk : atI (digS ds).cps.toList ((k : Nat) : Int) = some (48 + ds[k]) := by
              have := at_dig hk
              rwa [Int.zero_add] at this
            refine ⟨_, rfl, _, rfl, D, _, 0, _, rfl, rfl, .of hDk, at0, _, rfl, digS ds, rfl, ln, ?_⟩
            rw [cut_dig_to (by omega)]
            refine ⟨_, rfl, _, rfl, D, _, 0, _, rfl, rfl, .of hDk, at0, digS ds, _, _, rfl, rfl, ln, adk, _, rfl, rfl, _, rfl, ?_⟩
            have dec : decide (V.str ⟨#[48 + ds[k]]⟩ = V.str (dig a)) = decide (ds[k] = a) := by
              by_cases z : ds[k] = a
              · rw [decide_eq_true z]
                exact decide_eq_true (by rw [← z]; rfl)
              · rw [decide_eq_false z]
                refine decide_eq_false (fun y => z ?_)
                injection y with y
                have h2 : decide (dig ds[k] = dig a) = true := decide_eq_true y
                rw [dig_dec] at h2
                exact (of_decide_eq_true h2).symm
            rw [dec]
            by_cases z : ds[k] = a
            · rw [if_pos z] at e2
              rw [decide_eq_true z]
              refine iteT ⟨_, rfl, ?_⟩
              refine ⟨_, _, rfl, rfl, by rw [digS_len, sizeLine_eq]; show _ + 1 ≤ _; rw [List.length_take]; omega, ?_⟩
              refine ⟨_, rfl, _, rfl, D, _, 0, _, rfl, rfl, .of hDk, at0, _, _, rfl, rfl, _, rfl, digS ds, rfl, ln, ?_⟩
              rw [cut_dig_from hk]
              have tot : (digS (ds.take k) ++ dig b).length + (digS (ds.drop (k + 1))).length ≤ sizeLine := by
                rw [show dig b = digS [b] from rfl, digS_app, digS_len, digS_len, List.length_append, List.length_take, List.length_drop, sizeLine_eq]
                show _ + 1 + _ ≤ _
                omega
              refine ⟨_, _, rfl, rfl, tot, v7, v8, ?_, sp⟩
              rw [e2, ← digS_app, ← digS_app]
              rfl
            · rw [if_neg z] at e2
              rw [decide_eq_false z]
              refine iteF ⟨_, rfl, ?_⟩
              refine ⟨_, _, rfl, rfl, by rw [digS_len, sizeLine_eq]; show _ + 1 ≤ _; rw [List.length_take]; omega, ?_⟩
              refine ⟨_, rfl, _, rfl, D, _, 0, _, rfl, rfl, .of hDk, at0, _, _, rfl, rfl, _, rfl, digS ds, rfl, ln, ?_⟩
              rw [cut_dig_from hk]
              have tot : (digS (ds.take k) ++ dig a).length + (digS (ds.drop (k + 1))).length ≤ sizeLine := by
                rw [show dig a = digS [a] from rfl, digS_app, digS_len, digS_len, List.length_append, List.length_take, List.length_drop, sizeLine_eq]
                show _ + 1 + _ ≤ _
                omega
              refine ⟨_, _, rfl, rfl, tot, v7, v8, ?_, sp⟩
              rw [e2, ← digS_app, ← digS_app]
              rfl
        · rintro σ H6 ⟨v7, v8, rfl, s6⟩
          have h6 := s6 _ _ h5
          refine ⟨rfl, fun H7 o dx st' td ws s7 o0 m et => ?_⟩
          have inn : ∀ {ws : List (Row × Addr)} {s : Str}, tris ws = towersT → s ∈ towersT.map (·.1) → s ∈ (ws.map Prod.fst).map Row.nm := fun {ws} {s} et h => by
            have : (ws.map Prod.fst).map Row.nm = (tris ws).map (·.1) := by rw [tris_nms, List.map_map]; rfl
            rw [this, et]
            exact h
          refine ⟨o, dx, _, rfl, m.obj, mF_no _ _ _ (by decide) (by decide) (by decide), _, rfl, _, rfl, o, dx, st', td, 3, ws, st, ds, rfl, m, inn et tw.inn, d3, by omega, fun H8 t8 s8 t80 ht8 => ?_⟩
          rw [et, tow_led tw ds d3] at ht8
          have h8 := s8 _ _ (s7 _ _ h6)
          have sl := swp_lt tw.la tw.lb d3
          refine ⟨_, rfl, _, rfl, _, rfl, by show 0 ≤ sizeLine; decide, fun p hp => ⟨.list (((idxs a b ds).map fun (j : Nat) => (j : Int)).map PyData.int), .list [], .lst (.of (same_new hp _ _ h8)) (dp_ints _), .lst (.of upd_same) .nil, lay _, rfl, _, rfl, ?_⟩⟩
          have s9 := same_new (o := HO.lst []) hp
          have ht9 := s9 _ _ ht8
          generalize upd H8 p (HO.lst []) = H9 at s9 ht9 ⊢
          cases qq : idxs a b ds with
          | nil =>
            rw [(swp_none qq).2] at ht9
            have ht9 : H9 t8 = some (.tup [.str (digS (swp a b ds)), .str st]) := ht9
            refine iteF ⟨_, rfl, ?_⟩
            refine ⟨by show 2 ≤ sizeLine; decide, fun p2 hp2 => ?_⟩
            have s10 := same_new (o := HO.tup [.str (digS (swp a b ds)), .str st]) hp2
            have ht10 := s10 _ _ ht9
            refine ⟨.tuple [.str (digS (swp a b ds)), .str st], .tuple [.str (digS (swp a b ds)), .str st], .tup (.of ht10) (.cons (.str _) (.cons (.str _) .nil)), .tup (.of upd_same) (.cons (.str _) (.cons (.str _) .nil)), sh2 (ok_dig sl (by decide)) tw.ok, sh2 (ok_dig sl (by decide)) tw.ok, _, rfl, ?_⟩
            rw [eqv2, decide_eq_true rfl, decide_eq_true rfl]
            refine iteF ?_
            generalize upd H9 p2 (HO.tup [.str (digS (swp a b ds)), .str st]) = HB at s10 ht10 ⊢
            refine ⟨rfl, fun HC o2 dx2 st2 td2 ws2 sC o20 m2 et2 => ?_⟩
            refine ⟨o2, dx2, _, rfl, m2.obj, mF_no _ _ _ (by decide) (by decide) (by decide), _, rfl, _, rfl, t8, _, 0, _, rfl, rfl, .of (sC _ _ ht10), rfl, o2, dx2, st2, td2, 3, ws2, st, swp a b ds, rfl, m2, inn et2 tw.inn, sl, by rw [swp_len]; omega, fun HD tD sD tD0 htD => ?_⟩
            rw [et2, tow_led tw _ sl, swp_swp tw.ne] at htD
            refine ⟨tD, _, 0, _, rfl, rfl, .of htD, rfl, _, rfl, rfl, _, rfl, ?_⟩
            rw [decide_eq_true rfl]
            exact iteF ⟨⟨_, _, _, _, _, _, _, rfl⟩, (((((((s3.trans s5).trans s6).trans s7).trans s8).trans s9).trans s10).trans sC).trans sD⟩
          | cons k r =>
            obtain ⟨_, _, e3⟩ := swp_some qq
            rw [e3] at ht9
            have ht9 : H9 t8 = some (.tup [.str (digS (swp a b ds)), .str "e"]) := ht9
            refine iteT ?_
            refine ⟨by show 2 ≤ sizeLine; decide, fun p2 hp2 => ?_⟩
            have s10 := same_new (o := HO.tup [.str (digS (swp a b ds)), .str "e"]) hp2
            have ht10 := s10 _ _ ht9
            refine ⟨.tuple [.str (digS (swp a b ds)), .str "e"], .tuple [.str (digS (swp a b ds)), .str "e"], .tup (.of ht10) (.cons (.str _) (.cons (.str _) .nil)), .tup (.of upd_same) (.cons (.str _) (.cons (.str _) .nil)), sh2 (ok_dig sl (by decide)) (by decide +kernel), sh2 (ok_dig sl (by decide)) (by decide +kernel), _, rfl, ?_⟩
            rw [eqv2, decide_eq_true rfl, decide_eq_true rfl]
            refine iteF ?_
            generalize upd H9 p2 (HO.tup [.str (digS (swp a b ds)), .str "e"]) = HB at s10 ht10 ⊢
            refine ⟨rfl, fun HC o2 dx2 st2 td2 ws2 sC o20 m2 et2 => ?_⟩
            refine ⟨o2, dx2, _, rfl, m2.obj, mF_no _ _ _ (by decide) (by decide) (by decide), _, rfl, _, rfl, t8, _, 0, _, rfl, rfl, .of (sC _ _ ht10), rfl, o2, dx2, st2, td2, 3, ws2, st, swp a b ds, rfl, m2, inn et2 tw.inn, sl, by rw [swp_len]; omega, fun HD tD sD tD0 htD => ?_⟩
            rw [et2, tow_led tw _ sl, swp_swp tw.ne] at htD
            refine ⟨tD, _, 0, _, rfl, rfl, .of htD, rfl, _, rfl, rfl, _, rfl, ?_⟩
            rw [decide_eq_true rfl]
            exact iteF ⟨⟨_, _, _, _, _, _, _, rfl⟩, (((((((s3.trans s5).trans s6).trans s7).trans s8).trans s9).trans s10).trans sC).trans sD⟩
    · rintro σ H3 ⟨⟨v2, v3, v4, v5, v6, v7, v8, rfl⟩, s3⟩
      refine ⟨rfl, fun H7 o dx st' td ws s7 o0 m et => ?_⟩
      have inn : Str.ofString "e" ∈ (ws.map Prod.fst).map Row.nm := by
        have : (ws.map Prod.fst).map Row.nm = (tris ws).map (·.1) := by rw [tris_nms, List.map_map]; rfl
        rw [this, et]
        decide +kernel
      refine ⟨o, dx, _, rfl, m.obj, mF_no _ _ _ (by decide) (by decide) (by decide), _, rfl, o, dx, st', td, 3, ws, "e", ds, rfl, m, inn, d3, by omega, fun H8 t8 s8 t80 ht8 => ?_⟩
      rw [et, tow_idle ds d3] at ht8
      refine ⟨_, rfl, by show 2 ≤ sizeLine; decide, fun p hp => ?_⟩
      refine ⟨.tuple [.str (digS ds), .str "e"], .tuple [.str (digS ds), .str "e"], .tup (.of (same_new hp _ _ ht8)) (.cons (.str _) (.cons (.str _) .nil)), .tup (.of upd_same) (.cons (.str _) (.cons (.str _) .nil)), sh2 (ok_dig d3 (by decide)) (by decide +kernel), sh2 (ok_dig d3 (by decide)) (by decide +kernel), ?_⟩
      rw [eqv2, decide_eq_true rfl, decide_eq_true rfl]
      exact q _ ((((d2.same s3).same s7).same s8).same (same_new hp))
end
end My

set_option Elab.async false
set_option linter.all false
set_option maxRecDepth 100000
set_option maxHeartbeats 4000000
/-! the first place of a sign in a text -/
namespace My
open PySem PySem.Spec PyProof.Rows L2 PySem.StrLaws
open PySem.Builtin.Str
theorem occ_full (s sub : Str) (hi : Nat) : ∀ (l : List Nat) (st : Array Nat × Nat), st.fst.size = 1 → (forIn l st (occBody s sub hi 1)).run.fst = st.fst
  | [], st, _ => rfl
  | a :: l, st, h => by
    rw [List.forIn_cons]
    unfold occBody
    rw [if_neg (by rintro ⟨⟨⟨z, _⟩, _⟩, _⟩; omega)]
    exact occ_full s sub hi l _ h
theorem occ_first (s sub : Str) (hi k : Nat) (hk : k + sub.length ≤ hi ∧ subAt s sub k = true) : ∀ (m lo free : Nat), free ≤ lo → lo ≤ k → k < lo + m → (∀ i, lo ≤ i → i < k → ¬ (i + sub.length ≤ hi ∧ subAt s sub i = true)) →
    (forIn (List.range' lo m) ((#[] : Array Nat), free) (occBody s sub hi 1)).run.fst = #[k]
  | 0, lo, free, _, h1, h2, _ => by omega
  | m + 1, lo, free, hf, h1, h2, h3 => by
    rw [List.range'_succ, List.forIn_cons]
    unfold occBody
    by_cases e : lo = k
    · subst e
      rw [if_pos ⟨⟨⟨by simp, hf⟩, hk.1⟩, hk.2⟩]
      exact occ_full s sub hi _ _ (by simp)
    · have no := h3 lo (Nat.le_refl _) (by omega)
      rw [if_neg (by rintro ⟨⟨_, z⟩, y⟩; exact no ⟨z, y⟩)]
      exact occ_first s sub hi k hk m (lo + 1) free (by omega) (by omega) (by omega) fun i h4 h5 => h3 i (by omega) h5
theorem idx_first {x : Str} {c k : Nat} (h : x.cps.toList[k]? = some c) (no : ∀ i, i < k → x.cps.toList[i]? ≠ some c) : occurrences x ⟨#[c]⟩ 0 x.length 1 = [k] := by
  have hk := (subAt_one x c k).mpr h
  have lt : k < x.length := by
    have := (List.getElem?_eq_some_iff.mp h).1
    simpa [Str.length] using this
  rw [occ_eq, occ_first x ⟨#[c]⟩ x.length k hk (x.length + 1 - 0) 0 0 (Nat.le_refl _) (Nat.zero_le _) (by omega) fun i _ hi => fun z => no i hi ((subAt_one x c i).mp z)]
/-! ### up to the first 0 -/
def sz : List Nat → Nat
  | [] => 0
  | d :: ds => if d = 0 then 1 else sz ds + 1
theorem sz_le : ∀ ds : List Nat, sz ds ≤ ds.length
  | [] => Nat.le_refl _
  | d :: ds => by
    have := sz_le ds
    show (if d = 0 then 1 else sz ds + 1) ≤ ds.length + 1
    split <;> omega
theorem sz_none : ∀ {ds : List Nat}, 0 ∉ ds → sz ds = ds.length
  | [], _ => rfl
  | d :: ds, h => by
    have h1 : d ≠ 0 := fun z => h (by rw [z]; exact List.mem_cons_self)
    show (if d = 0 then 1 else sz ds + 1) = ds.length + 1
    rw [if_neg h1, sz_none fun z => h (List.mem_cons_of_mem _ z)]
theorem sz_some : ∀ {ds : List Nat}, 0 ∈ ds → ∃ k, sz ds = k + 1 ∧ ds[k]? = some 0 ∧ ∀ i, i < k → ds[i]? ≠ some 0
  | [], h => by cases h
  | d :: ds, h => by
    by_cases e : d = 0
    · refine ⟨0, ?_, by rw [e]; rfl, fun i hi => absurd hi (Nat.not_lt_zero _)⟩
      show (if d = 0 then 1 else sz ds + 1) = 1
      rw [if_pos e]
    · have h2 : 0 ∈ ds := by
        rcases List.mem_cons.mp h with z | z
        · exact absurd z.symm e
        · exact z
      obtain ⟨k, h3, h4, h5⟩ := sz_some h2
      refine ⟨k + 1, ?_, h4, fun i hi => ?_⟩
      · show (if d = 0 then 1 else sz ds + 1) = _
        rw [if_neg e, h3]
      · match i with
        | 0 => intro z; exact e (Option.some.inj z)
        | i + 1 => exact h5 i (by omega)
theorem zero_in (ds : List Nat) : (!(occurrences (digS ds) "0" 0 (digS ds).length 1).isEmpty) = decide (0 ∈ ds) := by
  rw [show (Str.ofString "0") = ⟨#[48]⟩ by decide +kernel, found_one]
  have e : (digS ds).cps.toList = ds.map fun d => 48 + d := rfl
  rw [e]
  by_cases z : 0 ∈ ds
  · rw [decide_eq_true z]
    exact decide_eq_true (List.mem_map.mpr ⟨0, z, rfl⟩)
  · rw [decide_eq_false z]
    refine decide_eq_false fun y => z ?_
    obtain ⟨d, hd, e⟩ := List.mem_map.mp y
    have : d = 0 := by omega
    exact this ▸ hd
theorem zero_idx {ds : List Nat} {k : Nat} (h4 : ds[k]? = some 0) (h5 : ∀ i, i < k → ds[i]? ≠ some 0) : occurrences (digS ds) "0" 0 (digS ds).length 1 = [k] := by
  rw [show (Str.ofString "0") = ⟨#[48]⟩ by decide +kernel]
  have e : (digS ds).cps.toList = ds.map fun d => 48 + d := rfl
  refine idx_first ?_ fun i hi => ?_
  · rw [e, List.getElem?_map, h4]
    rfl
  · rw [e, List.getElem?_map]
    intro z
    cases q : ds[i]? with
    | none => rw [q] at z; cases z
    | some d =>
      rw [q] at z
      have : 48 + d = 48 := Option.some.inj z
      exact h5 i hi (by rw [q, show d = 0 by omega])
end My

set_option Elab.async false
set_option linter.all false
set_option maxRecDepth 100000
set_option maxHeartbeats 8000000
namespace My
open PySem PySem.Spec PyProof.Rows L2
/-- folded paper -/
def fold : Nat → List Nat → List Nat
  | _, [] => []
  | o, d :: ds => (d + o + 1) % 2 :: (if d = 0 then ds else fold (o + 1) ds)
theorem rowFa : rowAt foldedT "a" = (("a", [1, 0], ["e", "b"]) : Tri) := by decide +kernel
theorem rowFb : rowAt foldedT "b" = (("b", [0, 1], ["e", "a"]) : Tri) := by decide +kernel
theorem rowFe : rowAt foldedT "e" = (("e", [0, 1], ["e", "e"]) : Tri) := by decide +kernel
def foldAt (o : Nat) : Str := if o % 2 = 0 then "a" else "b"
theorem fold_led : ∀ (ds : List Nat) (o : Nat), (∀ d ∈ ds, d < 2) → (led foldedT (foldAt o) ds).1 = fold o ds
  | [], _, _ => rfl
  | d :: ds, o, hd => by
    have d2 := hd d List.mem_cons_self
    have id := idle_led rowFe ds fun x hx => hd x (List.mem_cons_of_mem _ hx)
    have ih := fold_led ds (o + 1) fun x hx => hd x (List.mem_cons_of_mem _ hx)
    rcases Nat.mod_two_eq_zero_or_one o with e | e
    · have e1 : foldAt o = "a" := if_pos e
      have e2 : foldAt (o + 1) = "b" := if_neg (by omega)
      rw [e2] at ih
      rw [e1, led_cons, rowFa]
      match d, d2 with
      | 0, _ =>
        show 1 :: (led foldedT "e" ds).1 = (0 + o + 1) % 2 :: ds
        rw [id, show (0 + o + 1) % 2 = 1 by omega]
      | 1, _ =>
        show 0 :: (led foldedT "b" ds).1 = (1 + o + 1) % 2 :: fold (o + 1) ds
        rw [ih, show (1 + o + 1) % 2 = 0 by omega]
    · have e1 : foldAt o = "b" := if_neg (by omega)
      have e2 : foldAt (o + 1) = "a" := if_pos (by omega)
      rw [e2] at ih
      rw [e1, led_cons, rowFb]
      match d, d2 with
      | 0, _ =>
        show 0 :: (led foldedT "e" ds).1 = (0 + o + 1) % 2 :: ds
        rw [id, show (0 + o + 1) % 2 = 0 by omega]
      | 1, _ =>
        show 1 :: (led foldedT "a" ds).1 = (1 + o + 1) % 2 :: fold (o + 1) ds
        rw [ih, show (1 + o + 1) % 2 = 1 by omega]
def foldTo (o k : Nat) (ds : List Nat) : List Nat := (List.range k).map fun i => (ds.getD i 0 + (i + o + 1)) % 2
theorem fold_sz : ∀ (ds : List Nat) (o : Nat), fold o ds = foldTo o (sz ds) ds ++ ds.drop (sz ds)
  | [], _ => rfl
  | d :: ds, o => by
    have ih := fold_sz ds (o + 1)
    show (d + o + 1) % 2 :: (if d = 0 then ds else fold (o + 1) ds) = foldTo o (if d = 0 then 1 else sz ds + 1) (d :: ds) ++ (d :: ds).drop (if d = 0 then 1 else sz ds + 1)
    by_cases e : d = 0
    · rw [if_pos e, if_pos e]
      show _ = ((d + (0 + o + 1)) % 2) :: ds
      rw [Nat.zero_add, Nat.add_assoc]
    · rw [if_neg e, if_neg e, ih]
      unfold foldTo
      rw [List.range_succ_eq_map, List.map_cons, List.map_map]
      have f : ((fun i => ((d :: ds).getD i 0 + (i + o + 1)) % 2) ∘ Nat.succ) = fun i => (ds.getD i 0 + (i + (o + 1) + 1)) % 2 := by
        funext i
        show (ds.getD i 0 + (i + 1 + o + 1)) % 2 = _
        rw [show i + 1 + o + 1 = i + (o + 1) + 1 by omega]
      rw [f]
      show _ = ((d + (0 + o + 1)) % 2) :: _
      rw [Nat.zero_add, Nat.add_assoc]
      rfl
section
variable {P : Program} {w : World} {K : PySem.W.Frag} {mg : Str → Option Value} {base : Heap}
theorem ok_folded_right (T : Tx K mg) : FnOk P w K mg base CX0 12 T.f_folded_right T.d_folded_right p_folded_right spTow := by
  refine T.F_folded_right.ok sc_folded_right (fun vs H Q E h => ?_) (fun cdv A outer s H vs Q E hr h => ?_)
  · obtain ⟨u, rfl, _⟩ := h
    rfl
  · obtain ⟨u, rfl, hu, q⟩ := h
    refine ⟨_, (pss_cons (ps_set (i := 1) sc_folded_right.nd rfl (by first | exact Or.inl rfl | exact Or.inr rfl) (pe_call (ok_text T) (hr.mono (by decide)) rfl T.m_text T.F_text.kp T.b_text .nil pass0 (pa_cons (pv 0) (pa_cons pe_int (pa_cons pe_int pa_nil)))))
    (pss_cons (ps_for PassesOwn.never rfl (piT K (pe_tup (pa_cons (pe_tup (pa_cons pe_str (pa_cons pe_int pa_nil))) (pa_cons (pe_tup (pa_cons pe_str (pa_cons pe_int pa_nil))) pa_nil)))) (pg_tup (by rfl) (pgs_cons (pg_name (i := 2) sc_folded_right.nd rfl (by first | exact Or.inl rfl | exact Or.inr rfl)) (pgs_cons (pg_name (i := 3) sc_folded_right.nd rfl (by first | exact Or.inl rfl | exact Or.inr rfl)) pgs_nil)))
    (C8.pss_cut (ps_set (i := 4) sc_folded_right.nd rfl (by first | exact Or.inl rfl | exact Or.inr rfl) (pe_ifExp (pt_cmpR op_notIn_sign pe_str (pv 1) (by rfl)) (pe_callB call_len_str (by rfl) T.len (by decide +kernel) (pa_cons (pv 1) pa_nil)) (pe_op op_add (bmK K PySem.F.plainAttrs_str PySem.F.slot_str_index PySem.F.type_str_index mt_idx (by exact (pv 1)) (by exact (pa_cons pe_str pa_nil))) pe_int)))
    (pss_cons (ps_set (i := 5) sc_folded_right.nd rfl (by first | exact Or.inl rfl | exact Or.inr rfl) (pe_op op_add_str (pe_join pe_str (pe_lc (own := [("_law_at", 6)]) (g := gName 6) (tt := tYes) rfl sc_folded_right.nd (pi_range1 (by rfl) T.range (pa_cons (pv 4) pa_nil)) (blkOk_by (N := n_folded_right) (sc := defScope s_folded_right) (by decide +kernel)) (fun _ _ _ _ _ => pg_name (i := 6) sc_folded_right.nd rfl (Or.inl rfl)) (fun _ _ _ _ _ => by exact pts_nil) (fun _ _ _ _ _ => by exact (pe_callTy call_str_int (by rfl) T.str (by decide +kernel) (pa_cons (pe_op op_mod (pe_callTy call_int1 (by rfl) T.int (by decide +kernel) (pa_cons (pe_op op_add (pe_callTy call_int_str (by rfl) T.int (by decide +kernel) (pa_cons (pe_ix ix_str (pv 1) (pv 6) (fun _ _ => rfl)) pa_nil)) (pe_callTy call_int1 (by rfl) T.int (by decide +kernel) (pa_cons (pe_op op_add (pe_op op_add (pv 6) (pv 3)) pe_int) pa_nil))) pa_nil)) pe_int) pa_nil))))) (pe_slice sl_str (pv 1) (po_some (pv 4)) po_none)))
    (pss_one (ps_if (pt_cmpR op_ne (pe_ix (ixT K) (pe_meth (pl := _) (pe_call0 (ok_folded T) (hr.mono (by decide)) rfl T.m_folded T.F_folded.kp T.b_folded .nil pass0) T.cl_Machine T.mt_Machine_step (ok_Machine_step T) (hr.mono (by decide)) T.b_Machine_step .nil pass0 (pa_cons (pv 2) (pa_cons (pv 1) pa_nil))) pe_int (fun _ _ => rfl)) (pv 5) (nomark _))
      (pss_one (ps_ret pe_bl))
      pss_nil)))))
    (pss_one (ps_ret pe_bl)))), ?_⟩
    refine ⟨_, rfl, u, 2, 30, rfl, hu, by decide, by decide, by decide, fun H1 ds d1 l30 d3 => ?_⟩
    refine ⟨by show 2 ≤ sizeLine; decide, fun A1 hA1 => ⟨by show 2 ≤ sizeLine; decide, fun A2 hA2 => ⟨by show 2 ≤ sizeLine; decide, fun B hB => ?_⟩⟩⟩
    have s0 : Same H1 _ := ((same_new (o := HO.tup [.str "a", .int 0]) hA1).trans (same_new (o := HO.tup [.str "b", .int 1]) hA2)).trans (same_new (o := HO.tup [.ref A1, .ref A2]) hB)
    have a1 := same_new (o := HO.tup [.ref A1, .ref A2]) hB _ _ (same_new (o := HO.tup [.str "b", .int 1]) hA2 _ _ (upd_same (H := H1) (a := A1) (o := HO.tup [.str "a", .int 0])))
    have a2 := same_new (o := HO.tup [.ref A1, .ref A2]) hB _ _ (upd_same (H := upd H1 A1 (.tup [.str "a", .int 0])) (a := A2) (o := HO.tup [.str "b", .int 1]))
    have hB2 := upd_same (H := upd (upd H1 A1 (.tup [.str "a", .int 0])) A2 (.tup [.str "b", .int 1])) (a := B) (o := HO.tup [.ref A1, .ref A2])
    generalize upd (upd (upd H1 A1 (.tup [.str "a", .int 0])) A2 (.tup [.str "b", .int 1])) B (.tup [.ref A1, .ref A2]) = H2 at s0 a1 a2 hB2 ⊢
    have d2 := d1.same s0
    refine ⟨B, rfl, ⟨_, .of hB2⟩, for_it (walk_tup (K := K) (a := B) (xs := [.ref A1, .ref A2])) (fun i σ H' => (∃ (v2 v3 v4 v5 v6 : Option V), σ = [some (.ref u), some (.str (digS ds)), v2, v3, v4, v5, v6]) ∧ Same H2 H') ⟨⟨_, _, _, _, _, rfl⟩, Same.refl _⟩ (fun i σ H' _ h => .of (h.2 _ _ hB2)) ?_ ?_⟩
    · rintro i y σ H3 H4 hi ⟨⟨v2, v3, v4, v5, v6, rfl⟩, s3⟩ ⟨rfl, hy⟩
      obtain ⟨A, o, ey, hA, inn⟩ : ∃ (A : Addr) (o : Nat), y = .ref A ∧ H2 A = some (.tup [.str (foldAt o), .int (o : Nat)]) ∧ o ≤ 1 := by
        have hi : i < 2 := hi
        match i, hi, hy with
        | 0, _, hy => exact ⟨A1, 0, (Option.some.inj hy).symm, a1, by decide⟩
        | 1, _, hy => exact ⟨A2, 1, (Option.some.inj hy).symm, a2, by decide⟩
      subst ey
      have hA4 := s3 _ _ hA
      refine ⟨A, _, rfl, .of hA4, rfl, _, _, rfl, _, _, rfl, rfl, ?_⟩
      refine ⟨fun σ H' => ∃ (v5 v6 : Option V), σ = [some (.ref u), some (.str (digS ds)), some (.str (foldAt o)), some (.int (o : Nat)), some (.int ((sz ds : Nat) : Int)), v5, v6] ∧ Same H4 H', ?_, ?_⟩
      · have m48 : decide (48 ∈ (digS ds).cps.toList) = decide (0 ∈ ds) := by
          have e : (digS ds).cps.toList = ds.map fun d => 48 + d := rfl
          rw [e]
          by_cases z : 0 ∈ ds
          · rw [decide_eq_true z]
            exact decide_eq_true (List.mem_map.mpr ⟨0, z, rfl⟩)
          · rw [decide_eq_false z]
            refine decide_eq_false fun y => z ?_
            obtain ⟨d, hd, e⟩ := List.mem_map.mp y
            have : d = 0 := by omega
            exact this ▸ hd
        refine ⟨_, rfl, 48, digS ds, by rw [show (Str.ofString "0") = ⟨#[48]⟩ by decide +kernel], rfl, _, rfl, ?_⟩
        rw [m48]
        by_cases z : 0 ∈ ds
        · rw [decide_eq_true z]
          refine iteF ?_
          obtain ⟨k, k1, k2, k3⟩ := sz_some z
          refine ⟨_, rfl, rfl, digS ds, "0", k, [], rfl, rfl, zero_idx k2 k3, _, _, rfl, rfl, v5, v6, ?_, Same.refl _⟩
          rw [k1]
          rfl
        · rw [decide_eq_false z]
          refine iteT ⟨_, rfl, digS ds, rfl, by rw [digS_len, sizeLine_eq]; omega, v5, v6, ?_, Same.refl _⟩
          rw [sz_none z, digS_len]
          rfl
      · rintro σ H5 ⟨v5, v6, rfl, s5⟩
        have szl := sz_le ds
        have e0 : (Str.ofString "").length = 0 := rfl
        refine ⟨⟨_, rfl⟩, _, rfl, _, rfl, by omega, by omega, fun D hD => lc_range (Pv := fun i H' => H' D = some (.lst ((((foldTo o (sz ds) ds).take i).map dig).map V.str)) ∧ Same H5 H') ⟨upd_same, same_new hD⟩ ?_ ?_⟩
        · rintro j H6 hj ⟨h6, s6⟩
          have hj : j < sz ds := by omega
          have jl : j < ds.length := by omega
          refine ⟨wipe1 _ _ _, tyes_if ?_⟩
          have dj := d3 _ (List.getElem_mem jl)
          refine ⟨_, rfl, _, rfl, digS ds, (0 + (j : Int)), 48 + ds[j], rfl, rfl, by rw [digS_len, sizeLine_eq]; omega, at_dig jl, _, _, rfl, int_dig (d := ds[j]) (by omega), by show 1 ≤ 640; decide, ?_⟩
          have ev : (((ds[j] : Nat) : Int) + (0 + (j : Int) + ((o : Nat) : Int) + 1)) % 2 = (((ds.getD j 0 + (j + o + 1)) % 2 : Nat) : Int) := by
            rw [List.getD_eq_getElem?_getD, List.getElem?_eq_getElem jl]
            show _ = (((ds[j] + (j + o + 1)) % 2 : Nat) : Int)
            omega
          have lt := Nat.mod_lt (ds.getD j 0 + (j + o + 1)) (show 0 < 2 by decide)
          have lf : (foldTo o (sz ds) ds).length = sz ds := by simp [foldTo]
          refine ⟨_, rfl, _, rfl, _, _, rfl, rfl, _, _, rfl, rfl, .inl ⟨_, rfl, _, _, rfl, rfl, .inl ⟨_, rfl, _, _, rfl, rfl, by show (0 : Int) < 2; decide, _, rfl, ?_, _, h6, ?_, ?_, same_put s6 hD⟩⟩⟩
          · rw [ev]; exact small_log (by omega) (by omega)
          · rw [List.length_map, List.length_map, List.length_take, sizeLine_eq]; omega
          · have tk := take_next (l := foldTo o (sz ds) ds) (k := j) (by omega)
            have ge : (foldTo o (sz ds) ds)[j]'(by omega) = (ds.getD j 0 + (j + o + 1)) % 2 := by simp [foldTo]
            rw [upd_same, tk, ge, List.map_append, List.map_append, ev, str_dig (by omega)]
            rfl
        · rintro H6 ⟨h6, s6⟩
          have lf : (foldTo o (sz ds) ds).length = sz ds := by simp [foldTo]
          have h6 : H6 D = some (.lst ((((foldTo o (sz ds) ds).take ((sz ds : Nat) : Int).toNat).map dig).map V.str)) := h6
          rw [Int.toNat_natCast, List.take_of_length_le (by omega)] at h6
          have ln : (digS ds).length ≤ sizeLine := by rw [digS_len, sizeLine_eq]; omega
          have sum1 := sum_map_le (f := (fun x : Str => x.length) ∘ dig) (c := 1) (l := foldTo o (sz ds) ds) fun x _ => Nat.le_refl 1
          refine ⟨_, D, _, rfl, rfl, .inl (.of h6), by rw [e0, List.map_map]; omega, _, rfl, _, rfl, _, rfl, digS ds, rfl, ln, ?_⟩
          have cf : cutS (digS ds) (some ((sz ds : Nat) : Int)) none = digS (ds.drop (sz ds)) := by
            have e : (digS ds).cps.toList = ds.map fun d => 48 + d := rfl
            unfold cutS
            rw [e, digS_len, HT.sIx_none, HT.sIx_nat, Nat.min_eq_left szl, ← List.map_drop, ← List.map_take, List.take_of_length_le (by rw [List.length_drop]; exact Nat.le_refl _)]
            rfl
          have fe : Txt.join "" ((foldTo o (sz ds) ds).map dig) ++ digS (ds.drop (sz ds)) = digS (fold o ds) := by
            rw [join_digs, digS_app, ← fold_sz]
          rw [cf]
          refine ⟨_, _, rfl, rfl, by rw [join_digs, digS_len, digS_len, lf, List.length_drop, sizeLine_eq]; omega, ?_⟩
          rw [fe]
          refine ⟨rfl, fun H7 o2 dx st' td ws s7 o20 m et => ?_⟩
          have inn2 : foldAt o ∈ (ws.map Prod.fst).map Row.nm := by
            have : (ws.map Prod.fst).map Row.nm = (tris ws).map (·.1) := by rw [tris_nms, List.map_map]; rfl
            rw [this, et]
            have z : o = 0 ∨ o = 1 := by omega
            rcases z with rfl | rfl <;> decide +kernel
          refine ⟨o2, dx, _, rfl, m.obj, mF_no _ _ _ (by decide) (by decide) (by decide), _, rfl, _, rfl, o2, dx, st', td, 2, ws, foldAt o, ds, rfl, m, inn2, d3, by omega, fun H8 t8 s8 t80 ht8 => ?_⟩
          rw [et, fold_led ds o d3] at ht8
          refine ⟨t8, _, 0, _, rfl, rfl, .of ht8, rfl, _, rfl, rfl, _, rfl, ?_⟩
          rw [decide_eq_true rfl]
          exact iteF ⟨⟨_, _, _, _, _, rfl⟩, ((((s3.trans s5).trans s6).trans s7).trans s8)⟩
    · rintro σ H3 ⟨⟨v2, v3, v4, v5, v6, rfl⟩, s3⟩
      exact q _ (d2.same s3)
end
end My

set_option Elab.async false
set_option linter.all false
set_option maxRecDepth 100000
set_option maxHeartbeats 8000000
namespace My
open PySem PySem.Spec PyProof.Rows L2
def backR (t : Tri) : Row := ⟨t.1, 0, t.2.1, 0, t.2.2⟩
theorem line_tris {n : Nat} {ws : List (Row × Addr)} {t : List Tri} (e : tris ws = t) : lineTxt n (ws.map Prod.fst) = lineTxt n (t.map backR) := by
  have h : tabTxt (ws.map Prod.fst) = tabTxt (t.map backR) := by
    rw [← e]
    unfold tabTxt tris
    rw [List.map_map, List.map_map, List.map_map, List.map_map]
    rfl
  unfold lineTxt
  rw [h]
theorem line3 : lineTxt 3 ((countT 3).map backR) = Str.ofString "machine of 3 letters: a 120 e e a, e 012 e e e" := by kernel_rfl
theorem lineG : lineTxt 2 (grayT.map backR) = Str.ofString "machine of 2 letters: a 10 e e, b 01 b a, e 01 e e" := by kernel_rfl
theorem lineF : lineTxt 2 (foldedT.map backR) = Str.ofString "machine of 2 letters: a 10 e b, b 01 e a, e 01 e e" := by kernel_rfl
def toldK : PyData := .list [.str "machine of 3 letters: a 120 e e a, e 012 e e e", .str "machine of 2 letters: a 10 e e, b 01 b a, e 01 e e", .str "machine of 2 letters: a 10 e b, b 01 e a, e 01 e e", .int 4, .tuple [.int 0, .int 2, .int 1], .tuple [.str "a", .str "e"]]
theorem toldK_ok : SeqAt.shaped toldK = true ∧ PyData.eqv toldK toldK = true := by decide +kernel
def spLaw (K : PySem.W.Frag) : Sp := fun vs H Q _ => ∃ (a : Addr) (ns : List Int), vs = [.ref a] ∧ SqL K H a (ns.map V.int) ∧ ns.length ≤ 63 ∧ ∀ H', Q (.bl true) H'
section
variable {P : Program} {w : World} {K : PySem.W.Frag} {mg : Str → Option Value} {base : Heap}
theorem ok_law (T : Tx K mg) : FnG P w K mg base CX0 13 T.f_law T.d_law p_law (spLaw K) := by
  refine fun_g0 T.F_law sc_law (fun vs H Q E h => ?_) (fun cdv A outer s H vs Q E hgd hr h => ?_)
  · obtain ⟨a, ns, rfl, _⟩ := h
    rfl
  · obtain ⟨a, ns, rfl, hS, hl, q⟩ := h
    refine ⟨_, (pss_cons (ps_for PassesOwn.never rfl (pi_range1 (by rfl) T.range (pa_cons (pe_callB (call_max2 rfl) (by rfl) T.max (by decide +kernel) (pa_cons pe_int (pa_cons (pe_callB (call_min2 rfl) (by rfl) T.min (by decide +kernel) (pa_cons pe_int (pa_cons (pe_callB (lenS K) (by rfl) T.len (by decide +kernel) (pa_cons (pv 0) pa_nil)) pa_nil))) pa_nil))) pa_nil)) (pg_name (i := 1) sc_law.nd rfl (by first | exact Or.inl rfl | exact Or.inr rfl))
    (pss_cons (ps_set (i := 4) sc_law.nd rfl (by first | exact Or.inl rfl | exact Or.inr rfl) (pe_call (ok_urn T) (hr.mono (by decide)) rfl T.m_urn T.F_urn.kp T.b_urn .nil pass0 (pa_cons (pv 0) (pa_cons (pv 1) pa_nil))))
    (pss_one (ps_if (PW.pt (pw_or (pt_cmpR (neK K hr.units) (pe_lc (own := [("_law_letters", 6)]) (g := gName 6)  rfl sc_law.nd (piT K (pe_tup (pa_cons pe_int (pa_cons pe_int (pa_cons pe_int pa_nil))))) (blkOk_by (N := n_law) (sc := defScope s_law) (by decide +kernel)) (fun _ _ _ _ _ => pg_name (i := 6) sc_law.nd rfl (Or.inl rfl)) (fun _ _ _ _ _ => by exact (pts_one (pt_not (pt_val (pe_call (ok_counts T) (hr.mono (by decide)) rfl T.m_counts T.F_counts.kp T.b_counts .nil pass0 (pa_cons (pv 4) (pa_cons (pv 6) pa_nil))))))) (fun _ _ _ _ _ => by exact (pv 6))) (pe_lst pa_nil) (nomark _)) (pw_or (pt_not (pt_val (pe_call (ok_towers_right T) (hr.mono (by decide)) rfl T.m_towers_right T.F_towers_right.kp T.b_towers_right .nil pass0 (pa_cons (pv 4) pa_nil)))) (pw_or1 (pt_not (pt_val (pe_call (ok_folded_right T) (hr.mono (by decide)) rfl T.m_folded_right T.F_folded_right.kp T.b_folded_right .nil pass0 (pa_cons (pv 4) pa_nil))))))))
      (pss_one (ps_ret pe_bl))
      pss_nil))))
    (pss_cons (ps_if (pt_cmpR (neK K hr.units) (pe_lc (own := [("_law_length", 5)]) (g := gName 5)  rfl sc_law.nd (pi_range1 (by rfl) T.range (pa_cons pe_int pa_nil)) (blkOk_by (N := n_law) (sc := defScope s_law) (by decide +kernel)) (fun _ _ _ _ _ => pg_name (i := 5) sc_law.nd rfl (Or.inl rfl)) (fun _ _ _ _ _ => by exact (pts_one (pt_not (pt_val (pe_call (ok_gray_right T) (hr.mono (by decide)) rfl T.m_gray_right T.F_gray_right.kp T.b_gray_right .nil pass0 (pa_cons (pv 5) pa_nil)))))) (fun _ _ _ _ _ => by exact (pv 5))) (pe_lst pa_nil) (nomark _))
      (pss_one (ps_ret pe_bl))
      pss_nil)
    (pss_cons (ps_set (i := 2) sc_law.nd rfl (by first | exact Or.inl rfl | exact Or.inr rfl) (pe_lst (pa_cons (pe_callTy (call_strO (ok_Machine_str T) (hr.mono (by decide)) T.b_Machine_str pass0 T.mt_Machine_str) (by rfl) T.str (by decide +kernel) (pa_cons (pe_call (ok_counter T) (hr.mono (by decide)) rfl T.m_counter T.F_counter.kp T.b_counter .nil pass0 (pa_cons pe_int pa_nil)) pa_nil)) (pa_cons (pe_callTy (call_strO (ok_Machine_str T) (hr.mono (by decide)) T.b_Machine_str pass0 T.mt_Machine_str) (by rfl) T.str (by decide +kernel) (pa_cons (pe_call0 (ok_gray T) (hr.mono (by decide)) rfl T.m_gray T.F_gray.kp T.b_gray .nil pass0) pa_nil)) (pa_cons (pe_callTy (call_strO (ok_Machine_str T) (hr.mono (by decide)) T.b_Machine_str pass0 T.mt_Machine_str) (by rfl) T.str (by decide +kernel) (pa_cons (pe_call0 (ok_folded T) (hr.mono (by decide)) rfl T.m_folded T.F_folded.kp T.b_folded .nil pass0) pa_nil)) (pa_cons (pe_callB (call_lenO (ok_Machine_len T) (hr.mono (by decide)) T.b_Machine_len pass0 T.mt_Machine_len) (by rfl) T.len (by decide +kernel) (pa_cons (pe_call0 (ok_towers T) (hr.mono (by decide)) rfl T.m_towers T.F_towers.kp T.b_towers .nil pass0) pa_nil)) (pa_cons (pe_meth (pl := _) (pe_call0 (ok_towers T) (hr.mono (by decide)) rfl T.m_towers T.F_towers.kp T.b_towers .nil pass0) T.cl_Machine T.mt_Machine_turn (ok_Machine_turn T) (hr.mono (by decide)) T.b_Machine_turn .nil pass0 (pa_cons pe_str pa_nil)) (pa_cons (pe_prop (pe_call (ok_counter T) (hr.mono (by decide)) rfl T.m_counter T.F_counter.kp T.b_counter .nil pass0 (pa_cons pe_int pa_nil)) T.cl_Machine T.pr_Machine_states (ok_Machine_states T) (hr.mono (by decide)) T.b_Machine_states .nil pass0 (by rfl)) pa_nil))))))))
    (pss_cons (ps_set (i := 3) sc_law.nd rfl (by first | exact Or.inl rfl | exact Or.inr rfl) (pe_lst (pa_cons pe_str (pa_cons pe_str pa_nil))))
    (pss_one (ps_ret (pe_cmpR (eqK K hr.units) (pv 2) (pe_op op_cat (pv 3) (pe_lst (pa_cons pe_str (pa_cons pe_int (pa_cons (pe_tup (pa_cons pe_int (pa_cons pe_int (pa_cons pe_int pa_nil)))) (pa_cons (pe_tup (pa_cons pe_str (pa_cons pe_str pa_nil))) pa_nil)))))) (nomark _)))))))), ?_⟩
    refine ⟨_, rfl, a, _, rfl, .inl hS, _, _, rfl, _, _, rfl, _, rfl, ?_, ?_, ?_⟩
    rotate_left
    rotate_left
    · refine for_range (Pv := fun _ σ H' => (∃ v1 v2 v3 v4 v5 v6, σ = [some (.ref a), v1, v2, v3, v4, v5, v6]) ∧ SqL K H' a (ns.map V.int)) ⟨⟨_, _, _, _, _, _, rfl⟩, hS⟩ ?_ ?_
      · rintro k σ H0 hk ⟨⟨v1, v2, v3, v4, v5, v6, rfl⟩, hS0⟩
        refine ⟨_, rfl, _, rfl, a, ns, _, rfl, hS0, by omega, fun Hu u su hu0 hu => ?_⟩
        refine ⟨by show 3 ≤ sizeLine; decide, fun B hB => ?_⟩
        have sB := same_new (o := HO.tup [.int 2, .int 3, .int 4]) hB
        have hB1 := upd_same (H := Hu) (a := B) (o := HO.tup [.int 2, .int 3, .int 4])
        have dB := (Drew.of hu (Same.refl _)).new (o := HO.tup [.int 2, .int 3, .int 4]) hB
        generalize upd Hu B (HO.tup [.int 2, .int 3, .int 4]) = H1 at sB hB1 dB ⊢
        have Bu : B ≠ u := dB.1.ne' hB1
        refine ⟨B, rfl, ⟨_, .of hB1⟩, fun D hD => lc_tup (xs := [.int 2, .int 3, .int 4]) (Pv := fun j H' => H' D = some (.lst []) ∧ H' B = some (.tup [.int 2, .int 3, .int 4]) ∧ Drew u H1 H') ⟨upd_same, same_new hD _ _ hB1, (Drew.of dB.1 (Same.refl _)).new hD⟩ (fun j H' _ h => .of h.2.1) ?_ ?_⟩
        · rintro j y H2 hy ⟨h2, hB2, dd⟩
          have hDu : D ≠ u := dB.1.ne hD
          obtain ⟨n, rfl, n2, n4⟩ : ∃ n : Nat, y = .int n ∧ 2 ≤ n ∧ n ≤ 4 := by
            match j, hy with
            | 0, hy => exact ⟨2, (Option.some.inj hy).symm, by decide, by decide⟩
            | 1, hy => exact ⟨3, (Option.some.inj hy).symm, by decide, by decide⟩
            | 2, hy => exact ⟨4, (Option.some.inj hy).symm, by decide, by decide⟩
            | j + 3, hy => cases hy
          refine ⟨wipe1 _ _ _, _, rfl, _, rfl, u, n, rfl, dd.1, n2, n4, fun H3 d3 => ⟨true, rfl, iteF ⟨d3.2 _ _ hDu h2, d3.2 _ _ Bu hB2, dd.trans d3⟩⟩⟩
        · rintro H2 ⟨h2, hB2, dd⟩
          refine ⟨by show 0 ≤ sizeLine; decide, fun p hp => ⟨.list [], .list [], .lst (.of (same_new hp _ _ h2)) .nil, .lst (.of upd_same) .nil, rfl, rfl, _, rfl, iteF ?_⟩⟩
          have d2 := dd.new (o := HO.lst []) hp
          generalize upd H2 p (HO.lst []) = H3 at d2 ⊢
          refine ⟨_, rfl, u, rfl, d2.1, fun H4 d4 => ⟨true, rfl, iteF ⟨_, rfl, u, rfl, d4.1, fun H5 d5 => ⟨true, rfl, iteF ?_⟩⟩⟩⟩
          have dA := ((dB.trans d2).trans d4).trans d5
          have S2 : Same H0 H5 := fun b o e => dA.2 b o (ne_of_none e hu0) (su b o e)
          exact ⟨⟨_, _, _, _, _, _, rfl⟩, S2.seq hS0⟩
      · rintro σ H0 ⟨⟨v1, v2, v3, v4, v5, v6, rfl⟩, hS0⟩
        refine ⟨6, rfl, by decide, by decide, fun D hD => lc_range (Pv := fun i H' => H' D = some (.lst [])) upd_same ?_ ?_⟩
        · rintro i H2 hi h2
          have hi : i < 6 := hi
          refine ⟨wipe1 _ _ _, _, rfl, i, ?_, hi, fun H3 s3 => ⟨true, rfl, iteF (s3 _ _ h2)⟩⟩
          rw [Int.zero_add]
          rfl
        · rintro H2 h2
          have h2 : H2 D = some (.lst []) := h2
          refine ⟨by show 0 ≤ sizeLine; decide, fun p hp => ⟨.list [], .list [], .lst (.of (same_new hp _ _ h2)) .nil, .lst (.of upd_same) .nil, rfl, rfl, _, rfl, iteF ?_⟩⟩
          generalize upd H2 p (HO.lst []) = H3
          refine ⟨3, rfl, by decide, by decide, fun H4 o1 dx1 st1 td1 ws1 s4 o10 m1 et1 => ⟨o1, dx1, _, rfl, m1.obj, o1, dx1, st1, td1, 3, ws1, rfl, m1, fun H5 s5 => ⟨_, rfl, ?_⟩⟩⟩
          refine ⟨rfl, fun H6 o2 dx2 st2 td2 ws2 s6 o20 m2 et2 => ⟨o2, dx2, _, rfl, m2.obj, o2, dx2, st2, td2, 2, ws2, rfl, m2, fun H7 s7 => ⟨_, rfl, ?_⟩⟩⟩
          refine ⟨rfl, fun H8 o3 dx3 st3 td3 ws3 s8 o30 m3 et3 => ⟨o3, dx3, _, rfl, m3.obj, o3, dx3, st3, td3, 2, ws3, rfl, m3, fun H9 s9 => ⟨_, rfl, ?_⟩⟩⟩
          rw [line_tris et1, line_tris et2, line_tris et3]
          refine ⟨rfl, fun HA o4 dx4 st4 td4 ws4 sA o40 m4 et4 => ⟨o4, dx4, _, rfl, m4.obj, o4, dx4, st4, td4, 3, ws4, rfl, m4, ws4.length, rfl, ?_, ?_⟩⟩
          · have := m4.good.most
            rw [List.length_map] at this
            rw [sizeLine_eq]
            omega
          have l4 : ws4.length = 4 := by
            have := congrArg List.length et4
            simpa [tris, towersT] using this
          rw [l4]
          refine ⟨rfl, fun HB o5 dx5 st5 td5 ws5 sB o50 m5 et5 => ?_⟩
          obtain ⟨r, hr, rn, rt⟩ : ∃ r ∈ ws5, r.1.nm = Str.ofString "c" ∧ r.1.turn = [0, 2, 1] := by
            have hc : ((Str.ofString "c", [0, 2, 1], ["c", "e", "e"]) : Tri) ∈ tris ws5 := by rw [et5]; simp [towersT]
            obtain ⟨q, hq, e⟩ := List.mem_map.mp hc
            obtain ⟨r, hr, rfl⟩ := List.mem_map.mp hq
            exact ⟨r, hr, congrArg (fun z : Tri => z.1) e, congrArg (fun z : Tri => z.2.1) e⟩
          refine ⟨o5, dx5, _, rfl, m5.obj, mF_no _ _ _ (by decide) (by decide) (by decide), o5, dx5, st5, td5, 3, ws5, r, by rw [rn]; rfl, m5, hr, ?_⟩
          refine ⟨4, rfl, by decide, by decide, fun HC o6 dx6 st6 td6 ws6 sC o60 m6 et6 => ⟨o6, dx6, _, rfl, m6.obj, o6, dx6, st6, td6, 4, ws6, rfl, m6, by show 6 ≤ sizeLine; decide, fun L hL => ?_⟩⟩
          have ht := sC _ _ (m5.tab.tt r hr)
          have hst := m6.sts
          rw [rt] at ht
          have e6 : (ws6.map fun r => r.1.nm) = [Str.ofString "a", Str.ofString "e"] := by rw [← tris_nms, et6]; rfl
          rw [e6] at hst
          have sL := same_new (o := HO.lst [.str (lineTxt 3 ((countT 3).map backR)), .str (lineTxt 2 (grayT.map backR)), .str (lineTxt 2 (foldedT.map backR)), .int ((4 : Nat) : Int), .ref r.1.ta, .ref st6]) hL
          have hL1 := upd_same (H := HC) (a := L) (o := HO.lst [.str (lineTxt 3 ((countT 3).map backR)), .str (lineTxt 2 (grayT.map backR)), .str (lineTxt 2 (foldedT.map backR)), .int ((4 : Nat) : Int), .ref r.1.ta, .ref st6])
          have ht := sL _ _ ht
          have hst := sL _ _ hst
          generalize upd HC L (HO.lst [.str (lineTxt 3 ((countT 3).map backR)), .str (lineTxt 2 (grayT.map backR)), .str (lineTxt 2 (foldedT.map backR)), .int ((4 : Nat) : Int), .ref r.1.ta, .ref st6]) = HD at ht hst hL1 ⊢
          rw [line3, lineG, lineF] at hL1
          refine ⟨by show 2 ≤ sizeLine; decide, fun U hU => ?_⟩
          have sU := same_new (o := HO.lst [.str "machine of 3 letters: a 120 e e a, e 012 e e e", .str "machine of 2 letters: a 10 e e, b 01 b a, e 01 e e"]) hU
          have hU1 := upd_same (H := HD) (a := U) (o := HO.lst [.str "machine of 3 letters: a 120 e e a, e 012 e e e", .str "machine of 2 letters: a 10 e e, b 01 b a, e 01 e e"])
          have hL2 := sU _ _ hL1
          have ht := sU _ _ ht
          have hst := sU _ _ hst
          generalize upd HD U (HO.lst [.str "machine of 3 letters: a 120 e e a, e 012 e e e", .str "machine of 2 letters: a 10 e e, b 01 b a, e 01 e e"]) = HE at ht hst hU1 hL2 ⊢
          refine ⟨_, rfl, _, rfl, by show 3 ≤ sizeLine; decide, fun X1 hX1 => ⟨by show 2 ≤ sizeLine; decide, fun X2 hX2 => ⟨by show 4 ≤ sizeLine; decide, fun W hW => ?_⟩⟩⟩
          have s3 := (same_new (o := HO.tup [.int 0, .int 2, .int 1]) hX1).trans (same_new (o := HO.tup [.str "a", .str "e"]) hX2)
          have x1 := same_new (o := HO.tup [.str "a", .str "e"]) hX2 _ _ (upd_same (H := HE) (a := X1) (o := HO.tup [.int 0, .int 2, .int 1]))
          have x2 := upd_same (H := upd HE X1 (.tup [.int 0, .int 2, .int 1])) (a := X2) (o := HO.tup [.str "a", .str "e"])
          generalize upd (upd HE X1 (.tup [.int 0, .int 2, .int 1])) X2 (.tup [.str "a", .str "e"]) = HF at s3 x1 x2 hW ⊢
          have sW := same_new (o := HO.lst [.str "machine of 2 letters: a 10 e b, b 01 e a, e 01 e e", .int 4, .ref X1, .ref X2]) hW
          have hW1 := upd_same (H := HF) (a := W) (o := HO.lst [.str "machine of 2 letters: a 10 e b, b 01 e a, e 01 e e", .int 4, .ref X1, .ref X2])
          have sA := s3.trans sW
          have x1 := sW _ _ x1
          have x2 := sW _ _ x2
          generalize upd HF W (HO.lst [.str "machine of 2 letters: a 10 e b, b 01 e a, e 01 e e", .int 4, .ref X1, .ref X2]) = HG at sA hW1 x1 x2 ⊢
          refine ⟨U, W, _, _, rfl, rfl, sA _ _ hU1, hW1, by show 6 ≤ sizeLine; decide, fun Z hZ => ?_⟩
          have sZ := same_new (o := HO.lst ([.str "machine of 3 letters: a 120 e e a, e 012 e e e", .str "machine of 2 letters: a 10 e e, b 01 b a, e 01 e e"] ++ [.str "machine of 2 letters: a 10 e b, b 01 e a, e 01 e e", .int 4, .ref X1, .ref X2])) hZ
          have itz : ∀ {H : Hp}, DpAll K H [.int 0, .int 2, .int 1] [.int 0, .int 2, .int 1] := .cons (.int _) (.cons (.int _) (.cons (.int _) .nil))
          have sts : ∀ {H : Hp}, DpAll K H [.str "a", .str "e"] [.str "a", .str "e"] := .cons (.str _) (.cons (.str _) .nil)
          refine ⟨toldK, toldK, .lst (.of (sZ _ _ (sA _ _ hL2))) (.cons (.str _) (.cons (.str _) (.cons (.str _) (.cons (.int _) (.cons (.tup (.of (sZ _ _ (sA _ _ ht))) itz) (.cons (.tup (.of (sZ _ _ (sA _ _ hst))) sts) .nil)))))), .lst (.of upd_same) (.cons (.str _) (.cons (.str _) (.cons (.str _) (.cons (.int _) (.cons (.tup (.of (sZ _ _ x1)) itz) (.cons (.tup (.of (sZ _ _ x2)) sts) .nil)))))), toldK_ok.1, toldK_ok.1, ?_⟩
          rw [toldK_ok.2]
          exact q _
    · show -2 ^ 62 ≤ (if (if ((((ns.map V.int).length : Nat) : Int)) < 4 then (((ns.map V.int).length : Nat) : Int) else 4) > 1 then (if ((((ns.map V.int).length : Nat) : Int)) < 4 then (((ns.map V.int).length : Nat) : Int) else 4) else 1)
      rw [List.length_map]
      split <;> split <;> omega
    · show (if (if ((((ns.map V.int).length : Nat) : Int)) < 4 then (((ns.map V.int).length : Nat) : Int) else 4) > 1 then (if ((((ns.map V.int).length : Nat) : Int)) < 4 then (((ns.map V.int).length : Nat) : Int) else 4) else 1) < 2 ^ 62
      rw [List.length_map]
      split <;> split <;> omega
end
end My

set_option Elab.async false
set_option linter.all false
set_option maxRecDepth 100000
set_option maxHeartbeats 4000000
namespace My
open PySem PySem.Spec PyProof.Rows L2 LamX
/-! ### the call of the law from the outside: nothing is under way -/
section
variable {P : Program} {w : World} {K : PySem.W.Frag} {mg mb : Str → Option Value}
def lsO (us : List Value) : Obj := { cls := .type "list", data := .seq us.toArray }
/-- tracked: the script, unless the written part has it -/
def firstH (K : PySem.W.Frag) (a : Addr) (us : List Value) (xs : List V) : Hp := fun b => if b = a ∧ K.lookup a = none then some (.frz (lsO us) (.lst xs)) else none
theorem first_some {a b : Addr} {us : List Value} {xs : List V} {u : HO} (h : firstH K a us xs b = some u) : b = a ∧ K.lookup a = none ∧ u = .frz (lsO us) (.lst xs) := by
  unfold firstH at h
  split at h
  · next e => exact ⟨e.1, e.2, (Option.some.inj h).symm⟩
  · cases h
theorem law_end {fa a : Addr} {s : Shared} {us : List Value} {ns : List Int} {fd : FuncData} {ps : List Str} {lv : Nat} (k0 : K.In s.heap) (gns : s.heap.Ns mainGlobals mg) (bns : s.heap.Ns builtinsNs mb) (boot : ∀ x : Str, x ≠ "__name__" → mb x = bootBuiltins x) (nl : s.heap.NoLimit) (ng : s.gens = #[])
    (sa : s.heap.get? a = some (lsO us)) (hi : IntsAre us ns) (short : ns.length ≤ 63)
    (F : ∀ base, FnG P w K mg base CX0 lv fa fd ps (spLaw K)) (room : Room lv callerA) (gd : callerA.guards = some []) (bd : Binds K fd ps []) (one : ps.length = 1) :
    codeAny (model P w) callerA (.call (.ref fa) ⟨[.ref a], []⟩) (fun r t => r = .ok (.ret (.bool true)) ∧ OldK s.heap t.heap ∧ t.os = s.os ∧ AllBare t.gens) s := by
  have frees : ∀ {b : Addr} {o : Obj}, s.heap.get? b = some o → (∀ x n, o.data ≠ .seq x n) → firstH K a us (ns.map V.int) b = none := fun {b o} e n1 => by
    cases q : firstH K a us (ns.map V.int) b with
    | none => rfl
    | some u =>
      obtain ⟨rfl, _⟩ := first_some q
      exact (n1 us.toArray _ (by rw [Option.some.inj (e.symm.trans sa)]; rfl)).elim
  have low : ∀ {b : Addr} {o : Obj}, s.heap.get? b = some o → (∀ x n, o.data ≠ .seq x n) → (hidT s.heap (firstH K a us (ns.map V.int))).get? b = some o := fun e n1 => hidT_get e (frees e n1)
  have spaces : ∀ {b : Addr} {m : Str → Option Value}, s.heap.Ns b m → (hidT s.heap (firstH K a us (ns.map V.int))).Ns b m := fun {b m} z => by
    obtain ⟨o, es, ep, e, d, rest⟩ := z
    exact ⟨o, es, ep, low e (fun x n z => by rw [d] at z; cases z), d, rest⟩
  have inK : K.In (hidT s.heap (firstH K a us (ns.map V.int))) := fun b o e => hidT_get (k0 b o e) (by
    cases q : firstH K a us (ns.map V.int) b with
    | none => rfl
    | some u =>
      obtain ⟨rfl, z, _⟩ := first_some q
      rw [z] at e; cases e)
  have md : L2.Mod K mg (hidT s.heap (firstH K a us (ns.map V.int))) := by
    obtain ⟨lm, l1, l2⟩ := nl
    exact ⟨inK, spaces gns, ⟨mb, spaces bns, boot⟩, ⟨lm, spaces l1, l2⟩⟩
  have rel := vals_ints hi
  have ok : HOk P w (firstH K a us (ns.map V.int)) s.heap := fun b u q => by
    obtain ⟨rfl, _, rfl⟩ := first_some q
    exact ⟨sa, by rw [List.length_map, sizeLine_eq]; omega, us, _, rel, sa⟩
  have env : Env0 P w K mg (hidT s.heap (firstH K a us (ns.map V.int))) callerA [] s (firstH K a us (ns.map V.int)) :=
    { frames := rfl, mod := md, bs := fun _ _ => of_hidT, bsz := Nat.le_of_eq (hidT_size _ _), funs := trivial, frf := fun b hb => (List.not_mem_nil hb).elim, hok := ok, bare := .of_eq ng }
  have sq : SqL K (firstH K a us (ns.map V.int)) a (ns.map V.int) := by
    cases q : K.lookup a with
    | none => exact .inl (.inr ⟨lsO us, if_pos ⟨rfl, q⟩⟩)
    | some o =>
      have e := (k0 a o q).symm.trans sa
      rw [Option.some.inj e] at q
      exact .inr ⟨_, us.toArray, _, q, rfl, rfl, rfl, by rw [List.size_toArray, hi.length, sizeLine_eq]; omega, by simpa using rel⟩
  refine codeAny_mono ((F _).runs callerA [] s _ ⟨[.ref a], []⟩ [.ref a] [.ref a] (fun v _ => v = .bl true) E0 gd room env (bd s [.ref a] k0 (by rw [one]; rfl)) (.cons rfl .nil) ⟨a, ns, rfl, sq, short, fun _ => rfl⟩) fun r t z => ?_
  match r, z with
  | .error _, z => exact False.elim z
  | .ok .next, z => exact False.elim z
  | .ok .brk, z => exact False.elim z
  | .ok .cont, z => exact False.elim z
  | .ok (.ret u), z =>
    obtain ⟨v, H', os, bare, un, ok', rv, e⟩ := z
    have e : v = .bl true := e
    subst e
    have eu : u = Value.bool true := rv
    have stay : ∀ b o, s.heap.get? b = some o → t.heap.get? b = some o := fun b o e => by
      cases q : firstH K a us (ns.map V.int) b with
      | none => exact un.keep b o e q (fun z => (List.not_mem_nil z).elim) (fun z => (List.not_mem_nil z).elim)
      | some y =>
        obtain ⟨z, _, ey⟩ := first_some q
        rw [ey] at q
        obtain ⟨e1, _⟩ := ok' b _ (un.frzs b _ _ q)
        obtain ⟨e2, _⟩ := ok b _ q
        exact (Option.some.inj (e.symm.trans e2)) ▸ e1
    exact ⟨by rw [eu], ⟨fun b o e => .inl (stay b o e), fun b o e => ⟨o, stay b o e⟩⟩, os, bare⟩
end
/-- an error class names itself behind except -/
theorem exm_own {K : PySem.W.Frag} {C : Addr} (e : PySem.W.subIn K (.ref C) (.type "BaseException") = some true) (i : PySem.W.isClsIn K C = true) (t : PySem.W.typeIn K (.ref C) = some (.type "type")) (s : PySem.W.subIn K (.ref C) (.ref C) = some true) :
    PySem.W.exmOne K (.ref C) (.ref C) = some true := by
  have i' : (PySem.W.clsIn K C).isSome = true := i
  have a1 : (PySem.W.subIn K (.ref C) (.type "BaseException") == some true) = true := by rw [e] <;> rfl
  have a2 : ((PySem.W.clsIn K C).isSome && PySem.W.typeIn K (.ref C) == some (.type "type")) = true := by rw [i', t] <;> rfl
  exact (if_pos a1).trans ((if_pos a2).trans s)
def LawIs (K : PySem.W.Frag) (mg : Str → Option Value) (fa : Addr) : Prop := ∃ T : Tx K mg, T.f_law = fa
theorem the_walk {l : PySem.W.OpenLaw} {q : Program} {loose : List Str} {XP : (Str → Option Value) → Heap → Prop} {YP : World → Heap → Prop} {d : DefRec} {K : Params → PySem.W.Frag} (hn : l.most = some 63) (hdf : d.params.defaults = []) (hd : d.name = "law")
    (hY : ∀ (w : World) (h : Heap), YP w h → (K w.params).In h)
    (F : ∀ (w : World) (mg : Str → Option Value) (fa : Addr) (h : Heap), (K w.params).In h → h.Ns mainGlobals mg → mg "law" = some (.ref fa) → LawIs (K w.params) mg fa) :
    PySem.W.WalkO q loose XP YP l.row.toRowW d [] (fun f vs => PySem.call f vs) := by
  refine Att.attach_callB hn hdf fun w s₀ s mg mb fa o pm cd doc a us ns G Y ho hdat hcd hmg hobj hints hlen hbits hg => ?_
  have k0 := hY w _ Y
  rw [hd] at hmg
  obtain ⟨T, rfl⟩ := F w mg fa _ k0 G.T.g hmg
  exact law_end k0 G.T.g G.T.b G.T.builtins G.T.nolimit hg hobj hints hlen (fun base => ok_law T) ⟨rfl, by decide, by decide⟩ rfl T.b_law rfl
theorem all_mk {K : PySem.W.Frag} {h : Heap} {mg : Str → Option Value} {fa : Addr} (X : K.In h) (G : h.Ns mainGlobals mg) (hfa : mg "law" = some (.ref fa))
    {C_InvalidNumber i_InvalidNumber : Addr} {nm_InvalidNumber qn_InvalidNumber : Str} {N_InvalidNumber : Addr} {bs_InvalidNumber : List Value} {sn_InvalidNumber : List Str} {sub_InvalidNumber : List Value} {ab_InvalidNumber : Bool} {col_InvalidNumber : Option Bool} {dd_InvalidNumber : Option Addr} {m0_InvalidNumber m1_InvalidNumber m2_InvalidNumber m3_InvalidNumber m5_InvalidNumber : Option Value} {oc_InvalidNumber dc_InvalidNumber pm_InvalidNumber cd_InvalidNumber ct_InvalidNumber : Value} {od_InvalidNumber an_InvalidNumber : Option Addr} {sl_InvalidNumber : Array (Option Value)} {p1_InvalidNumber p2_InvalidNumber q1_InvalidNumber q2_InvalidNumber q3_InvalidNumber q4_InvalidNumber : Pos}
    {t_MAX_TEXT : Tok}
    {t_MAX_STATES : Tok}
    {t_MAX_NAME : Tok}
    {t_NAME_SIGNS : Tok}
    {t_DIGITS : Tok}
    {f_is_whole : Addr} {oc_is_whole kV_is_whole dc_is_whole pm_is_whole ct_is_whole : Value} {od_is_whole an_is_whole : Option Addr} {sl_is_whole : Array (Option Value)} {cd_is_whole : Value}
    {f_is_between : Addr} {oc_is_between kV_is_between dc_is_between pm_is_between ct_is_between : Value} {od_is_between an_is_between : Option Addr} {sl_is_between : Array (Option Value)} {cd_is_between : Value}
    {f_is_name : Addr} {oc_is_name kV_is_name dc_is_name pm_is_name ct_is_name : Value} {od_is_name an_is_name : Option Addr} {sl_is_name : Array (Option Value)} {cd_is_name : Value}
    {f_is_text : Addr} {oc_is_text kV_is_text dc_is_text pm_is_text ct_is_text : Value} {od_is_text an_is_text : Option Addr} {sl_is_text : Array (Option Value)} {cd_is_text : Value}
    {f_is_turn : Addr} {oc_is_turn kV_is_turn dc_is_turn pm_is_turn ct_is_turn : Value} {od_is_turn an_is_turn : Option Addr} {sl_is_turn : Array (Option Value)} {cd_is_turn : Value}
    {f_check_letters : Addr} {oc_check_letters kV_check_letters dc_check_letters pm_check_letters ct_check_letters : Value} {od_check_letters an_check_letters : Option Addr} {sl_check_letters : Array (Option Value)} {cd_check_letters : Value}
    {f_check_text : Addr} {oc_check_text kV_check_text dc_check_text pm_check_text ct_check_text : Value} {od_check_text an_check_text : Option Addr} {sl_check_text : Array (Option Value)} {cd_check_text : Value}
    {f_undone_turn : Addr} {oc_undone_turn kV_undone_turn dc_undone_turn pm_undone_turn ct_undone_turn : Value} {od_undone_turn an_undone_turn : Option Addr} {sl_undone_turn : Array (Option Value)} {cd_undone_turn : Value}
    {f_undone_row : Addr} {oc_undone_row kV_undone_row dc_undone_row pm_undone_row ct_undone_row : Value} {od_undone_row an_undone_row : Option Addr} {sl_undone_row : Array (Option Value)} {cd_undone_row : Value}
    {f_led_from : Addr} {oc_led_from kV_led_from dc_led_from pm_led_from ct_led_from : Value} {od_led_from an_led_from : Option Addr} {sl_led_from : Array (Option Value)} {cd_led_from : Value}
    {f_shown_turn : Addr} {oc_shown_turn kV_shown_turn dc_shown_turn pm_shown_turn ct_shown_turn : Value} {od_shown_turn an_shown_turn : Option Addr} {sl_shown_turn : Array (Option Value)} {cd_shown_turn : Value}
    {f_check_state : Addr} {oc_check_state kV_check_state dc_check_state pm_check_state ct_check_state : Value} {od_check_state an_check_state : Option Addr} {sl_check_state : Array (Option Value)} {cd_check_state : Value}
    {f_is_state_table : Addr} {oc_is_state_table kV_is_state_table dc_is_state_table pm_is_state_table ct_is_state_table : Value} {od_is_state_table an_is_state_table : Option Addr} {sl_is_state_table : Array (Option Value)} {cd_is_state_table : Value}
    {f_is_state_row : Addr} {oc_is_state_row kV_is_state_row dc_is_state_row pm_is_state_row ct_is_state_row : Value} {od_is_state_row an_is_state_row : Option Addr} {sl_is_state_row : Array (Option Value)} {cd_is_state_row : Value}
    {f_shown_table : Addr} {oc_shown_table kV_shown_table dc_shown_table pm_shown_table ct_shown_table : Value} {od_shown_table an_shown_table : Option Addr} {sl_shown_table : Array (Option Value)} {cd_shown_table : Value}
    {f_counter : Addr} {oc_counter kV_counter dc_counter pm_counter ct_counter : Value} {od_counter an_counter : Option Addr} {sl_counter : Array (Option Value)} {cd_counter : Value}
    {f_gray : Addr} {oc_gray kV_gray dc_gray pm_gray ct_gray : Value} {od_gray an_gray : Option Addr} {sl_gray : Array (Option Value)} {cd_gray : Value}
    {f_towers : Addr} {oc_towers kV_towers dc_towers pm_towers ct_towers : Value} {od_towers an_towers : Option Addr} {sl_towers : Array (Option Value)} {cd_towers : Value}
    {f_folded : Addr} {oc_folded kV_folded dc_folded pm_folded ct_folded : Value} {od_folded an_folded : Option Addr} {sl_folded : Array (Option Value)} {cd_folded : Value}
    {f_idle_row : Addr} {oc_idle_row kV_idle_row dc_idle_row pm_idle_row ct_idle_row : Value} {od_idle_row an_idle_row : Option Addr} {sl_idle_row : Array (Option Value)} {cd_idle_row : Value}
    {f_texts_of : Addr} {oc_texts_of kV_texts_of dc_texts_of pm_texts_of ct_texts_of : Value} {od_texts_of an_texts_of : Option Addr} {sl_texts_of : Array (Option Value)} {cd_texts_of : Value}
    {f_urn : Addr} {oc_urn kV_urn dc_urn pm_urn ct_urn : Value} {od_urn an_urn : Option Addr} {sl_urn : Array (Option Value)} {cd_urn : Value}
    {f_dip : Addr} {oc_dip kV_dip dc_dip pm_dip ct_dip : Value} {od_dip an_dip : Option Addr} {sl_dip : Array (Option Value)} {cd_dip : Value}
    {f_text : Addr} {oc_text kV_text dc_text pm_text ct_text : Value} {od_text an_text : Option Addr} {sl_text : Array (Option Value)} {cd_text : Value}
    {f_digits : Addr} {oc_digits kV_digits dc_digits pm_digits ct_digits : Value} {od_digits an_digits : Option Addr} {sl_digits : Array (Option Value)} {cd_digits : Value}
    {f_counts : Addr} {oc_counts kV_counts dc_counts pm_counts ct_counts : Value} {od_counts an_counts : Option Addr} {sl_counts : Array (Option Value)} {cd_counts : Value}
    {f_gray_right : Addr} {oc_gray_right kV_gray_right dc_gray_right pm_gray_right ct_gray_right : Value} {od_gray_right an_gray_right : Option Addr} {sl_gray_right : Array (Option Value)} {cd_gray_right : Value}
    {f_towers_right : Addr} {oc_towers_right kV_towers_right dc_towers_right pm_towers_right ct_towers_right : Value} {od_towers_right an_towers_right : Option Addr} {sl_towers_right : Array (Option Value)} {cd_towers_right : Value}
    {f_folded_right : Addr} {oc_folded_right kV_folded_right dc_folded_right pm_folded_right ct_folded_right : Value} {od_folded_right an_folded_right : Option Addr} {sl_folded_right : Array (Option Value)} {cd_folded_right : Value}
    {f_law : Addr} {oc_law kV_law dc_law pm_law ct_law : Value} {od_law an_law : Option Addr} {sl_law : Array (Option Value)} {cd_law : Value}
    {C_Machine : Addr}
    {f_Machine_init : Addr} {oc_Machine_init kV_Machine_init dc_Machine_init pm_Machine_init ct_Machine_init cd_Machine_init : Value} {od_Machine_init an_Machine_init : Option Addr} {sl_Machine_init : Array (Option Value)}
    {f_Machine_states : Addr} {oc_Machine_states kV_Machine_states dc_Machine_states pm_Machine_states ct_Machine_states cd_Machine_states : Value} {od_Machine_states an_Machine_states : Option Addr} {sl_Machine_states : Array (Option Value)}
    {pp_Machine_states : Addr} {pe_Machine_states : List Value}
    {f_Machine_turn : Addr} {oc_Machine_turn kV_Machine_turn dc_Machine_turn pm_Machine_turn ct_Machine_turn cd_Machine_turn : Value} {od_Machine_turn an_Machine_turn : Option Addr} {sl_Machine_turn : Array (Option Value)}
    {f_Machine_step : Addr} {oc_Machine_step kV_Machine_step dc_Machine_step pm_Machine_step ct_Machine_step cd_Machine_step : Value} {od_Machine_step an_Machine_step : Option Addr} {sl_Machine_step : Array (Option Value)}
    {f_Machine_undone : Addr} {oc_Machine_undone kV_Machine_undone dc_Machine_undone pm_Machine_undone ct_Machine_undone cd_Machine_undone : Value} {od_Machine_undone an_Machine_undone : Option Addr} {sl_Machine_undone : Array (Option Value)}
    {f_Machine_invert : Addr} {oc_Machine_invert kV_Machine_invert dc_Machine_invert pm_Machine_invert ct_Machine_invert cd_Machine_invert : Value} {od_Machine_invert an_Machine_invert : Option Addr} {sl_Machine_invert : Array (Option Value)}
    {f_Machine_contains : Addr} {oc_Machine_contains kV_Machine_contains dc_Machine_contains pm_Machine_contains ct_Machine_contains cd_Machine_contains : Value} {od_Machine_contains an_Machine_contains : Option Addr} {sl_Machine_contains : Array (Option Value)}
    {f_Machine_len : Addr} {oc_Machine_len kV_Machine_len dc_Machine_len pm_Machine_len ct_Machine_len cd_Machine_len : Value} {od_Machine_len an_Machine_len : Option Addr} {sl_Machine_len : Array (Option Value)}
    {f_Machine_str : Addr} {oc_Machine_str kV_Machine_str dc_Machine_str pm_Machine_str ct_Machine_str cd_Machine_str : Value} {od_Machine_str an_Machine_str : Option Addr} {sl_Machine_str : Array (Option Value)}
    (aC_InvalidNumber : PySem.W.nsIn K mainGlobals "InvalidNumber" = some (some (.ref C_InvalidNumber)))
    (xC_InvalidNumber : K.lookup C_InvalidNumber = some (excClassObj nm_InvalidNumber qn_InvalidNumber C_InvalidNumber N_InvalidNumber bs_InvalidNumber [.type "IndexError", .type "LookupError", .type "Exception", .type "BaseException", .type "object"] true sn_InvalidNumber sub_InvalidNumber ab_InvalidNumber col_InvalidNumber dd_InvalidNumber m0_InvalidNumber m1_InvalidNumber m2_InvalidNumber m3_InvalidNumber m5_InvalidNumber "IndexError.__new__"))
    (sa_InvalidNumber : PySem.W.findIn K (.ref C_InvalidNumber) "__setattr__" = some (some (.builtin "object.__setattr__")))
    (ga_InvalidNumber : PySem.W.findIn K (.ref C_InvalidNumber) "__getattribute__" = some (some (.builtin "BaseException.__getattribute__")))
    (gg_InvalidNumber : PySem.W.findIn K (.ref C_InvalidNumber) "__getattr__" = some none)
    (nv_InvalidNumber : PySem.W.findIn K (.ref C_InvalidNumber) "value" = some none)
    (in_InvalidNumber : PySem.W.findIn K (.ref C_InvalidNumber) "__init__" = some (some (.ref i_InvalidNumber)))
    (ti_InvalidNumber : PySem.W.typeIn K (.ref i_InvalidNumber) = some (.type "function"))
    (li_InvalidNumber : K.lookup i_InvalidNumber = some ⟨oc_InvalidNumber, od_InvalidNumber, .func (PySem.W.fnOf "__init__" "InvalidNumber.__init__" (ExInvalidNumber.iA p1_InvalidNumber p2_InvalidNumber) (ExInvalidNumber.iB q1_InvalidNumber q2_InvalidNumber q3_InvalidNumber q4_InvalidNumber) ExInvalidNumber.iS .none .none dc_InvalidNumber pm_InvalidNumber an_InvalidNumber cd_InvalidNumber ct_InvalidNumber), sl_InvalidNumber⟩)
    (ci_InvalidNumber : PySem.W.codeIn K cd_InvalidNumber "InvalidNumber.__init__" = true)
    (kC_InvalidNumber : PySem.W.keepIn K (.ref C_InvalidNumber) = true)
    (eC_InvalidNumber : PySem.W.subIn K (.ref C_InvalidNumber) (.type "BaseException") = some true)
    (tC_InvalidNumber : PySem.W.typeIn K (.ref C_InvalidNumber) = some (.type "type"))
    (hC_InvalidNumber : PySem.W.hasDictIn K C_InvalidNumber = true)
    (ic_InvalidNumber : PySem.W.isClsIn K C_InvalidNumber = true)
    (sC_InvalidNumber : PySem.W.subIn K (.ref C_InvalidNumber) (.ref C_InvalidNumber) = some true)
    (z_ValueError : PySem.W.nsIn K mainGlobals "ValueError" = some none)
    (z_IndexError : PySem.W.nsIn K mainGlobals "IndexError" = some none)
    (z_KeyError : PySem.W.nsIn K mainGlobals "KeyError" = some none)
    (z_all : PySem.W.nsIn K mainGlobals "all" = some none)
    (z_list : PySem.W.nsIn K mainGlobals "list" = some none)
    (z_enumerate : PySem.W.nsIn K mainGlobals "enumerate" = some none)
    (z_tuple : PySem.W.nsIn K mainGlobals "tuple" = some none)
    (z_range : PySem.W.nsIn K mainGlobals "range" = some none)
    (z_isinstance : PySem.W.nsIn K mainGlobals "isinstance" = some none)
    (z_int : PySem.W.nsIn K mainGlobals "int" = some none)
    (z_repr : PySem.W.nsIn K mainGlobals "repr" = some none)
    (z_sorted : PySem.W.nsIn K mainGlobals "sorted" = some none)
    (z_len : PySem.W.nsIn K mainGlobals "len" = some none)
    (z_iter : PySem.W.nsIn K mainGlobals "iter" = some none)
    (z_max : PySem.W.nsIn K mainGlobals "max" = some none)
    (z_str : PySem.W.nsIn K mainGlobals "str" = some none)
    (z_bool : PySem.W.nsIn K mainGlobals "bool" = some none)
    (z_dict : PySem.W.nsIn K mainGlobals "dict" = some none)
    (z_abs : PySem.W.nsIn K mainGlobals "abs" = some none)
    (z_min : PySem.W.nsIn K mainGlobals "min" = some none)
    (z_sum : PySem.W.nsIn K mainGlobals "sum" = some none)
    (g_MAX_TEXT : PySem.W.nsIn K mainGlobals "MAX_TEXT" = some (some (.int 200 t_MAX_TEXT)))
    (g_MAX_STATES : PySem.W.nsIn K mainGlobals "MAX_STATES" = some (some (.int 8 t_MAX_STATES)))
    (g_MAX_NAME : PySem.W.nsIn K mainGlobals "MAX_NAME" = some (some (.int 8 t_MAX_NAME)))
    (g_NAME_SIGNS : PySem.W.nsIn K mainGlobals "NAME_SIGNS" = some (some (.str "abcdefghijklmnopqrstuvwxyz" t_NAME_SIGNS)))
    (g_DIGITS : PySem.W.nsIn K mainGlobals "DIGITS" = some (some (.str "0123" t_DIGITS)))
    (a_is_whole : PySem.W.nsIn K mainGlobals "is_whole" = some (some (.ref f_is_whole)))
    (l_is_whole : K.lookup f_is_whole = some ⟨oc_is_whole, od_is_whole, .func (PySem.W.fnOf "is_whole" "is_whole" (defArgs s_is_whole) (defBody s_is_whole) (defScope s_is_whole) .none kV_is_whole dc_is_whole pm_is_whole an_is_whole cd_is_whole ct_is_whole), sl_is_whole⟩)
    (c_is_whole : PySem.W.codeIn K cd_is_whole "is_whole" = true)
    (k_is_whole : PySem.W.keepIn K (.ref f_is_whole) = true)
    (a_is_between : PySem.W.nsIn K mainGlobals "is_between" = some (some (.ref f_is_between)))
    (l_is_between : K.lookup f_is_between = some ⟨oc_is_between, od_is_between, .func (PySem.W.fnOf "is_between" "is_between" (defArgs s_is_between) (defBody s_is_between) (defScope s_is_between) .none kV_is_between dc_is_between pm_is_between an_is_between cd_is_between ct_is_between), sl_is_between⟩)
    (c_is_between : PySem.W.codeIn K cd_is_between "is_between" = true)
    (k_is_between : PySem.W.keepIn K (.ref f_is_between) = true)
    (a_is_name : PySem.W.nsIn K mainGlobals "is_name" = some (some (.ref f_is_name)))
    (l_is_name : K.lookup f_is_name = some ⟨oc_is_name, od_is_name, .func (PySem.W.fnOf "is_name" "is_name" (defArgs s_is_name) (defBody s_is_name) (defScope s_is_name) .none kV_is_name dc_is_name pm_is_name an_is_name cd_is_name ct_is_name), sl_is_name⟩)
    (c_is_name : PySem.W.codeIn K cd_is_name "is_name" = true)
    (k_is_name : PySem.W.keepIn K (.ref f_is_name) = true)
    (a_is_text : PySem.W.nsIn K mainGlobals "is_text" = some (some (.ref f_is_text)))
    (l_is_text : K.lookup f_is_text = some ⟨oc_is_text, od_is_text, .func (PySem.W.fnOf "is_text" "is_text" (defArgs s_is_text) (defBody s_is_text) (defScope s_is_text) .none kV_is_text dc_is_text pm_is_text an_is_text cd_is_text ct_is_text), sl_is_text⟩)
    (c_is_text : PySem.W.codeIn K cd_is_text "is_text" = true)
    (k_is_text : PySem.W.keepIn K (.ref f_is_text) = true)
    (a_is_turn : PySem.W.nsIn K mainGlobals "is_turn" = some (some (.ref f_is_turn)))
    (l_is_turn : K.lookup f_is_turn = some ⟨oc_is_turn, od_is_turn, .func (PySem.W.fnOf "is_turn" "is_turn" (defArgs s_is_turn) (defBody s_is_turn) (defScope s_is_turn) .none kV_is_turn dc_is_turn pm_is_turn an_is_turn cd_is_turn ct_is_turn), sl_is_turn⟩)
    (c_is_turn : PySem.W.codeIn K cd_is_turn "is_turn" = true)
    (k_is_turn : PySem.W.keepIn K (.ref f_is_turn) = true)
    (a_check_letters : PySem.W.nsIn K mainGlobals "check_letters" = some (some (.ref f_check_letters)))
    (l_check_letters : K.lookup f_check_letters = some ⟨oc_check_letters, od_check_letters, .func (PySem.W.fnOf "check_letters" "check_letters" (defArgs s_check_letters) (defBody s_check_letters) (defScope s_check_letters) .none kV_check_letters dc_check_letters pm_check_letters an_check_letters cd_check_letters ct_check_letters), sl_check_letters⟩)
    (c_check_letters : PySem.W.codeIn K cd_check_letters "check_letters" = true)
    (k_check_letters : PySem.W.keepIn K (.ref f_check_letters) = true)
    (a_check_text : PySem.W.nsIn K mainGlobals "check_text" = some (some (.ref f_check_text)))
    (l_check_text : K.lookup f_check_text = some ⟨oc_check_text, od_check_text, .func (PySem.W.fnOf "check_text" "check_text" (defArgs s_check_text) (defBody s_check_text) (defScope s_check_text) .none kV_check_text dc_check_text pm_check_text an_check_text cd_check_text ct_check_text), sl_check_text⟩)
    (c_check_text : PySem.W.codeIn K cd_check_text "check_text" = true)
    (k_check_text : PySem.W.keepIn K (.ref f_check_text) = true)
    (a_undone_turn : PySem.W.nsIn K mainGlobals "undone_turn" = some (some (.ref f_undone_turn)))
    (l_undone_turn : K.lookup f_undone_turn = some ⟨oc_undone_turn, od_undone_turn, .func (PySem.W.fnOf "undone_turn" "undone_turn" (defArgs s_undone_turn) (defBody s_undone_turn) (defScope s_undone_turn) .none kV_undone_turn dc_undone_turn pm_undone_turn an_undone_turn cd_undone_turn ct_undone_turn), sl_undone_turn⟩)
    (c_undone_turn : PySem.W.codeIn K cd_undone_turn "undone_turn" = true)
    (k_undone_turn : PySem.W.keepIn K (.ref f_undone_turn) = true)
    (a_undone_row : PySem.W.nsIn K mainGlobals "undone_row" = some (some (.ref f_undone_row)))
    (l_undone_row : K.lookup f_undone_row = some ⟨oc_undone_row, od_undone_row, .func (PySem.W.fnOf "undone_row" "undone_row" (defArgs s_undone_row) (defBody s_undone_row) (defScope s_undone_row) .none kV_undone_row dc_undone_row pm_undone_row an_undone_row cd_undone_row ct_undone_row), sl_undone_row⟩)
    (c_undone_row : PySem.W.codeIn K cd_undone_row "undone_row" = true)
    (k_undone_row : PySem.W.keepIn K (.ref f_undone_row) = true)
    (a_led_from : PySem.W.nsIn K mainGlobals "led_from" = some (some (.ref f_led_from)))
    (l_led_from : K.lookup f_led_from = some ⟨oc_led_from, od_led_from, .func (PySem.W.fnOf "led_from" "led_from" (defArgs s_led_from) (defBody s_led_from) (defScope s_led_from) .none kV_led_from dc_led_from pm_led_from an_led_from cd_led_from ct_led_from), sl_led_from⟩)
    (c_led_from : PySem.W.codeIn K cd_led_from "led_from" = true)
    (k_led_from : PySem.W.keepIn K (.ref f_led_from) = true)
    (a_shown_turn : PySem.W.nsIn K mainGlobals "shown_turn" = some (some (.ref f_shown_turn)))
    (l_shown_turn : K.lookup f_shown_turn = some ⟨oc_shown_turn, od_shown_turn, .func (PySem.W.fnOf "shown_turn" "shown_turn" (defArgs s_shown_turn) (defBody s_shown_turn) (defScope s_shown_turn) .none kV_shown_turn dc_shown_turn pm_shown_turn an_shown_turn cd_shown_turn ct_shown_turn), sl_shown_turn⟩)
    (c_shown_turn : PySem.W.codeIn K cd_shown_turn "shown_turn" = true)
    (k_shown_turn : PySem.W.keepIn K (.ref f_shown_turn) = true)
    (a_check_state : PySem.W.nsIn K mainGlobals "check_state" = some (some (.ref f_check_state)))
    (l_check_state : K.lookup f_check_state = some ⟨oc_check_state, od_check_state, .func (PySem.W.fnOf "check_state" "check_state" (defArgs s_check_state) (defBody s_check_state) (defScope s_check_state) .none kV_check_state dc_check_state pm_check_state an_check_state cd_check_state ct_check_state), sl_check_state⟩)
    (c_check_state : PySem.W.codeIn K cd_check_state "check_state" = true)
    (k_check_state : PySem.W.keepIn K (.ref f_check_state) = true)
    (a_is_state_table : PySem.W.nsIn K mainGlobals "is_state_table" = some (some (.ref f_is_state_table)))
    (l_is_state_table : K.lookup f_is_state_table = some ⟨oc_is_state_table, od_is_state_table, .func (PySem.W.fnOf "is_state_table" "is_state_table" (defArgs s_is_state_table) (defBody s_is_state_table) (defScope s_is_state_table) .none kV_is_state_table dc_is_state_table pm_is_state_table an_is_state_table cd_is_state_table ct_is_state_table), sl_is_state_table⟩)
    (c_is_state_table : PySem.W.codeIn K cd_is_state_table "is_state_table" = true)
    (k_is_state_table : PySem.W.keepIn K (.ref f_is_state_table) = true)
    (a_is_state_row : PySem.W.nsIn K mainGlobals "is_state_row" = some (some (.ref f_is_state_row)))
    (l_is_state_row : K.lookup f_is_state_row = some ⟨oc_is_state_row, od_is_state_row, .func (PySem.W.fnOf "is_state_row" "is_state_row" (defArgs s_is_state_row) (defBody s_is_state_row) (defScope s_is_state_row) .none kV_is_state_row dc_is_state_row pm_is_state_row an_is_state_row cd_is_state_row ct_is_state_row), sl_is_state_row⟩)
    (c_is_state_row : PySem.W.codeIn K cd_is_state_row "is_state_row" = true)
    (k_is_state_row : PySem.W.keepIn K (.ref f_is_state_row) = true)
    (a_shown_table : PySem.W.nsIn K mainGlobals "shown_table" = some (some (.ref f_shown_table)))
    (l_shown_table : K.lookup f_shown_table = some ⟨oc_shown_table, od_shown_table, .func (PySem.W.fnOf "shown_table" "shown_table" (defArgs s_shown_table) (defBody s_shown_table) (defScope s_shown_table) .none kV_shown_table dc_shown_table pm_shown_table an_shown_table cd_shown_table ct_shown_table), sl_shown_table⟩)
    (c_shown_table : PySem.W.codeIn K cd_shown_table "shown_table" = true)
    (k_shown_table : PySem.W.keepIn K (.ref f_shown_table) = true)
    (a_counter : PySem.W.nsIn K mainGlobals "counter" = some (some (.ref f_counter)))
    (l_counter : K.lookup f_counter = some ⟨oc_counter, od_counter, .func (PySem.W.fnOf "counter" "counter" (defArgs s_counter) (defBody s_counter) (defScope s_counter) .none kV_counter dc_counter pm_counter an_counter cd_counter ct_counter), sl_counter⟩)
    (c_counter : PySem.W.codeIn K cd_counter "counter" = true)
    (k_counter : PySem.W.keepIn K (.ref f_counter) = true)
    (a_gray : PySem.W.nsIn K mainGlobals "gray" = some (some (.ref f_gray)))
    (l_gray : K.lookup f_gray = some ⟨oc_gray, od_gray, .func (PySem.W.fnOf "gray" "gray" (defArgs s_gray) (defBody s_gray) (defScope s_gray) .none kV_gray dc_gray pm_gray an_gray cd_gray ct_gray), sl_gray⟩)
    (c_gray : PySem.W.codeIn K cd_gray "gray" = true)
    (k_gray : PySem.W.keepIn K (.ref f_gray) = true)
    (a_towers : PySem.W.nsIn K mainGlobals "towers" = some (some (.ref f_towers)))
    (l_towers : K.lookup f_towers = some ⟨oc_towers, od_towers, .func (PySem.W.fnOf "towers" "towers" (defArgs s_towers) (defBody s_towers) (defScope s_towers) .none kV_towers dc_towers pm_towers an_towers cd_towers ct_towers), sl_towers⟩)
    (c_towers : PySem.W.codeIn K cd_towers "towers" = true)
    (k_towers : PySem.W.keepIn K (.ref f_towers) = true)
    (a_folded : PySem.W.nsIn K mainGlobals "folded" = some (some (.ref f_folded)))
    (l_folded : K.lookup f_folded = some ⟨oc_folded, od_folded, .func (PySem.W.fnOf "folded" "folded" (defArgs s_folded) (defBody s_folded) (defScope s_folded) .none kV_folded dc_folded pm_folded an_folded cd_folded ct_folded), sl_folded⟩)
    (c_folded : PySem.W.codeIn K cd_folded "folded" = true)
    (k_folded : PySem.W.keepIn K (.ref f_folded) = true)
    (a_idle_row : PySem.W.nsIn K mainGlobals "idle_row" = some (some (.ref f_idle_row)))
    (l_idle_row : K.lookup f_idle_row = some ⟨oc_idle_row, od_idle_row, .func (PySem.W.fnOf "idle_row" "idle_row" (defArgs s_idle_row) (defBody s_idle_row) (defScope s_idle_row) .none kV_idle_row dc_idle_row pm_idle_row an_idle_row cd_idle_row ct_idle_row), sl_idle_row⟩)
    (c_idle_row : PySem.W.codeIn K cd_idle_row "idle_row" = true)
    (k_idle_row : PySem.W.keepIn K (.ref f_idle_row) = true)
    (a_texts_of : PySem.W.nsIn K mainGlobals "_law_texts_of" = some (some (.ref f_texts_of)))
    (l_texts_of : K.lookup f_texts_of = some ⟨oc_texts_of, od_texts_of, .func (PySem.W.fnOf "_law_texts_of" "_law_texts_of" (defArgs s_texts_of) (defBody s_texts_of) (defScope s_texts_of) .none kV_texts_of dc_texts_of pm_texts_of an_texts_of cd_texts_of ct_texts_of), sl_texts_of⟩)
    (c_texts_of : PySem.W.codeIn K cd_texts_of "_law_texts_of" = true)
    (k_texts_of : PySem.W.keepIn K (.ref f_texts_of) = true)
    (a_urn : PySem.W.nsIn K mainGlobals "_law_urn" = some (some (.ref f_urn)))
    (l_urn : K.lookup f_urn = some ⟨oc_urn, od_urn, .func (PySem.W.fnOf "_law_urn" "_law_urn" (defArgs s_urn) (defBody s_urn) (defScope s_urn) .none kV_urn dc_urn pm_urn an_urn cd_urn ct_urn), sl_urn⟩)
    (c_urn : PySem.W.codeIn K cd_urn "_law_urn" = true)
    (k_urn : PySem.W.keepIn K (.ref f_urn) = true)
    (a_dip : PySem.W.nsIn K mainGlobals "_law_dip" = some (some (.ref f_dip)))
    (l_dip : K.lookup f_dip = some ⟨oc_dip, od_dip, .func (PySem.W.fnOf "_law_dip" "_law_dip" (defArgs s_dip) (defBody s_dip) (defScope s_dip) .none kV_dip dc_dip pm_dip an_dip cd_dip ct_dip), sl_dip⟩)
    (c_dip : PySem.W.codeIn K cd_dip "_law_dip" = true)
    (k_dip : PySem.W.keepIn K (.ref f_dip) = true)
    (a_text : PySem.W.nsIn K mainGlobals "_law_text" = some (some (.ref f_text)))
    (l_text : K.lookup f_text = some ⟨oc_text, od_text, .func (PySem.W.fnOf "_law_text" "_law_text" (defArgs s_text) (defBody s_text) (defScope s_text) .none kV_text dc_text pm_text an_text cd_text ct_text), sl_text⟩)
    (c_text : PySem.W.codeIn K cd_text "_law_text" = true)
    (k_text : PySem.W.keepIn K (.ref f_text) = true)
    (a_digits : PySem.W.nsIn K mainGlobals "_law_digits" = some (some (.ref f_digits)))
    (l_digits : K.lookup f_digits = some ⟨oc_digits, od_digits, .func (PySem.W.fnOf "_law_digits" "_law_digits" (defArgs s_digits) (defBody s_digits) (defScope s_digits) .none kV_digits dc_digits pm_digits an_digits cd_digits ct_digits), sl_digits⟩)
    (c_digits : PySem.W.codeIn K cd_digits "_law_digits" = true)
    (k_digits : PySem.W.keepIn K (.ref f_digits) = true)
    (a_counts : PySem.W.nsIn K mainGlobals "_law_counts" = some (some (.ref f_counts)))
    (l_counts : K.lookup f_counts = some ⟨oc_counts, od_counts, .func (PySem.W.fnOf "_law_counts" "_law_counts" (defArgs s_counts) (defBody s_counts) (defScope s_counts) .none kV_counts dc_counts pm_counts an_counts cd_counts ct_counts), sl_counts⟩)
    (c_counts : PySem.W.codeIn K cd_counts "_law_counts" = true)
    (k_counts : PySem.W.keepIn K (.ref f_counts) = true)
    (a_gray_right : PySem.W.nsIn K mainGlobals "_law_gray_right" = some (some (.ref f_gray_right)))
    (l_gray_right : K.lookup f_gray_right = some ⟨oc_gray_right, od_gray_right, .func (PySem.W.fnOf "_law_gray_right" "_law_gray_right" (defArgs s_gray_right) (defBody s_gray_right) (defScope s_gray_right) .none kV_gray_right dc_gray_right pm_gray_right an_gray_right cd_gray_right ct_gray_right), sl_gray_right⟩)
    (c_gray_right : PySem.W.codeIn K cd_gray_right "_law_gray_right" = true)
    (k_gray_right : PySem.W.keepIn K (.ref f_gray_right) = true)
    (a_towers_right : PySem.W.nsIn K mainGlobals "_law_towers_right" = some (some (.ref f_towers_right)))
    (l_towers_right : K.lookup f_towers_right = some ⟨oc_towers_right, od_towers_right, .func (PySem.W.fnOf "_law_towers_right" "_law_towers_right" (defArgs s_towers_right) (defBody s_towers_right) (defScope s_towers_right) .none kV_towers_right dc_towers_right pm_towers_right an_towers_right cd_towers_right ct_towers_right), sl_towers_right⟩)
    (c_towers_right : PySem.W.codeIn K cd_towers_right "_law_towers_right" = true)
    (k_towers_right : PySem.W.keepIn K (.ref f_towers_right) = true)
    (a_folded_right : PySem.W.nsIn K mainGlobals "_law_folded_right" = some (some (.ref f_folded_right)))
    (l_folded_right : K.lookup f_folded_right = some ⟨oc_folded_right, od_folded_right, .func (PySem.W.fnOf "_law_folded_right" "_law_folded_right" (defArgs s_folded_right) (defBody s_folded_right) (defScope s_folded_right) .none kV_folded_right dc_folded_right pm_folded_right an_folded_right cd_folded_right ct_folded_right), sl_folded_right⟩)
    (c_folded_right : PySem.W.codeIn K cd_folded_right "_law_folded_right" = true)
    (k_folded_right : PySem.W.keepIn K (.ref f_folded_right) = true)
    (a_law : PySem.W.nsIn K mainGlobals "law" = some (some (.ref f_law)))
    (l_law : K.lookup f_law = some ⟨oc_law, od_law, .func (PySem.W.fnOf "law" "law" (defArgs s_law) (defBody s_law) (defScope s_law) .none kV_law dc_law pm_law an_law cd_law ct_law), sl_law⟩)
    (c_law : PySem.W.codeIn K cd_law "law" = true)
    (k_law : PySem.W.keepIn K (.ref f_law) = true)
    (aC_Machine : PySem.W.nsIn K mainGlobals "Machine" = some (some (.ref C_Machine)))
    (pgC_Machine : PySem.W.plainGet K C_Machine Str.empty = true)
    (hdC_Machine : PySem.W.hasDictIn K C_Machine = true)
    (poC_Machine : PySem.W.plainOver K C_Machine = true)
    (saC_Machine : PySem.W.findIn K (.ref C_Machine) "__setattr__" = some (some (.builtin "object.__setattr__")))
    (kiC_Machine : PySem.W.kitOne K (.ref C_Machine) (.ref C_Machine) = some true)
    (knC_Machine : ((["list", "tuple", "dict", "str", "int", "bool", "NoneType"] : List String).all fun t => PySem.W.kitOne K (.type t) (.ref C_Machine) == some false) = true)
    (haC_Machine : PySem.W.findIn K (.ref C_Machine) "__class__" = some (some (.builtin "object.__class__")))
    (hnC_Machine : PySem.W.specialIn K (.builtin "object.__class__") "__get__" = some (some (.builtin "getset_descriptor.__get__")))
    (htC_Machine : PySem.W.takesIn K (.builtin "object.__class__") = some true)
    (hmC_Machine : PySem.W.mroIn K C_Machine (.type "object") = some true)
    (neC_Machine : PySem.W.findIn K (.ref C_Machine) "__ne__" = some (some (.builtin "object.__ne__")))
    (mkC_Machine : PySem.W.makesIn K C_Machine = true)
    (kcC_Machine : PySem.W.keepIn K (.ref C_Machine) = true)
    (n_Machine_letters : PySem.W.findIn K (.ref C_Machine) "_letters" = some none)
    (n_Machine_states : PySem.W.findIn K (.ref C_Machine) "_states" = some none)
    (n_Machine_table : PySem.W.findIn K (.ref C_Machine) "_table" = some none)
    (a_Machine_init : PySem.W.findIn K (.ref C_Machine) "__init__" = some (some (.ref f_Machine_init)))
    (i_Machine_init : PySem.W.isFn K (.ref f_Machine_init) = true)
    (l_Machine_init : K.lookup f_Machine_init = some ⟨oc_Machine_init, od_Machine_init, .func (PySem.W.fnOf "__init__" "Machine.__init__" (defArgs s_Machine_init) (defBody s_Machine_init) (defScope s_Machine_init) .none kV_Machine_init dc_Machine_init pm_Machine_init an_Machine_init cd_Machine_init ct_Machine_init), sl_Machine_init⟩)
    (c_Machine_init : PySem.W.codeIn K cd_Machine_init "Machine.__init__" = true)
    (k_Machine_init : PySem.W.keepIn K (.ref f_Machine_init) = true)
    (a_Machine_states : PySem.W.findIn K (.ref C_Machine) "states" = some (some (.ref pp_Machine_states)))
    (r_Machine_states : PySem.W.recIn K pp_Machine_states "property" = some (.ref f_Machine_states :: pe_Machine_states))
    (q_Machine_states : PySem.W.specialIn K (.ref pp_Machine_states) "__get__" = some (some (.builtin "property.__get__")))
    (t_Machine_states : PySem.W.takesIn K (.ref pp_Machine_states) = some true)
    (l_Machine_states : K.lookup f_Machine_states = some ⟨oc_Machine_states, od_Machine_states, .func (PySem.W.fnOf "states" "Machine.states" (defArgs s_Machine_states) (defBody s_Machine_states) (defScope s_Machine_states) .none kV_Machine_states dc_Machine_states pm_Machine_states an_Machine_states cd_Machine_states ct_Machine_states), sl_Machine_states⟩)
    (c_Machine_states : PySem.W.codeIn K cd_Machine_states "Machine.states" = true)
    (k_Machine_states : PySem.W.keepIn K (.ref f_Machine_states) = true)
    (a_Machine_turn : PySem.W.findIn K (.ref C_Machine) "turn" = some (some (.ref f_Machine_turn)))
    (i_Machine_turn : PySem.W.isFn K (.ref f_Machine_turn) = true)
    (l_Machine_turn : K.lookup f_Machine_turn = some ⟨oc_Machine_turn, od_Machine_turn, .func (PySem.W.fnOf "turn" "Machine.turn" (defArgs s_Machine_turn) (defBody s_Machine_turn) (defScope s_Machine_turn) .none kV_Machine_turn dc_Machine_turn pm_Machine_turn an_Machine_turn cd_Machine_turn ct_Machine_turn), sl_Machine_turn⟩)
    (c_Machine_turn : PySem.W.codeIn K cd_Machine_turn "Machine.turn" = true)
    (k_Machine_turn : PySem.W.keepIn K (.ref f_Machine_turn) = true)
    (a_Machine_step : PySem.W.findIn K (.ref C_Machine) "step" = some (some (.ref f_Machine_step)))
    (i_Machine_step : PySem.W.isFn K (.ref f_Machine_step) = true)
    (l_Machine_step : K.lookup f_Machine_step = some ⟨oc_Machine_step, od_Machine_step, .func (PySem.W.fnOf "step" "Machine.step" (defArgs s_Machine_step) (defBody s_Machine_step) (defScope s_Machine_step) .none kV_Machine_step dc_Machine_step pm_Machine_step an_Machine_step cd_Machine_step ct_Machine_step), sl_Machine_step⟩)
    (c_Machine_step : PySem.W.codeIn K cd_Machine_step "Machine.step" = true)
    (k_Machine_step : PySem.W.keepIn K (.ref f_Machine_step) = true)
    (a_Machine_undone : PySem.W.findIn K (.ref C_Machine) "undone" = some (some (.ref f_Machine_undone)))
    (i_Machine_undone : PySem.W.isFn K (.ref f_Machine_undone) = true)
    (l_Machine_undone : K.lookup f_Machine_undone = some ⟨oc_Machine_undone, od_Machine_undone, .func (PySem.W.fnOf "undone" "Machine.undone" (defArgs s_Machine_undone) (defBody s_Machine_undone) (defScope s_Machine_undone) .none kV_Machine_undone dc_Machine_undone pm_Machine_undone an_Machine_undone cd_Machine_undone ct_Machine_undone), sl_Machine_undone⟩)
    (c_Machine_undone : PySem.W.codeIn K cd_Machine_undone "Machine.undone" = true)
    (k_Machine_undone : PySem.W.keepIn K (.ref f_Machine_undone) = true)
    (a_Machine_invert : PySem.W.findIn K (.ref C_Machine) "__invert__" = some (some (.ref f_Machine_invert)))
    (i_Machine_invert : PySem.W.isFn K (.ref f_Machine_invert) = true)
    (l_Machine_invert : K.lookup f_Machine_invert = some ⟨oc_Machine_invert, od_Machine_invert, .func (PySem.W.fnOf "__invert__" "Machine.__invert__" (defArgs s_Machine_invert) (defBody s_Machine_invert) (defScope s_Machine_invert) .none kV_Machine_invert dc_Machine_invert pm_Machine_invert an_Machine_invert cd_Machine_invert ct_Machine_invert), sl_Machine_invert⟩)
    (c_Machine_invert : PySem.W.codeIn K cd_Machine_invert "Machine.__invert__" = true)
    (k_Machine_invert : PySem.W.keepIn K (.ref f_Machine_invert) = true)
    (a_Machine_contains : PySem.W.findIn K (.ref C_Machine) "__contains__" = some (some (.ref f_Machine_contains)))
    (i_Machine_contains : PySem.W.isFn K (.ref f_Machine_contains) = true)
    (l_Machine_contains : K.lookup f_Machine_contains = some ⟨oc_Machine_contains, od_Machine_contains, .func (PySem.W.fnOf "__contains__" "Machine.__contains__" (defArgs s_Machine_contains) (defBody s_Machine_contains) (defScope s_Machine_contains) .none kV_Machine_contains dc_Machine_contains pm_Machine_contains an_Machine_contains cd_Machine_contains ct_Machine_contains), sl_Machine_contains⟩)
    (c_Machine_contains : PySem.W.codeIn K cd_Machine_contains "Machine.__contains__" = true)
    (k_Machine_contains : PySem.W.keepIn K (.ref f_Machine_contains) = true)
    (a_Machine_len : PySem.W.findIn K (.ref C_Machine) "__len__" = some (some (.ref f_Machine_len)))
    (i_Machine_len : PySem.W.isFn K (.ref f_Machine_len) = true)
    (l_Machine_len : K.lookup f_Machine_len = some ⟨oc_Machine_len, od_Machine_len, .func (PySem.W.fnOf "__len__" "Machine.__len__" (defArgs s_Machine_len) (defBody s_Machine_len) (defScope s_Machine_len) .none kV_Machine_len dc_Machine_len pm_Machine_len an_Machine_len cd_Machine_len ct_Machine_len), sl_Machine_len⟩)
    (c_Machine_len : PySem.W.codeIn K cd_Machine_len "Machine.__len__" = true)
    (k_Machine_len : PySem.W.keepIn K (.ref f_Machine_len) = true)
    (a_Machine_str : PySem.W.findIn K (.ref C_Machine) "__str__" = some (some (.ref f_Machine_str)))
    (i_Machine_str : PySem.W.isFn K (.ref f_Machine_str) = true)
    (l_Machine_str : K.lookup f_Machine_str = some ⟨oc_Machine_str, od_Machine_str, .func (PySem.W.fnOf "__str__" "Machine.__str__" (defArgs s_Machine_str) (defBody s_Machine_str) (defScope s_Machine_str) .none kV_Machine_str dc_Machine_str pm_Machine_str an_Machine_str cd_Machine_str ct_Machine_str), sl_Machine_str⟩)
    (c_Machine_str : PySem.W.codeIn K cd_Machine_str "Machine.__str__" = true)
    (k_Machine_str : PySem.W.keepIn K (.ref f_Machine_str) = true) :
    LawIs K mg fa := by
  have e := hfa.symm.trans (PySem.W.mg_of X G a_law)
  obtain rfl : f_law = fa := by cases e; rfl
  have F_is_whole := fun_mk (st := s_is_whole) l_is_whole c_is_whole k_is_whole
  have b_is_whole := F_is_whole.binds (ps := p_is_whole) fun _ _ _ _ _ _ us hl => match us, hl with | [_], _ => rfl
  have F_is_between := fun_mk (st := s_is_between) l_is_between c_is_between k_is_between
  have b_is_between := F_is_between.binds (ps := p_is_between) fun _ _ _ _ _ _ us hl => match us, hl with | [_, _, _], _ => rfl
  have F_is_name := fun_mk (st := s_is_name) l_is_name c_is_name k_is_name
  have b_is_name := F_is_name.binds (ps := p_is_name) fun _ _ _ _ _ _ us hl => match us, hl with | [_], _ => rfl
  have F_is_text := fun_mk (st := s_is_text) l_is_text c_is_text k_is_text
  have b_is_text := F_is_text.binds (ps := p_is_text) fun _ _ _ _ _ _ us hl => match us, hl with | [_, _], _ => rfl
  have F_is_turn := fun_mk (st := s_is_turn) l_is_turn c_is_turn k_is_turn
  have b_is_turn := F_is_turn.binds (ps := p_is_turn) fun _ _ _ _ _ _ us hl => match us, hl with | [_, _], _ => rfl
  have F_check_letters := fun_mk (st := s_check_letters) l_check_letters c_check_letters k_check_letters
  have b_check_letters := F_check_letters.binds (ps := p_check_letters) fun _ _ _ _ _ _ us hl => match us, hl with | [_], _ => rfl
  have F_check_text := fun_mk (st := s_check_text) l_check_text c_check_text k_check_text
  have b_check_text := F_check_text.binds (ps := p_check_text) fun _ _ _ _ _ _ us hl => match us, hl with | [_, _], _ => rfl
  have F_undone_turn := fun_mk (st := s_undone_turn) l_undone_turn c_undone_turn k_undone_turn
  have b_undone_turn := F_undone_turn.binds (ps := p_undone_turn) fun _ _ _ _ _ _ us hl => match us, hl with | [_], _ => rfl
  have F_undone_row := fun_mk (st := s_undone_row) l_undone_row c_undone_row k_undone_row
  have b_undone_row := F_undone_row.binds (ps := p_undone_row) fun _ _ _ _ _ _ us hl => match us, hl with | [_, _], _ => rfl
  have F_led_from := fun_mk (st := s_led_from) l_led_from c_led_from k_led_from
  have b_led_from := F_led_from.binds (ps := p_led_from) fun _ _ _ _ _ _ us hl => match us, hl with | [_, _, _], _ => rfl
  have F_shown_turn := fun_mk (st := s_shown_turn) l_shown_turn c_shown_turn k_shown_turn
  have b_shown_turn := F_shown_turn.binds (ps := p_shown_turn) fun _ _ _ _ _ _ us hl => match us, hl with | [_], _ => rfl
  have F_check_state := fun_mk (st := s_check_state) l_check_state c_check_state k_check_state
  have b_check_state := F_check_state.binds (ps := p_check_state) fun _ _ _ _ _ _ us hl => match us, hl with | [_, _], _ => rfl
  have F_is_state_table := fun_mk (st := s_is_state_table) l_is_state_table c_is_state_table k_is_state_table
  have b_is_state_table := F_is_state_table.binds (ps := p_is_state_table) fun _ _ _ _ _ _ us hl => match us, hl with | [_, _], _ => rfl
  have F_is_state_row := fun_mk (st := s_is_state_row) l_is_state_row c_is_state_row k_is_state_row
  have b_is_state_row := F_is_state_row.binds (ps := p_is_state_row) fun _ _ _ _ _ _ us hl => match us, hl with | [_, _, _], _ => rfl
  have F_shown_table := fun_mk (st := s_shown_table) l_shown_table c_shown_table k_shown_table
  have b_shown_table := F_shown_table.binds (ps := p_shown_table) fun _ _ _ _ _ _ us hl => match us, hl with | [_], _ => rfl
  have F_counter := fun_mk (st := s_counter) l_counter c_counter k_counter
  have b_counter := F_counter.binds (ps := p_counter) fun _ _ _ _ _ _ us hl => match us, hl with | [_], _ => rfl
  have F_gray := fun_mk (st := s_gray) l_gray c_gray k_gray
  have b_gray := F_gray.binds (ps := p_gray) fun _ _ _ _ _ _ us hl => match us, hl with | [], _ => rfl
  have F_towers := fun_mk (st := s_towers) l_towers c_towers k_towers
  have b_towers := F_towers.binds (ps := p_towers) fun _ _ _ _ _ _ us hl => match us, hl with | [], _ => rfl
  have F_folded := fun_mk (st := s_folded) l_folded c_folded k_folded
  have b_folded := F_folded.binds (ps := p_folded) fun _ _ _ _ _ _ us hl => match us, hl with | [], _ => rfl
  have F_idle_row := fun_mk (st := s_idle_row) l_idle_row c_idle_row k_idle_row
  have b_idle_row := F_idle_row.binds (ps := p_idle_row) fun _ _ _ _ _ _ us hl => match us, hl with | [_], _ => rfl
  have F_texts_of := fun_mk (st := s_texts_of) l_texts_of c_texts_of k_texts_of
  have b_texts_of := F_texts_of.binds (ps := p_texts_of) fun _ _ _ _ _ _ us hl => match us, hl with | [_, _], _ => rfl
  have F_urn := fun_mk (st := s_urn) l_urn c_urn k_urn
  have b_urn := F_urn.binds (ps := p_urn) fun _ _ _ _ _ _ us hl => match us, hl with | [_, _], _ => rfl
  have F_dip := fun_mk (st := s_dip) l_dip c_dip k_dip
  have b_dip := F_dip.binds (ps := p_dip) fun _ _ _ _ _ _ us hl => match us, hl with | [_, _], _ => rfl
  have F_text := fun_mk (st := s_text) l_text c_text k_text
  have b_text := F_text.binds (ps := p_text) fun _ _ _ _ _ _ us hl => match us, hl with | [_, _, _], _ => rfl
  have F_digits := fun_mk (st := s_digits) l_digits c_digits k_digits
  have b_digits := F_digits.binds (ps := p_digits) fun _ _ _ _ _ _ us hl => match us, hl with | [_, _, _], _ => rfl
  have F_counts := fun_mk (st := s_counts) l_counts c_counts k_counts
  have b_counts := F_counts.binds (ps := p_counts) fun _ _ _ _ _ _ us hl => match us, hl with | [_, _], _ => rfl
  have F_gray_right := fun_mk (st := s_gray_right) l_gray_right c_gray_right k_gray_right
  have b_gray_right := F_gray_right.binds (ps := p_gray_right) fun _ _ _ _ _ _ us hl => match us, hl with | [_], _ => rfl
  have F_towers_right := fun_mk (st := s_towers_right) l_towers_right c_towers_right k_towers_right
  have b_towers_right := F_towers_right.binds (ps := p_towers_right) fun _ _ _ _ _ _ us hl => match us, hl with | [_], _ => rfl
  have F_folded_right := fun_mk (st := s_folded_right) l_folded_right c_folded_right k_folded_right
  have b_folded_right := F_folded_right.binds (ps := p_folded_right) fun _ _ _ _ _ _ us hl => match us, hl with | [_], _ => rfl
  have F_law := fun_mk (st := s_law) l_law c_law k_law
  have b_law := F_law.binds (ps := p_law) fun _ _ _ _ _ _ us hl => match us, hl with | [_], _ => rfl
  have F_Machine_init := fun_mk (st := s_Machine_init) l_Machine_init c_Machine_init k_Machine_init
  have b_Machine_init := F_Machine_init.binds (ps := p_Machine_init) fun _ _ _ _ _ _ us hl => match us, hl with | [_, _, _], _ => rfl
  have F_Machine_states := fun_mk (st := s_Machine_states) l_Machine_states c_Machine_states k_Machine_states
  have b_Machine_states := F_Machine_states.binds (ps := p_Machine_states) fun _ _ _ _ _ _ us hl => match us, hl with | [_], _ => rfl
  have F_Machine_turn := fun_mk (st := s_Machine_turn) l_Machine_turn c_Machine_turn k_Machine_turn
  have b_Machine_turn := F_Machine_turn.binds (ps := p_Machine_turn) fun _ _ _ _ _ _ us hl => match us, hl with | [_, _], _ => rfl
  have F_Machine_step := fun_mk (st := s_Machine_step) l_Machine_step c_Machine_step k_Machine_step
  have b_Machine_step := F_Machine_step.binds (ps := p_Machine_step) fun _ _ _ _ _ _ us hl => match us, hl with | [_, _, _], _ => rfl
  have F_Machine_undone := fun_mk (st := s_Machine_undone) l_Machine_undone c_Machine_undone k_Machine_undone
  have b_Machine_undone := F_Machine_undone.binds (ps := p_Machine_undone) fun _ _ _ _ _ _ us hl => match us, hl with | [_], _ => rfl
  have F_Machine_invert := fun_mk (st := s_Machine_invert) l_Machine_invert c_Machine_invert k_Machine_invert
  have b_Machine_invert := F_Machine_invert.binds (ps := p_Machine_invert) fun _ _ _ _ _ _ us hl => match us, hl with | [_], _ => rfl
  have F_Machine_contains := fun_mk (st := s_Machine_contains) l_Machine_contains c_Machine_contains k_Machine_contains
  have b_Machine_contains := F_Machine_contains.binds (ps := p_Machine_contains) fun _ _ _ _ _ _ us hl => match us, hl with | [_, _], _ => rfl
  have F_Machine_len := fun_mk (st := s_Machine_len) l_Machine_len c_Machine_len k_Machine_len
  have b_Machine_len := F_Machine_len.binds (ps := p_Machine_len) fun _ _ _ _ _ _ us hl => match us, hl with | [_], _ => rfl
  have F_Machine_str := fun_mk (st := s_Machine_str) l_Machine_str c_Machine_str k_Machine_str
  have b_Machine_str := F_Machine_str.binds (ps := p_Machine_str) fun _ _ _ _ _ _ us hl => match us, hl with | [_], _ => rfl
  exact ⟨{ C_InvalidNumber := C_InvalidNumber, i_InvalidNumber := i_InvalidNumber, x_InvalidNumber := { gC := PySem.W.mg_of X G aC_InvalidNumber, cls := ⟨nm_InvalidNumber, qn_InvalidNumber, N_InvalidNumber, bs_InvalidNumber, _, sn_InvalidNumber, sub_InvalidNumber, ab_InvalidNumber, col_InvalidNumber, dd_InvalidNumber, m0_InvalidNumber, m1_InvalidNumber, m2_InvalidNumber, m3_InvalidNumber, m5_InvalidNumber, xC_InvalidNumber, by first | decide +kernel | rfl⟩, sa := sa_InvalidNumber, ga := ga_InvalidNumber, gg := gg_InvalidNumber, noN := nv_InvalidNumber, iC := in_InvalidNumber, tC := ti_InvalidNumber, kC := kC_InvalidNumber, exC := eC_InvalidNumber, tyC := tC_InvalidNumber, hdC := hC_InvalidNumber, te := exm_own eC_InvalidNumber ic_InvalidNumber tC_InvalidNumber sC_InvalidNumber, fn := ⟨_, _, _, _, _, _, _, _, _, _, _, _, _, _, li_InvalidNumber, ci_InvalidNumber⟩ }, ValueError := PySem.W.mg_none_of X G z_ValueError, IndexError := PySem.W.mg_none_of X G z_IndexError, KeyError := PySem.W.mg_none_of X G z_KeyError, all := PySem.W.mg_none_of X G z_all, list := PySem.W.mg_none_of X G z_list, enumerate := PySem.W.mg_none_of X G z_enumerate, tuple := PySem.W.mg_none_of X G z_tuple, range := PySem.W.mg_none_of X G z_range, isinstance := PySem.W.mg_none_of X G z_isinstance, int := PySem.W.mg_none_of X G z_int, repr := PySem.W.mg_none_of X G z_repr, sorted := PySem.W.mg_none_of X G z_sorted, len := PySem.W.mg_none_of X G z_len, iter := PySem.W.mg_none_of X G z_iter, max := PySem.W.mg_none_of X G z_max, str := PySem.W.mg_none_of X G z_str, bool := PySem.W.mg_none_of X G z_bool, dict := PySem.W.mg_none_of X G z_dict, abs := PySem.W.mg_none_of X G z_abs, min := PySem.W.mg_none_of X G z_min, sum := PySem.W.mg_none_of X G z_sum, t_MAX_TEXT := t_MAX_TEXT, g_MAX_TEXT := PySem.W.mg_of X G g_MAX_TEXT, t_MAX_STATES := t_MAX_STATES, g_MAX_STATES := PySem.W.mg_of X G g_MAX_STATES, t_MAX_NAME := t_MAX_NAME, g_MAX_NAME := PySem.W.mg_of X G g_MAX_NAME, t_NAME_SIGNS := t_NAME_SIGNS, g_NAME_SIGNS := PySem.W.mg_of X G g_NAME_SIGNS, t_DIGITS := t_DIGITS, g_DIGITS := PySem.W.mg_of X G g_DIGITS, f_is_whole := f_is_whole, d_is_whole := _, F_is_whole := F_is_whole, m_is_whole := PySem.W.mg_of X G a_is_whole, b_is_whole := b_is_whole, f_is_between := f_is_between, d_is_between := _, F_is_between := F_is_between, m_is_between := PySem.W.mg_of X G a_is_between, b_is_between := b_is_between, f_is_name := f_is_name, d_is_name := _, F_is_name := F_is_name, m_is_name := PySem.W.mg_of X G a_is_name, b_is_name := b_is_name, f_is_text := f_is_text, d_is_text := _, F_is_text := F_is_text, m_is_text := PySem.W.mg_of X G a_is_text, b_is_text := b_is_text, f_is_turn := f_is_turn, d_is_turn := _, F_is_turn := F_is_turn, m_is_turn := PySem.W.mg_of X G a_is_turn, b_is_turn := b_is_turn, f_check_letters := f_check_letters, d_check_letters := _, F_check_letters := F_check_letters, m_check_letters := PySem.W.mg_of X G a_check_letters, b_check_letters := b_check_letters, f_check_text := f_check_text, d_check_text := _, F_check_text := F_check_text, m_check_text := PySem.W.mg_of X G a_check_text, b_check_text := b_check_text, f_undone_turn := f_undone_turn, d_undone_turn := _, F_undone_turn := F_undone_turn, m_undone_turn := PySem.W.mg_of X G a_undone_turn, b_undone_turn := b_undone_turn, f_undone_row := f_undone_row, d_undone_row := _, F_undone_row := F_undone_row, m_undone_row := PySem.W.mg_of X G a_undone_row, b_undone_row := b_undone_row, f_led_from := f_led_from, d_led_from := _, F_led_from := F_led_from, m_led_from := PySem.W.mg_of X G a_led_from, b_led_from := b_led_from, f_shown_turn := f_shown_turn, d_shown_turn := _, F_shown_turn := F_shown_turn, m_shown_turn := PySem.W.mg_of X G a_shown_turn, b_shown_turn := b_shown_turn, f_check_state := f_check_state, d_check_state := _, F_check_state := F_check_state, m_check_state := PySem.W.mg_of X G a_check_state, b_check_state := b_check_state, f_is_state_table := f_is_state_table, d_is_state_table := _, F_is_state_table := F_is_state_table, m_is_state_table := PySem.W.mg_of X G a_is_state_table, b_is_state_table := b_is_state_table, f_is_state_row := f_is_state_row, d_is_state_row := _, F_is_state_row := F_is_state_row, m_is_state_row := PySem.W.mg_of X G a_is_state_row, b_is_state_row := b_is_state_row, f_shown_table := f_shown_table, d_shown_table := _, F_shown_table := F_shown_table, m_shown_table := PySem.W.mg_of X G a_shown_table, b_shown_table := b_shown_table, f_counter := f_counter, d_counter := _, F_counter := F_counter, m_counter := PySem.W.mg_of X G a_counter, b_counter := b_counter, f_gray := f_gray, d_gray := _, F_gray := F_gray, m_gray := PySem.W.mg_of X G a_gray, b_gray := b_gray, f_towers := f_towers, d_towers := _, F_towers := F_towers, m_towers := PySem.W.mg_of X G a_towers, b_towers := b_towers, f_folded := f_folded, d_folded := _, F_folded := F_folded, m_folded := PySem.W.mg_of X G a_folded, b_folded := b_folded, f_idle_row := f_idle_row, d_idle_row := _, F_idle_row := F_idle_row, m_idle_row := PySem.W.mg_of X G a_idle_row, b_idle_row := b_idle_row, f_texts_of := f_texts_of, d_texts_of := _, F_texts_of := F_texts_of, m_texts_of := PySem.W.mg_of X G a_texts_of, b_texts_of := b_texts_of, f_urn := f_urn, d_urn := _, F_urn := F_urn, m_urn := PySem.W.mg_of X G a_urn, b_urn := b_urn, f_dip := f_dip, d_dip := _, F_dip := F_dip, m_dip := PySem.W.mg_of X G a_dip, b_dip := b_dip, f_text := f_text, d_text := _, F_text := F_text, m_text := PySem.W.mg_of X G a_text, b_text := b_text, f_digits := f_digits, d_digits := _, F_digits := F_digits, m_digits := PySem.W.mg_of X G a_digits, b_digits := b_digits, f_counts := f_counts, d_counts := _, F_counts := F_counts, m_counts := PySem.W.mg_of X G a_counts, b_counts := b_counts, f_gray_right := f_gray_right, d_gray_right := _, F_gray_right := F_gray_right, m_gray_right := PySem.W.mg_of X G a_gray_right, b_gray_right := b_gray_right, f_towers_right := f_towers_right, d_towers_right := _, F_towers_right := F_towers_right, m_towers_right := PySem.W.mg_of X G a_towers_right, b_towers_right := b_towers_right, f_folded_right := f_folded_right, d_folded_right := _, F_folded_right := F_folded_right, m_folded_right := PySem.W.mg_of X G a_folded_right, b_folded_right := b_folded_right, f_law := f_law, d_law := _, F_law := F_law, m_law := PySem.W.mg_of X G a_law, b_law := b_law, C_Machine := C_Machine, g_Machine := PySem.W.mg_of X G aC_Machine, cl_Machine := ⟨pgC_Machine, hdC_Machine, poC_Machine, saC_Machine⟩, ki_Machine := kiC_Machine, kn_Machine := knC_Machine, ty_Machine := fun H a dx fs e => .ins e ⟨pgC_Machine, hdC_Machine, poC_Machine, saC_Machine⟩ haC_Machine hnC_Machine htC_Machine hmC_Machine, no_Machine := ⟨neC_Machine, hmC_Machine⟩, n_Machine_letters := n_Machine_letters, n_Machine_states := n_Machine_states, n_Machine_table := n_Machine_table, f_Machine_init := f_Machine_init, d_Machine_init := _, F_Machine_init := F_Machine_init, b_Machine_init := b_Machine_init, mk_Machine := ⟨mkC_Machine, a_Machine_init, i_Machine_init, kcC_Machine⟩, f_Machine_states := f_Machine_states, d_Machine_states := _, F_Machine_states := F_Machine_states, b_Machine_states := b_Machine_states, pp_Machine_states := pp_Machine_states, pr_Machine_states := ⟨a_Machine_states, q_Machine_states, t_Machine_states, ⟨_, r_Machine_states⟩⟩, f_Machine_turn := f_Machine_turn, d_Machine_turn := _, F_Machine_turn := F_Machine_turn, b_Machine_turn := b_Machine_turn, mt_Machine_turn := ⟨a_Machine_turn, i_Machine_turn, k_Machine_turn⟩, f_Machine_step := f_Machine_step, d_Machine_step := _, F_Machine_step := F_Machine_step, b_Machine_step := b_Machine_step, mt_Machine_step := ⟨a_Machine_step, i_Machine_step, k_Machine_step⟩, f_Machine_undone := f_Machine_undone, d_Machine_undone := _, F_Machine_undone := F_Machine_undone, b_Machine_undone := b_Machine_undone, mt_Machine_undone := ⟨a_Machine_undone, i_Machine_undone, k_Machine_undone⟩, f_Machine_invert := f_Machine_invert, d_Machine_invert := _, F_Machine_invert := F_Machine_invert, b_Machine_invert := b_Machine_invert, mt_Machine_invert := ⟨a_Machine_invert, i_Machine_invert, k_Machine_invert⟩, f_Machine_contains := f_Machine_contains, d_Machine_contains := _, F_Machine_contains := F_Machine_contains, b_Machine_contains := b_Machine_contains, mt_Machine_contains := ⟨a_Machine_contains, i_Machine_contains, k_Machine_contains⟩, f_Machine_len := f_Machine_len, d_Machine_len := _, F_Machine_len := F_Machine_len, b_Machine_len := b_Machine_len, mt_Machine_len := ⟨a_Machine_len, i_Machine_len, k_Machine_len⟩, f_Machine_str := f_Machine_str, d_Machine_str := _, F_Machine_str := F_Machine_str, b_Machine_str := b_Machine_str, mt_Machine_str := ⟨a_Machine_str, i_Machine_str, k_Machine_str⟩ }, rfl⟩
end My

set_option Elab.async false
set_option maxRecDepth 100000
open PySem PySem.W PyProof.Rows in
set_option maxRecDepth 100000 in
set_option maxHeartbeats 0 in
theorem PySem.Challenge.cw_textmovers_k07_known_machines_holds : PySem.Challenge.rw_textmovers_k07_known_machines.Holds := by
  w_on; o_law; k_head; (case hw => w_witness2)
  k_fill
  refine My.the_walk (l := PySem.Challenge.rw_textmovers_k07_known_machines) rfl rfl rfl (fun w h Y => by first | exact PySem.W.kIn_of Y | exact PySem.W.km_in_of Y) ?F
  case F =>
    intro w mg fa h KX G hmg
    refine' My.all_mk KX G hmg ?aC_InvalidNumber ?xC_InvalidNumber ?sa_InvalidNumber ?ga_InvalidNumber ?gg_InvalidNumber ?nv_InvalidNumber ?in_InvalidNumber ?ti_InvalidNumber ?li_InvalidNumber ?ci_InvalidNumber ?kC_InvalidNumber ?eC_InvalidNumber ?tC_InvalidNumber ?hC_InvalidNumber ?ic_InvalidNumber ?sC_InvalidNumber ?z_ValueError ?z_IndexError ?z_KeyError ?z_all ?z_list ?z_enumerate ?z_tuple ?z_range ?z_isinstance ?z_int ?z_repr ?z_sorted ?z_len ?z_iter ?z_max ?z_str ?z_bool ?z_dict ?z_abs ?z_min ?z_sum ?g_MAX_TEXT ?g_MAX_STATES ?g_MAX_NAME ?g_NAME_SIGNS ?g_DIGITS ?a_is_whole ?l_is_whole ?c_is_whole ?k_is_whole ?a_is_between ?l_is_between ?c_is_between ?k_is_between ?a_is_name ?l_is_name ?c_is_name ?k_is_name ?a_is_text ?l_is_text ?c_is_text ?k_is_text ?a_is_turn ?l_is_turn ?c_is_turn ?k_is_turn ?a_check_letters ?l_check_letters ?c_check_letters ?k_check_letters ?a_check_text ?l_check_text ?c_check_text ?k_check_text ?a_undone_turn ?l_undone_turn ?c_undone_turn ?k_undone_turn ?a_undone_row ?l_undone_row ?c_undone_row ?k_undone_row ?a_led_from ?l_led_from ?c_led_from ?k_led_from ?a_shown_turn ?l_shown_turn ?c_shown_turn ?k_shown_turn ?a_check_state ?l_check_state ?c_check_state ?k_check_state ?a_is_state_table ?l_is_state_table ?c_is_state_table ?k_is_state_table ?a_is_state_row ?l_is_state_row ?c_is_state_row ?k_is_state_row ?a_shown_table ?l_shown_table ?c_shown_table ?k_shown_table ?a_counter ?l_counter ?c_counter ?k_counter ?a_gray ?l_gray ?c_gray ?k_gray ?a_towers ?l_towers ?c_towers ?k_towers ?a_folded ?l_folded ?c_folded ?k_folded ?a_idle_row ?l_idle_row ?c_idle_row ?k_idle_row ?a_texts_of ?l_texts_of ?c_texts_of ?k_texts_of ?a_urn ?l_urn ?c_urn ?k_urn ?a_dip ?l_dip ?c_dip ?k_dip ?a_text ?l_text ?c_text ?k_text ?a_digits ?l_digits ?c_digits ?k_digits ?a_counts ?l_counts ?c_counts ?k_counts ?a_gray_right ?l_gray_right ?c_gray_right ?k_gray_right ?a_towers_right ?l_towers_right ?c_towers_right ?k_towers_right ?a_folded_right ?l_folded_right ?c_folded_right ?k_folded_right ?a_law ?l_law ?c_law ?k_law ?aC_Machine ?pgC_Machine ?hdC_Machine ?poC_Machine ?saC_Machine ?kiC_Machine ?knC_Machine ?haC_Machine ?hnC_Machine ?htC_Machine ?hmC_Machine ?neC_Machine ?mkC_Machine ?kcC_Machine ?n_Machine_letters ?n_Machine_states ?n_Machine_table ?a_Machine_init ?i_Machine_init ?l_Machine_init ?c_Machine_init ?k_Machine_init ?a_Machine_states ?r_Machine_states ?q_Machine_states ?t_Machine_states ?l_Machine_states ?c_Machine_states ?k_Machine_states ?a_Machine_turn ?i_Machine_turn ?l_Machine_turn ?c_Machine_turn ?k_Machine_turn ?a_Machine_step ?i_Machine_step ?l_Machine_step ?c_Machine_step ?k_Machine_step ?a_Machine_undone ?i_Machine_undone ?l_Machine_undone ?c_Machine_undone ?k_Machine_undone ?a_Machine_invert ?i_Machine_invert ?l_Machine_invert ?c_Machine_invert ?k_Machine_invert ?a_Machine_contains ?i_Machine_contains ?l_Machine_contains ?c_Machine_contains ?k_Machine_contains ?a_Machine_len ?i_Machine_len ?l_Machine_len ?c_Machine_len ?k_Machine_len ?a_Machine_str ?i_Machine_str ?l_Machine_str ?c_Machine_str ?k_Machine_str
    (case aC_InvalidNumber => k_is)
    (case xC_InvalidNumber => k_is)
    (case sa_InvalidNumber => k_is)
    (case ga_InvalidNumber => k_is)
    (case gg_InvalidNumber => k_is)
    (case nv_InvalidNumber => k_is)
    (case in_InvalidNumber => k_is)
    (case ti_InvalidNumber => k_is)
    (case li_InvalidNumber => k_is)
    (case ci_InvalidNumber => k_is)
    (case kC_InvalidNumber => k_is)
    (case eC_InvalidNumber => k_is)
    (case tC_InvalidNumber => k_is)
    (case hC_InvalidNumber => k_is)
    (case ic_InvalidNumber => k_is)
    (case sC_InvalidNumber => first | rfl | k_is)
    (case z_ValueError => k_is)
    (case z_IndexError => k_is)
    (case z_KeyError => k_is)
    (case z_all => k_is)
    (case z_list => k_is)
    (case z_enumerate => k_is)
    (case z_tuple => k_is)
    (case z_range => k_is)
    (case z_isinstance => k_is)
    (case z_int => k_is)
    (case z_repr => k_is)
    (case z_sorted => k_is)
    (case z_len => k_is)
    (case z_iter => k_is)
    (case z_max => k_is)
    (case z_str => k_is)
    (case z_bool => k_is)
    (case z_dict => k_is)
    (case z_abs => k_is)
    (case z_min => k_is)
    (case z_sum => k_is)
    (case g_MAX_TEXT => k_is)
    (case g_MAX_STATES => k_is)
    (case g_MAX_NAME => k_is)
    (case g_NAME_SIGNS => k_is)
    (case g_DIGITS => k_is)
    (case a_is_whole => k_is)
    (case l_is_whole => k_is)
    (case c_is_whole => k_is)
    (case k_is_whole => k_is)
    (case a_is_between => k_is)
    (case l_is_between => k_is)
    (case c_is_between => k_is)
    (case k_is_between => k_is)
    (case a_is_name => k_is)
    (case l_is_name => k_is)
    (case c_is_name => k_is)
    (case k_is_name => k_is)
    (case a_is_text => k_is)
    (case l_is_text => k_is)
    (case c_is_text => k_is)
    (case k_is_text => k_is)
    (case a_is_turn => k_is)
    (case l_is_turn => k_is)
    (case c_is_turn => k_is)
    (case k_is_turn => k_is)
    (case a_check_letters => k_is)
    (case l_check_letters => k_is)
    (case c_check_letters => k_is)
    (case k_check_letters => k_is)
    (case a_check_text => k_is)
    (case l_check_text => k_is)
    (case c_check_text => k_is)
    (case k_check_text => k_is)
    (case a_undone_turn => k_is)
    (case l_undone_turn => k_is)
    (case c_undone_turn => k_is)
    (case k_undone_turn => k_is)
    (case a_undone_row => k_is)
    (case l_undone_row => k_is)
    (case c_undone_row => k_is)
    (case k_undone_row => k_is)
    (case a_led_from => k_is)
    (case l_led_from => k_is)
    (case c_led_from => k_is)
    (case k_led_from => k_is)
    (case a_shown_turn => k_is)
    (case l_shown_turn => k_is)
    (case c_shown_turn => k_is)
    (case k_shown_turn => k_is)
    (case a_check_state => k_is)
    (case l_check_state => k_is)
    (case c_check_state => k_is)
    (case k_check_state => k_is)
    (case a_is_state_table => k_is)
    (case l_is_state_table => k_is)
    (case c_is_state_table => k_is)
    (case k_is_state_table => k_is)
    (case a_is_state_row => k_is)
    (case l_is_state_row => k_is)
    (case c_is_state_row => k_is)
    (case k_is_state_row => k_is)
    (case a_shown_table => k_is)
    (case l_shown_table => k_is)
    (case c_shown_table => k_is)
    (case k_shown_table => k_is)
    (case a_counter => k_is)
    (case l_counter => k_is)
    (case c_counter => k_is)
    (case k_counter => k_is)
    (case a_gray => k_is)
    (case l_gray => k_is)
    (case c_gray => k_is)
    (case k_gray => k_is)
    (case a_towers => k_is)
    (case l_towers => k_is)
    (case c_towers => k_is)
    (case k_towers => k_is)
    (case a_folded => k_is)
    (case l_folded => k_is)
    (case c_folded => k_is)
    (case k_folded => k_is)
    (case a_idle_row => k_is)
    (case l_idle_row => k_is)
    (case c_idle_row => k_is)
    (case k_idle_row => k_is)
    (case a_texts_of => k_is)
    (case l_texts_of => k_is)
    (case c_texts_of => k_is)
    (case k_texts_of => k_is)
    (case a_urn => k_is)
    (case l_urn => k_is)
    (case c_urn => k_is)
    (case k_urn => k_is)
    (case a_dip => k_is)
    (case l_dip => k_is)
    (case c_dip => k_is)
    (case k_dip => k_is)
    (case a_text => k_is)
    (case l_text => k_is)
    (case c_text => k_is)
    (case k_text => k_is)
    (case a_digits => k_is)
    (case l_digits => k_is)
    (case c_digits => k_is)
    (case k_digits => k_is)
    (case a_counts => k_is)
    (case l_counts => k_is)
    (case c_counts => k_is)
    (case k_counts => k_is)
    (case a_gray_right => k_is)
    (case l_gray_right => k_is)
    (case c_gray_right => k_is)
    (case k_gray_right => k_is)
    (case a_towers_right => k_is)
    (case l_towers_right => k_is)
    (case c_towers_right => k_is)
    (case k_towers_right => k_is)
    (case a_folded_right => k_is)
    (case l_folded_right => k_is)
    (case c_folded_right => k_is)
    (case k_folded_right => k_is)
    (case a_law => k_is)
    (case l_law => k_is)
    (case c_law => k_is)
    (case k_law => k_is)
    (case aC_Machine => k_is)
    (case pgC_Machine => k_is)
    (case hdC_Machine => k_is)
    (case poC_Machine => k_is)
    (case saC_Machine => k_is)
    (case kiC_Machine => kernel_rfl)
    (case knC_Machine => kernel_rfl)
    (case haC_Machine => k_is)
    (case hnC_Machine => k_is)
    (case htC_Machine => k_is)
    (case hmC_Machine => k_is)
    (case neC_Machine => k_is)
    (case mkC_Machine => k_is)
    (case kcC_Machine => k_is)
    (case n_Machine_letters => k_is)
    (case n_Machine_states => k_is)
    (case n_Machine_table => k_is)
    (case a_Machine_init => k_is)
    (case i_Machine_init => k_is)
    (case l_Machine_init => k_is)
    (case c_Machine_init => k_is)
    (case k_Machine_init => k_is)
    (case a_Machine_states => k_is)
    (case r_Machine_states => k_is)
    (case q_Machine_states => k_is)
    (case t_Machine_states => k_is)
    (case l_Machine_states => k_is)
    (case c_Machine_states => k_is)
    (case k_Machine_states => k_is)
    (case a_Machine_turn => k_is)
    (case i_Machine_turn => k_is)
    (case l_Machine_turn => k_is)
    (case c_Machine_turn => k_is)
    (case k_Machine_turn => k_is)
    (case a_Machine_step => k_is)
    (case i_Machine_step => k_is)
    (case l_Machine_step => k_is)
    (case c_Machine_step => k_is)
    (case k_Machine_step => k_is)
    (case a_Machine_undone => k_is)
    (case i_Machine_undone => k_is)
    (case l_Machine_undone => k_is)
    (case c_Machine_undone => k_is)
    (case k_Machine_undone => k_is)
    (case a_Machine_invert => k_is)
    (case i_Machine_invert => k_is)
    (case l_Machine_invert => k_is)
    (case c_Machine_invert => k_is)
    (case k_Machine_invert => k_is)
    (case a_Machine_contains => k_is)
    (case i_Machine_contains => k_is)
    (case l_Machine_contains => k_is)
    (case c_Machine_contains => k_is)
    (case k_Machine_contains => k_is)
    (case a_Machine_len => k_is)
    (case i_Machine_len => k_is)
    (case l_Machine_len => k_is)
    (case c_Machine_len => k_is)
    (case k_Machine_len => k_is)
    (case a_Machine_str => k_is)
    (case i_Machine_str => k_is)
    (case l_Machine_str => k_is)
    (case c_Machine_str => k_is)
    (case k_Machine_str => k_is)
#print axioms PySem.Challenge.cw_textmovers_k07_known_machines_holds
