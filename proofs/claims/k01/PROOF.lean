import PyProof.Rows.All
import Wide.All
import OpenK.AllK
import Wide.FinOn
import HandS.ForMost
import HandS.Wide
import HandS.IsInst
import HandS.SortInts
import HandS.Codes
import HandS.Walk
import HandS.Conv
import HandS.TupAny
import HandS.TupMul
import HandS.Style
import HandS.Lambda
import HandS.EndTab
import HandS.WordsExc
import KE.KExcInit
import KE.KSortedM
import HandS.ExcValue
import KE.KExcIs
import KE.KCallOwn
import HandS.Exc
import HandS.Small
import HandS.More
import HandS.ListItems
import PySem.Challenge.RW_textmovers_k01_whole_errors
import HandS.CallSlots
import HandS.TryMany
import HandS.EndOwn
import KE.KNest
set_option Elab.async false
set_option linter.all false
set_option maxRecDepth 100000
set_option maxHeartbeats 2000000
namespace My
open PySem PySem.Spec PyProof.Rows L2
/-- a ** n of ints of any size, together below 2 ^ 27 bits -/
def CPowB (i j : Int) : Prop := 0 ≤ j ∧ (Builtin.Int.intBits i : Int) * j ≤ 2 ^ 27
theorem op_powB {X : Cx} : OpR X (binaryOp .Pow) (rI CPowB fun i j => .int (i ^ j.toNat)) := opI fun _ _ _ _ _ _ _ hc q => pow_int hc.1 hc.2 q
/-! ### heaps -/
theorem Same.new {H H' : Hp} {p : Addr} {o : HO} (s : Same H H') (h : H' p = none) : Same H (upd H' p o) := fun b u e => by
  have q := s b u e
  rw [upd_ne (ne_of_none q h)]
  exact q
theorem same_new {H : Hp} {p : Addr} {o : HO} (h : H p = none) : Same H (upd H p o) := Same.new (Same.refl H) h
/-- a list that is being made is written again -/
theorem Same.lst {H : Hp} {D : Addr} {o : HO} (h : H D = none) : Same H (upd H D o) := same_new h
/-! ### comprehensions whose turns change nothing else -/
theorem take_snoc {α : Type} : ∀ {l : List α} {i : Nat} {x : α}, l[i]? = some x → l.take (i + 1) = l.take i ++ [x]
  | [], i, x, h => by simp at h
  | a :: l, 0, x, h => by
    have e : a = x := by simpa using h
    simp [e]
  | a :: l, i + 1, x, h => by
    have ih := take_snoc (l := l) (i := i) (x := x) (by simpa using h)
    simp [ih]
theorem tyes_if {σ : L2.St} {H : Hp} {F G : Hp → Prop} (h : F H) : tYes σ H (fun b H3 => if b = true then F H3 else G H3) := by
  show (if true = true then F H else G H)
  rw [if_pos rfl]
  exact h
theorem perm_erase {α : Type} : ∀ {l : List α} {i : Nat} (h : i < l.length), (l[i] :: l.eraseIdx i).Perm l
  | [], i, h => absurd h (by simp)
  | a :: l, 0, h => List.Perm.refl _
  | a :: l, i + 1, h => by
    have ih := perm_erase (l := l) (i := i) (by simpa using h)
    show ((l[i]'(by simpa using h)) :: a :: l.eraseIdx i).Perm (a :: l)
    exact (List.Perm.swap a _ _).trans (ih.cons a)
theorem wipe1 (σ : L2.St) (j : Nat) (v : Option V) : wipe ((wipe σ [j]).set j v) [j] = wipe σ [j] := by
  show ((σ.set j none).set j v).set j none = σ.set j none
  rw [List.set_set, List.set_set]
section
variable {J : It} {G : Hp → Prop} {xs : List V} {tt : TT} {te : TE} {σ : L2.St} {H1 : Hp} {D : Addr} {Qd : Hp → Prop} {j : Nat}
theorem lc_fm (w : Walk J xs.length G (YAt xs)) (p : V → Bool) (f : V → V) (hn : xs.length ≤ 100000) (hG : ∀ ys, G (upd H1 D (.lst ys)))
    (ht : ∀ x ∈ xs, ∀ ys (R : Bool → Hp → Prop), R (p x) (upd H1 D (.lst ys)) → tt ((wipe σ [j]).set j (some x)) (upd H1 D (.lst ys)) R)
    (he : ∀ x ∈ xs, p x = true → ∀ ys (R : VK), R (f x) (upd H1 D (.lst ys)) → te ((wipe σ [j]).set j (some x)) (upd H1 D (.lst ys)) R)
    (hd : Qd (upd H1 D (.lst ((xs.filter p).map f)))) :
    ∃ W : Nat → Nat → Hp → Prop, (∃ m, W 0 m (upd H1 D (.lst []))) ∧ ∀ i m H, W i m H →
      (J.stop i H ∧ Qd H) ∨ (J.go i H ∧ ∃ Nx : Hp → Prop, (∀ H', Nx H' → ∃ m', m' < m ∧ W (i + 1) m' H') ∧ ∀ x H', J.yld i H x H' → gName j x (wipe σ [j]) H' fun σ2 H2 => wipe σ2 [j] = wipe σ [j] ∧ tt σ2 H2 fun b H3 =>
        if b = true then te σ2 H3 fun y H4 => ∃ acc, H4 D = some (.lst acc) ∧ acc.length < sizeLine ∧ Nx (upd H4 D (.lst (acc ++ [y]))) else Nx H3) := by
  refine lc_it w (Pv := fun i H => H = upd H1 D (.lst (((xs.take i).filter p).map f))) rfl (fun i H _ e => by rw [e]; exact hG _) ?_ (fun H e => by rw [e, List.take_length]; exact hd)
  rintro i x H H' hi rfl ⟨rfl, hx⟩
  have hm : x ∈ xs := List.mem_of_getElem? hx
  have hs := take_snoc hx
  refine ⟨wipe1 σ j _, ht x hm _ _ ?_⟩
  have hlen : (((xs.take i).filter p).map f).length < sizeLine := by
    rw [List.length_map, sizeLine_eq]
    have := List.length_filter_le p (xs.take i)
    have := List.length_take_le i xs
    omega
  cases hp : p x with
  | true =>
    refine iteT (he x hm hp _ _ ⟨_, upd_same, hlen, ?_⟩)
    show upd (upd H1 D _) D _ = upd H1 D _
    rw [upd_upd, hs, List.filter_append, List.map_append]
    simp [hp]
  | false =>
    refine iteF ?_
    show upd H1 D _ = upd H1 D _
    rw [hs, List.filter_append, List.map_append]
    simp [hp]
/-- all are taken -/
theorem lc_m (w : Walk J xs.length G (YAt xs)) (f : V → V) (hn : xs.length ≤ 100000) (hG : ∀ ys, G (upd H1 D (.lst ys)))
    (he : ∀ x ∈ xs, ∀ ys (R : VK), R (f x) (upd H1 D (.lst ys)) → te ((wipe σ [j]).set j (some x)) (upd H1 D (.lst ys)) R)
    (hd : Qd (upd H1 D (.lst (xs.map f)))) :
    ∃ W : Nat → Nat → Hp → Prop, (∃ m, W 0 m (upd H1 D (.lst []))) ∧ ∀ i m H, W i m H →
      (J.stop i H ∧ Qd H) ∨ (J.go i H ∧ ∃ Nx : Hp → Prop, (∀ H', Nx H' → ∃ m', m' < m ∧ W (i + 1) m' H') ∧ ∀ x H', J.yld i H x H' → gName j x (wipe σ [j]) H' fun σ2 H2 => wipe σ2 [j] = wipe σ [j] ∧ tYes σ2 H2 fun b H3 =>
        if b = true then te σ2 H3 fun y H4 => ∃ acc, H4 D = some (.lst acc) ∧ acc.length < sizeLine ∧ Nx (upd H4 D (.lst (acc ++ [y]))) else Nx H3) :=
  lc_fm w (fun _ => true) f hn hG (fun _ _ _ _ r => r) (fun x hx _ => he x hx) (by rw [List.filter_eq_self.mpr (fun _ _ => rfl)]; exact hd)
end
/-- the signs of a text, each a text -/
def signs (z : Str) : List V := z.cps.toList.map fun c => .str ⟨#[c]⟩
theorem signs_len (z : Str) : (signs z).length = z.length := by simp [signs, Str.length]
theorem walk_signs {z : Str} : Walk (Its z) (signs z).length (fun _ => True) (YAt (signs z)) := by
  have w : Walk (Its z) z.cps.size (fun _ => True) (fun i H v H' => H' = H ∧ ∃ c, z.cps[i]? = some c ∧ v = .str ⟨#[c]⟩) := walk_str
  have e : (signs z).length = z.cps.size := by simp [signs]
  rw [e]
  refine w.mono (fun _ h => h) fun i H x H' hi _ ⟨h1, c, h2, h3⟩ => ⟨h1, ?_⟩
  unfold signs
  rw [List.getElem?_map, Array.getElem?_toList, h2, h3]
  rfl
/-- the ints lo, lo + 1, .. -/
def rng (lo : Int) (n : Nat) : List V := (List.range n).map fun (i : Nat) => .int (lo + i)
theorem rng_len (lo : Int) (n : Nat) : (rng lo n).length = n := by simp [rng]
theorem walk_rng {lo : Int} {n : Nat} : Walk (Itr lo n) (rng lo n).length (fun _ => True) (YAt (rng lo n)) := by
  rw [rng_len]
  refine walk_range.mono (fun _ h => h) fun i H x H' hi _ ⟨h1, h2⟩ => ⟨h1, ?_⟩
  unfold rng
  rw [List.getElem?_map, List.getElem?_range hi, h2]
  rfl
/-! ### rules told of a written part by its name -/
section
variable {X : Cx} (K : PySem.W.Frag)
theorem ixL (h : X.K = K := by rfl) : IxR X (rIxL K) := h ▸ ix_list
theorem ixT (h : X.K = K := by rfl) : IxR X (rIxT K) := h ▸ ix_tup
theorem ixU (h : X.K = K := by rfl) : IxR X (rIx K) := h ▸ ix_seq
theorem slL (h : X.K = K := by rfl) : SlR X (rSlL K) := h ▸ sl_list
theorem slT (h : X.K = K := by rfl) : SlR X (rSlA K) := h ▸ sl_tupA
def rLenS (K : PySem.W.Frag) : List V → Hp → VK → Prop := fun xs H Q => ∃ p ys, xs = [.ref p] ∧ (SqL K H p ys ∨ SqT K H p ys) ∧ Q (.int ys.length) H
theorem lenS (h : X.K = K := by rfl) : CallR X (.builtin "len") (rLenS K) := h ▸ call_len_seq
def rLenU (K : PySem.W.Frag) : List V → Hp → VK → Prop := fun xs H Q => ∃ x n, xs = [x] ∧ LenV K x H n ∧ Q (.int n) H
theorem lenU (h : X.K = K := by rfl) : CallR X (.builtin "len") (rLenU K) := h ▸ call_len
theorem sumK (hc : X.calm = true) (h : X.K = K := by rfl) : CallR X (.builtin "sum") (rSum K) := h ▸ cr_sum hc
theorem allK (hc : X.calm = true) (h : X.K = K := by rfl) : CallR X (.builtin "all") (rAll K) := h ▸ cr_all hc
def rListOf (K : PySem.W.Frag) : List V → Hp → VK → Prop := fun xs H Q => ∃ p ys, xs = [.ref p] ∧ (SqL K H p ys ∨ SqT K H p ys) ∧ ∀ l, H l = none → Q (.ref l) (upd H l (.lst ys))
theorem listK (h : X.K = K := by rfl) : CallR X (.type "list") (rListOf K) := h ▸ call_list_of
def rTupOf (K : PySem.W.Frag) : List V → Hp → VK → Prop := fun xs H Q => ∃ p ys, xs = [.ref p] ∧ ((SqL K H p ys ∧ ∀ l, H l = none → Q (.ref l) (upd H l (.tup ys))) ∨ (SqT K H p ys ∧ Q (.ref p) H))
theorem tupK (h : X.K = K := by rfl) : CallR X (.type "tuple") (rTupOf K) := h ▸ call_tuple_of
theorem isiK (h : X.K = K := by rfl) : CallR X (.builtin "isinstance") (rIsi K) := h ▸ call_isi
theorem inK (h : X.K = K := by rfl) : OpR X (compareOp .In) (rIn K false) := h ▸ op_in_seq
theorem notInK (h : X.K = K := by rfl) : OpR X (compareOp .NotIn) (rIn K true) := h ▸ op_notIn_seq
theorem eqK (hu : X.A.units + 64 < cLine) (h : X.K = K := by rfl) : OpR X (compareOp .Eq) (rEqD K) := h ▸ op_eqD hu
theorem neK (hu : X.A.units + 64 < cLine) (h : X.K = K := by rfl) : OpR X (compareOp .NotEq) (rNeD K) := h ▸ op_neD hu
theorem catT (h : X.K = K := by rfl) : OpR X (binaryOp .Add) (rCatA K) := h ▸ op_catA
theorem repT (h : X.K = K := by rfl) : OpR X (binaryOp .Mult) (rRepT K) := h ▸ op_repT
theorem piL {l tg : Expr} {tl : TE} (hl : PE X l tl) (h : X.K = K := by rfl) : PI X tg l (iList K tl) := h ▸ pi_list hl
theorem piT {l tg : Expr} {tl : TE} (hl : PE X l tl) (h : X.K = K := by rfl) : PI X tg l (iTup K tl) := h ▸ pi_tup hl
theorem bmK {T : String} {r : V → List V → Hp → VK → Prop} {id : String} {name : Str} {o e : Expr} {es : List Expr} {to : TE} {t : TA} {apos cpos : Pos} (pa : PlainAttrs T) (slot : Slot T name id) (hty : typeOf (.builtin id) = pure (.type "method_descriptor")) (hm : MtR X id r) (ho : PE X o to) (ha : PA X (e :: es) t)
    (h : X.K = K := by rfl) (hbase : attributeBase o name X.env (eval o X.env) = eval o X.env := by rfl)
    (hfew : ((backTo cpos (starEach (e :: es) X.env)).all (fun x => !x.1) && (backToKw cpos (keywordEach [] X.env)).all (fun x => x.1.isSome)
      && decide ((e :: es).length + ([] : List Keyword).length + (if ([] : List Keyword).isEmpty then 0 else 1) < 30)) = true := by rfl)
    (hline : (apos.endLine == cpos.line) = true := by rfl) (hs : starEach (e :: es) X.env = (false, eval e X.env) :: starEach es X.env := by rfl) (hplain : (backTo cpos (starEach es X.env)).any (·.1) = false := by rfl) :
    PE X (.Call (.Attribute o name apos) (e :: es) [] cpos) (tBM K T r to t) := h ▸ pe_bm pa slot hty hm ho ha hbase hfew hline hs hplain
end
/-! ### an expression, then a word on its value -/
def tCutE (t : TE) : TE := fun σ H Q => ∃ R : VK, t σ H R ∧ ∀ v H', R v H' → Q v H'
theorem pe_cut {X : Cx} {e : Expr} {t : TE} (he : PE X e t) : PE X e (tCutE t) := by
  refine ⟨fun pins s σ H Q I h => ?_⟩
  obtain ⟨R, h1, h2⟩ := h
  exact thn (he.run pins s σ H R I h1) fun u s1 ⟨v, H1, I1, r1, q1⟩ => ⟨v, H1, I1, r1, h2 v H1 q1⟩
/-! ### flat values as data -/
def dat : V → PyData
  | .bl b => .bool b
  | .int i => .int i
  | .str x => .str x
  | _ => .none
theorem Dp_flat {K : PySem.W.Frag} {H : Hp} {v : V} (h : flatV v = true) : Dp K H v (dat v) := by
  cases v with
  | non => exact .non
  | bl b => exact .bl b
  | int i => exact .int i
  | str x => exact .str x
  | byt b => cases h
  | flt b => cases h
  | ref a => cases h
  | ty n => cases h
theorem Dp_flats {K : PySem.W.Frag} {H : Hp} : ∀ {xs : List V}, xs.all flatV = true → DpAll K H xs (xs.map dat)
  | [], _ => .nil
  | x :: xs, h => by
    rw [List.all_cons, Bool.and_eq_true] at h
    exact .cons (Dp_flat h.1) (Dp_flats h.2)
/-- ascii -/
def asc : V → Bool
  | .str z => z.cps.toList.all fun c => decide (c < 128)
  | _ => true
theorem lay_flat {v : V} (h : asc v = true) : (dat v).canLay0 = true := by
  cases v with
  | str z =>
    have h : (z.cps.toList.all fun c => decide (c < 128)) = true := h
    show PyData.canLay0 (.str z) = true
    unfold PyData.canLay0 PyData.strOk
    rw [Array.all_eq_true']
    intro c hc
    have := of_decide_eq_true (List.all_eq_true.mp h c (by simpa using hc))
    simp
    omega
  | _ => rfl
theorem lay_flats : ∀ {xs : List V}, xs.all asc = true → PyData.canLayAll0 (xs.map dat) = true
  | [], _ => by unfold PyData.canLayAll0; rfl
  | x :: xs, h => by
    rw [List.all_cons, Bool.and_eq_true] at h
    show PyData.canLayAll0 (dat x :: xs.map dat) = true
    unfold PyData.canLayAll0
    rw [lay_flat h.1, lay_flats h.2] <;> rfl
theorem depth_flats : ∀ {xs : List V}, PyData.depthAll (xs.map dat) = 0
  | [] => by unfold PyData.depthAll; rfl
  | x :: xs => by
    show PyData.depthAll (dat x :: xs.map dat) = 0
    unfold PyData.depthAll
    rw [depth_flats]
    cases x <;> rfl
theorem shaped_lst {xs : List V} (h : xs.all asc = true) : SeqAt.shaped (.list (xs.map dat)) = true := by
  unfold SeqAt.shaped
  have e1 : PyData.canLay0 (.list (xs.map dat)) = true := by
    unfold PyData.canLay0
    exact lay_flats h
  have e2 : PyData.depth (.list (xs.map dat)) ≤ 64 := by
    unfold PyData.depth
    rw [depth_flats]
    decide
  rw [e1, decide_eq_true e2] <;> rfl
theorem shaped_tup {xs : List V} (h : xs.all asc = true) : SeqAt.shaped (.tuple (xs.map dat)) = true := by
  unfold SeqAt.shaped
  have e1 : PyData.canLay0 (.tuple (xs.map dat)) = true := by
    unfold PyData.canLay0
    exact lay_flats h
  have e2 : PyData.depth (.tuple (xs.map dat)) ≤ 64 := by
    unfold PyData.depth
    rw [depth_flats]
    decide
  rw [e1, decide_eq_true e2] <;> rfl
theorem eqv_dat {x y : V} (hx : flatV x = true) (hy : flatV y = true) : PyData.eqv (dat x) (dat y) = eqV x y := by
  cases x <;> cases y <;> first | rfl | (cases hx; done) | (cases hy; done) | (unfold PyData.eqv; rfl)
/-- two lists of flat values are equal -/
def eqVs : List V → List V → Bool
  | [], [] => true
  | x :: xs, y :: ys => eqV x y && eqVs xs ys
  | _, _ => false
theorem eqv_dats : ∀ {xs ys : List V}, xs.all flatV = true → ys.all flatV = true → PyData.eqvAll (xs.map dat) (ys.map dat) = eqVs xs ys
  | [], [], _, _ => by unfold PyData.eqvAll eqVs; rfl
  | [], y :: ys, _, _ => by show PyData.eqvAll [] (dat y :: ys.map dat) = _; unfold PyData.eqvAll eqVs; rfl
  | x :: xs, [], _, _ => by show PyData.eqvAll (dat x :: xs.map dat) [] = _; unfold PyData.eqvAll eqVs; rfl
  | x :: xs, y :: ys, hx, hy => by
    rw [List.all_cons, Bool.and_eq_true] at hx hy
    show PyData.eqvAll (dat x :: xs.map dat) (dat y :: ys.map dat) = _
    unfold PyData.eqvAll eqVs
    rw [eqv_dat hx.1 hy.1, eqv_dats hx.2 hy.2]
theorem eqv_lst {xs ys : List V} (hx : xs.all flatV = true) (hy : ys.all flatV = true) : PyData.eqv (.list (xs.map dat)) (.list (ys.map dat)) = eqVs xs ys := by
  unfold PyData.eqv
  exact eqv_dats hx hy
theorem eqVs_nil {xs : List V} : eqVs xs [] = xs.isEmpty := by
  cases xs <;> rfl
theorem eqVs_ints : ∀ {a b : List Int}, eqVs (a.map V.int) (b.map V.int) = decide (a = b)
  | [], [] => rfl
  | [], y :: ys => rfl
  | x :: xs, [] => rfl
  | x :: xs, y :: ys => by
    show ((x == y) && eqVs (xs.map V.int) (ys.map V.int)) = _
    rw [eqVs_ints]
    by_cases h : x = y
    · by_cases h2 : xs = ys
      · rw [h, h2]; simp
      · simp [h2]
    · simp [h]
/-- == of a list and a written or made list of flat values -/
theorem rEq_lst {K : PySem.W.Frag} {H : Hp} {a b : Addr} {xs ys : List V} {Q : VK} (ha : SqL K H a xs) (hb : SqL K H b ys) (fx : xs.all flatV = true) (fy : ys.all flatV = true) (ax : xs.all asc = true) (ay : ys.all asc = true)
    (q : Q (.bl (eqVs xs ys)) H) : rEqD K (.ref a) (.ref b) H Q :=
  ⟨_, _, .lst ha (Dp_flats fx), .lst hb (Dp_flats fy), shaped_lst ax, shaped_lst ay, by rw [eqv_lst fx fy]; exact q⟩
theorem rNe_lst {K : PySem.W.Frag} {H : Hp} {a b : Addr} {xs ys : List V} {Q : VK} (ha : SqL K H a xs) (hb : SqL K H b ys) (fx : xs.all flatV = true) (fy : ys.all flatV = true) (ax : xs.all asc = true) (ay : ys.all asc = true)
    (q : Q (.bl (!eqVs xs ys)) H) : rNeD K (.ref a) (.ref b) H Q :=
  ⟨_, _, .lst ha (Dp_flats fx), .lst hb (Dp_flats fy), shaped_lst ax, shaped_lst ay, by rw [eqv_lst fx fy]; exact q⟩
/-! ### the urn of draws -/
def UrnL (xs : List V) : Prop := ∃ g m c : Int, xs = [.int g, .int m, .int c] ∧ 0 ≤ g ∧ 0 ≤ m ∧ m < 2 ^ 61 ∧ 0 ≤ c
def UrnOk (H : Hp) (u : Addr) : Prop := ∃ xs, H u = some (.lst xs) ∧ UrnL xs
/-- u is drawn from, all else is as it was -/
def Drew (u : Addr) (H H' : Hp) : Prop := UrnOk H' u ∧ ∀ b o, b ≠ u → H b = some o → H' b = some o
theorem Drew.of {u : Addr} {H H' : Hp} (h : UrnOk H u) (s : Same H H') : Drew u H H' := by
  obtain ⟨xs, h1, h2⟩ := h
  exact ⟨⟨xs, s _ _ h1, h2⟩, fun b o _ e => s b o e⟩
theorem Drew.trans {u : Addr} {H H1 H2 : Hp} (a : Drew u H H1) (b : Drew u H1 H2) : Drew u H H2 := ⟨b.1, fun c o n e => b.2 c o n (a.2 c o n e)⟩
theorem Drew.same {u : Addr} {H H1 H2 : Hp} (a : Drew u H H1) (b : Same H1 H2) : Drew u H H2 := a.trans (Drew.of a.1 b)
theorem Drew.new {u p : Addr} {H H1 : Hp} {o : HO} (a : Drew u H H1) (h : H1 p = none) : Drew u H (upd H1 p o) := a.same (same_new h)
theorem Drew.free {u p : Addr} {H H' : Hp} (a : Drew u H H') (h : H' p = none) : H p = none := by
  cases q : H p with
  | none => rfl
  | some o =>
    obtain ⟨xs, h1, _⟩ := a.1
    have n : p ≠ u := fun z => by
      rw [z, h1] at h
      cases h
    rw [a.2 p o n q] at h
    cases h
theorem Drew.seq {K : PySem.W.Frag} {u a : Addr} {H H' : Hp} {xs : List V} (d : Drew u H H') (n : a ≠ u) (h : SqL K H a xs) : SqL K H' a xs := by
  rcases h with (h | ⟨o, h⟩) | h
  · exact .inl (.inl (d.2 _ _ n h))
  · exact .inl (.inr ⟨o, d.2 _ _ n h⟩)
  · exact .inr h
theorem Drew.seqT {K : PySem.W.Frag} {u a : Addr} {H H' : Hp} {xs : List V} (d : Drew u H H') (n : a ≠ u) (h : SqT K H a xs) : SqT K H' a xs := by
  rcases h with (h | ⟨o, h⟩) | h
  · exact .inl (.inl (d.2 _ _ n h))
  · exact .inl (.inr ⟨o, d.2 _ _ n h⟩)
  · exact .inr h
theorem UrnOk.ne {H : Hp} {u p : Addr} (h : UrnOk H u) (n : H p = none) : p ≠ u := fun z => by
  obtain ⟨xs, h1, _⟩ := h
  rw [z, h1] at n
  cases n
theorem get_map {ns : List Int} {i : Nat} (h : i < ns.length) : (ns.map V.int)[i]? = some (.int ns[i]) := by
  simp [h]
theorem cut_first (xs : List Int) : cutV (xs.map V.int) none (some 1) = (xs.take 1).map V.int := by
  cases xs with
  | nil => rfl
  | cons a l =>
    simp [cutV, HT.sIx]
    try omega
theorem pow_pos_ : (0 : Int) < (10 ^ (53 : Int).toNat) ^ (11 : Int).toNat := by decide +kernel
def spUrn (K : PySem.W.Frag) : Sp := fun vs H Q _ => ∃ (a : Addr) (ns : List Int) (k : Int), vs = [.ref a, .int k] ∧ SqL K H a (ns.map V.int) ∧ 0 ≤ k ∧
  ∀ H' p, Same H H' → H p = none → UrnOk H' p → Q (.ref p) H'
def spDip : Sp := fun vs H Q _ => ∃ (u : Addr) (t : Int), vs = [.ref u, .int t] ∧ UrnOk H u ∧ 0 < t ∧ t.natAbs < 2 ^ 8000 ∧
  ∀ H' r, Drew u H H' → 0 ≤ r → r < t → Q (.int r) H'
/-- an item of a list or a sign of a text is drawn -/
def spOneOf (K : PySem.W.Frag) : Sp := fun vs H Q _ => ∃ (u : Addr), UrnOk H u ∧
  ((∃ (a : Addr) (xs : List V), vs = [.ref u, .ref a] ∧ a ≠ u ∧ SqL K H a xs ∧ 0 < xs.length ∧ xs.length ≤ 1000000 ∧ ∀ H' x, Drew u H H' → x ∈ xs → Q x H') ∨
   (∃ z : Str, vs = [.ref u, .str z] ∧ 0 < z.length ∧ z.length ≤ 1000000 ∧ ∀ H' c, Drew u H H' → c ∈ z.cps.toList → Q (.str ⟨#[c]⟩) H'))
/-- a list's items in another order -/
def spShuffled (K : PySem.W.Frag) : Sp := fun vs H Q _ => ∃ (u a : Addr) (xs : List V), vs = [.ref u, .ref a] ∧ UrnOk H u ∧ a ≠ u ∧ SqL K H a xs ∧ xs.length ≤ 1000 ∧
  ∀ H' p ys, Drew u H H' → H p = none → H' p = some (.lst ys) → ys.Perm xs → Q (.ref p) H'
theorem small_abs {t : Int} {n : Nat} (h0 : 0 ≤ t) (h : t ≤ n) (hn : n < 2 ^ 8000) : t.natAbs < 2 ^ 8000 := by omega
theorem atI_of {xs : List V} {r : Int} (h0 : 0 ≤ r) (h1 : r < xs.length) : atI xs r = some (xs[r.toNat]'(by omega)) :=
  at_of (j := r.toNat) (by omega) (List.getElem?_eq_getElem (by omega))
theorem atC_of {xs : List Nat} {r : Int} (h0 : 0 ≤ r) (h1 : r < xs.length) : atI xs r = some (xs[r.toNat]'(by omega)) := by
  have e : ixN xs.length r = some r.toNat := by
    unfold ixN
    rw [if_pos h0, if_pos h1]
  unfold atI
  rw [e]
  exact List.getElem?_eq_getElem (by omega)
end My

set_option Elab.async false
set_option linter.all false
set_option maxRecDepth 100000
set_option maxHeartbeats 4000000
/-! ### the first field of a new exception of an own class over any built-in error -/
namespace PySem
namespace ExAny
open PySem.W PySem.Calls PyProof.Rows PySem.HandSPX
section
open Builtin Builtin.ObjectAttr
variable {prog : Program} {w : World} {A : Around} {E : Value → Shared → Prop} {R : Result → Shared → Prop} {hp : Heap} {g : Array GenState} {d : Drawn} {t : Nat} {os : OsState}
theorem first_field {B : String} {bmB : List Value} {K : Frag} {f : Str} {tk : Tok} {v : Value} {x C : Addr} {fv : Array Value} {cd : ClassData} (SF : StoreFacts B bmB "object.__setattr__" "object")
    (X : K.In hp) (ex : hp.get? x = some { cls := .ref C, data := .fields fv }) (ec : clsIn K C = some cd) (eh : cd.hasDict = true) (eo : excOver K C bmB = true) (no : findIn K (.ref C) f = some none)
    (q : ∀ h' tk' dx, (∀ b o, b ≠ x → hp.get? b = some o → h'.get? b = some o) → hp.objs.size ≤ dx → dx ≠ x → h'.get? x = some { cls := .ref C, dict := some dx, data := .fields fv } →
      h'.Ns1 dx (fun y => if y = f then some v else none) → R (.ok (.ret .none)) ⟨h', g, d, tk', os⟩) :
    codeAny (model prog w) A (.call (.builtin "object.__setattr__") ⟨[.ref x, .str f tk, v], []⟩) R ⟨hp, g, d, t, os⟩ := by
  have tk0 : takerIn K C f = some none := by
    unfold takerIn
    rw [no] <;> rfl
  have xs : x ≠ hp.objs.size := Nat.ne_of_lt (Heap.lt_size ex)
  refine osa_openX (s := ⟨hp, g, d, t, os⟩) SF X (⟨ex, rfl, rfl, trivial⟩ : InstAt hp x { cls := .ref C, data := .fields fv } C none) eo tk0 (fun b => ?_)
  have lc : Looks (model prog w) hp (classData C) cd := looks_clsIn X ec
  obtain ⟨nm, bs, mro, ns, qn, hd, sn, sb, ab, col, dl⟩ := cd
  dsimp only at eh
  subst eh
  show wpAny _ _ (storeInOwnDict (.ref x) (.ref C) (.str f tk) f v b) _ _ _
  unfold storeInOwnDict ownDictForStores
  repeat (first | with_reducible refine store_in_new ?_ ?_ | with_reducible refine wpAny_loadPart_at ex ?_ | with_reducible refine lc.at ?_ | wp_step)
  · exact ⟨_, #[], _, Eq.trans (Heap.get?_update_ne _ _ _ _ xs.symm) (Heap.get?_push_at rfl rfl), rfl, fun e he => absurd he (by simp), fun _ => rfl⟩
  · intro h' tk' n1 sb
    have e1 : (hp.push { cls := .type "dict", data := .dict #[] }).get? x = some { cls := .ref C, data := .fields fv } := Heap.get?_push_of_some _ ex
    refine q h' tk' hp.objs.size (fun b o nb ho => ?_) (Nat.le_refl _) xs.symm (Eq.trans (sb.2 x xs) (Heap.get?_update_self _ e1 rfl)) n1
    exact Eq.trans (sb.2 b (Nat.ne_of_lt (Heap.lt_size ho))) (Eq.trans (Heap.get?_update_ne _ _ _ _ nb) (Heap.get?_push_of_some _ ho))
end
end ExAny
end PySem

set_option Elab.async false
set_option linter.all false
set_option maxRecDepth 100000
set_option maxHeartbeats 4000000
/-! ### sorted(t), t a tuple of ints -/
namespace PyProof.Rows
open PySem PySem.Spec PySem.Calls
namespace TupSort
section
variable {prog : Program} {w : World} {A : Around} {E : Value → Shared → Prop} {s : Shared}
theorem collected {a : Addr} {o : Obj} {vs : List Value} {n : Nat} {Q : List Value → Shared → Prop} (e1 : s.heap.get? a = some o) (e2 : o.cls = .type "tuple") (e3 : o.data = .seq vs.toArray n) (e4 : vs.length ≤ sizeLine)
    (q : Q vs { s with heap := (s.heap.push (seqObj "list" #[] 0)).update s.heap.objs.size (Obj.mapSeq (· ++ vs.toArray)) }) : wpAny (model prog w) A (collect (.ref a)) Q E s := by
  unfold collect
  refine (wpAny_bind (wpAny_runValue (codeAny_builtin entry_proto_collect' ?_)))
  show wpAny _ _ (do again (.builtin "list.__iadd__" ⟨[← newList [], Value.ref a], []⟩)) _ _ s
  refine (wpAny_bind (wpAny_newList (wpAny_pure ⟨Code.quiet_builtin _ (by decide +kernel), codeAny_builtin entry_list_iadd' ?_⟩)))
  show wpAny _ _ (Builtin.List.listExtendWith (Value.ref s.heap.objs.size) (Value.ref a) (Value.ref s.heap.objs.size)) _ _ { s with heap := s.heap.push (seqObj "list" #[] 0) }
  unfold Builtin.List.listExtendWith
  have e5 : (s.heap.push (seqObj "list" #[] 0)).get? a = some o := Heap.get?_push_of_some _ e1
  refine wpAny_bind (wpAny_typeOf (T := "tuple") ⟨o, e5, e2⟩ ?_)
  rw [if_pos (by first | rfl | decide | simp)]
  refine wpAny_bind (listItems_at e5 e3 ?_)
  refine wpAny_bind (listItems_at (xs := #[]) (n := 0) (Heap.get?_push_size _ (by rfl)) (by rfl) ?_)
  rw [if_neg (fun z => by simp at z)]
  refine wpAny_bind (listUpdate_at (n := 0) (xs := #[]) (Heap.get?_push_size _ (by rfl)) (by rfl) ?_ (Nat.zero_le _) (by show (#[] ++ vs.toArray).size ≤ sizeLine + 1; simp only [Array.size_append, List.size_toArray, List.length_nil]; omega))
  refine (wpAny_pure ?_)
  show wpAny (model prog w) A (do
      let o ← load s.heap.objs.size
      match o.data with
      | Data.seq xs _ => pure xs.toList
      | _ => unsupported "internal:collect") Q E _
  refine wpAny_bind (wpAny_load (get?_update_seq (Heap.get?_push_size _ (by rfl)) _) ?_)
  show wpAny _ _ (pure ((#[] : Array Value) ++ vs.toArray).toList) Q E _
  have e6 : ((#[] : Array Value) ++ vs.toArray).toList = vs := by simp
  rw [e6]
  exact (wpAny_pure q)
theorem sortedT {a : Addr} {o : Obj} {vs : List Value} {ns : List Int} {n : Nat} {Q : Value → Shared → Prop} (e1 : s.heap.get? a = some o) (e2 : o.cls = .type "tuple") (e3 : o.data = .seq vs.toArray n) (hI : IntsAre vs ns) (h64 : vs.length < 64)
    (q : ∀ (out : Array Value) (ns' : List Int), IntsAre out.toList ns' → ns'.Perm ns → ns'.Pairwise (· ≤ ·) → Q (.ref (s.heap.objs.size + 1)) { s with heap := sortedAll s.heap vs out }) :
    wpAny (model prog w) A (call (.builtin "sorted") [.ref a]) Q E s := by
  refine (Calls.call_function_entry kind_sorted plain_sorted entry_sorted (args_sorted1 _) ?_)
  unfold Builtin.«sorted»
  refine (wpAny_bind (m := checkCount "sorted" 1 1 _) (wpAny_pure ?_))
  refine wpAny_bind (collected e1 e2 e3 (by rw [sizeLine_eq]; omega) ?_)
  refine (wpAny_bind (wpAny_newList ?_))
  have z1 : ((s.heap.push (seqObj "list" #[] 0)).update s.heap.objs.size (Obj.mapSeq (· ++ vs.toArray))).objs.size = s.heap.objs.size + 1 := by rw [Heap.size_update, size_push']
  have z2 : (((s.heap.push (seqObj "list" #[] 0)).update s.heap.objs.size (Obj.mapSeq (· ++ vs.toArray))).push (seqObj "list" vs.toArray 0)).get? (s.heap.objs.size + 1) = some (seqObj "list" vs.toArray 0) := by rw [← z1]; exact Heap.get?_push_size _ rfl
  show wpAny _ _ _ _ _ (Shared.mk (((s.heap.push (seqObj "list" #[] 0)).update s.heap.objs.size (Obj.mapSeq (· ++ vs.toArray))).push (seqObj "list" vs.toArray 0)) _ _ _ _)
  rw [z1]
  refine wpAny_bind (wpAny_holding (wpAny_call_entry slot_list_sort ⟨_, z2, rfl⟩ entry_list_sort (list_sort_tree z2 hI h64 fun out ns' b1 b2 b3 => ⟨_, rfl, ?_⟩) (args_list_sort _)))
  exact (wpAny_pure ⟨_, rfl, q out ns' b1 b2 b3⟩)
end
end TupSort
end PyProof.Rows
namespace My
open PySem PySem.Spec PyProof.Rows L2
def rSortT (K : PySem.W.Frag) : List V → Hp → VK → Prop := fun vs H Q => ∃ (a : Addr) (ns : List Int), vs = [V.ref a] ∧ SqT K H a (ns.map V.int) ∧ ns.length < 64 ∧
  ∀ (ns' : List Int) (p : Addr), ns'.Perm ns → ns'.Pairwise (· ≤ ·) → H p = none → Q (.ref p) (upd H p (.lst (ns'.map V.int)))
theorem sortT {X : Cx} (K : PySem.W.Frag) (hK : X.K = K := by rfl) : CallR X (.builtin "sorted") (rSortT K) := by
  subst hK
  intro pins s σ H vs us Q I r h
  obtain ⟨a, ns, rfl, hs, h64, q⟩ := h
  obtain ⟨its, rv, hl, _⟩ := I.tuple hs
  rw [Vals.ref1 r]
  obtain ⟨o, ho, hc, n, hd⟩ := hl
  have hi := rv.ints
  refine TupSort.sortedT ho hc hd hi (by rw [hi.length]; exact h64) fun out ns' h1 h2 h3 => ?_
  obtain ⟨ep, he'⟩ := PyProof.Rows.sortedAll_at s.heap its out
  refine ⟨.ref _, upd H (s.heap.objs.size + 1) (.lst (ns'.map V.int)), I.laid (t' := s.toks) (fun _ _ => PyProof.Rows.sortedAll_old) (Nat.le_succ _) ⟨?_, out.toList, ep, vals_of_ints h1, he'⟩, rfl, q ns' _ h2 h3 (I.hok.fresh (Nat.le_succ _))⟩
  rw [List.length_map, h2.length_eq, sizeLine_eq]
  omega
/-! ### an arrangement of 0, 1, .. -/
theorem perm_of_sub : ∀ {l ns : List Int}, l.Nodup → (∀ x ∈ l, x ∈ ns) → l.length = ns.length → l.Perm ns
  | [], ns, _, _, hl => by
    have e : ns = [] := List.eq_nil_of_length_eq_zero (by simpa using hl.symm)
    rw [e]
  | a :: l, ns, hn, hs, hl => by
    obtain ⟨h1, h2⟩ := List.nodup_cons.mp hn
    have ha : a ∈ ns := hs a List.mem_cons_self
    have p := List.perm_cons_erase ha
    have ih := perm_of_sub (l := l) (ns := ns.erase a) h2 (fun x hx => by
      have ne : x ≠ a := fun z => h1 (z ▸ hx)
      exact (List.mem_erase_of_ne ne).mpr (hs x (List.mem_cons_of_mem _ hx))) (by rw [List.length_erase_of_mem ha, ← hl]; simp)
    exact (ih.cons a).trans p.symm
def upto (n : Nat) : List Int := (List.range n).map fun (i : Nat) => (i : Int)
theorem upto_len (n : Nat) : (upto n).length = n := by simp [upto]
theorem mem_upto {n : Nat} {z : Int} : z ∈ upto n ↔ 0 ≤ z ∧ z < n := by
  unfold upto
  rw [List.mem_map]
  constructor
  · rintro ⟨i, hi, rfl⟩
    have := List.mem_range.mp hi
    omega
  · intro ⟨h0, h1⟩
    exact ⟨z.toNat, List.mem_range.mpr (by omega), by omega⟩
theorem upto_nodup (n : Nat) : (upto n).Nodup := by
  unfold upto
  rw [List.nodup_iff_pairwise_ne]
  exact List.Pairwise.map _ (fun a b h => by omega) (List.nodup_range (n := n))
theorem upto_up (n : Nat) : (upto n).Pairwise (· ≤ ·) := by
  unfold upto
  exact List.Pairwise.map _ (fun a b h => by omega) (List.pairwise_lt_range (n := n))
/-- sorted as 0, 1, .. just if as many and each is there -/
theorem sorted_upto {ns ns' : List Int} {n : Nat} (hp : ns'.Perm ns) (hu : ns'.Pairwise (· ≤ ·)) : decide (ns' = upto n) = (decide (ns.length = n) && (upto n).all fun l => decide (l ∈ ns)) := by
  by_cases h : ns.length = n ∧ ∀ l ∈ upto n, l ∈ ns
  · have p : (upto n).Perm ns := perm_of_sub (upto_nodup n) h.2 (by rw [upto_len, h.1])
    have e : ns' = upto n := PySem.W.ksm_same (hp.trans p.symm) hu (upto_up n)
    rw [decide_eq_true e, decide_eq_true h.1, Bool.true_and]
    exact (List.all_eq_true.mpr fun l hl => decide_eq_true (h.2 l hl)).symm
  · have ne : ¬ ns' = upto n := fun z => h ⟨by rw [← hp.length_eq, z, upto_len], fun l hl => hp.mem_iff.mp (z ▸ hl)⟩
    rw [decide_eq_false ne]
    cases q : (decide (ns.length = n) && (upto n).all fun l => decide (l ∈ ns)) with
    | false => rfl
    | true =>
      rw [Bool.and_eq_true, decide_eq_true_eq, List.all_eq_true] at q
      exact absurd ⟨q.1, fun l hl => of_decide_eq_true (q.2 l hl)⟩ h
end My

set_option Elab.async false
set_option linter.all false
set_option maxRecDepth 100000
set_option maxHeartbeats 4000000
/-! ### t[::-1], t a tuple; s * n, s a text -/
namespace PySem
namespace TupRev
open PySem.Spec PySem.Calls PyProof.Rows L2 HT
section
variable {prog : Program} {w : World} {A : Around} {E : Value → Shared → Prop} {s : Shared}
theorem adj (n : Nat) : Builtin.Slice.sliceAdjust none none (-1) (n : Int) = ((n : Int) - 1, -1) := by
  unfold Builtin.Slice.sliceAdjust
  first
    | rfl
    | simp
theorem plc (n : Nat) : Builtin.Slice.slicePlaces ((n : Int) - 1) (-1) (-1) = n := by
  unfold Builtin.Slice.slicePlaces
  have h1 : ¬ ((-1 : Int) > 0) := by decide
  rw [if_neg h1]
  split
  · have e : ((n : Int) - 1 - -1 - 1) / (- -1) = (n : Int) - 1 := by
      rw [show (- -1 : Int) = 1 by decide, Int.ediv_one]
      omega
    rw [e]
    omega
  · omega
theorem applied {sl : Addr} {vl vu vs : Value} {n : Nat} {Q : Int × Int × Nat → Shared → Prop} (hs : s.heap.IsSliceOf sl vl vu vs) (pl : IsPart vl none) (pu : IsPart vu none) (ps : IsPart vs (some (-1)))
    (h : Q ((n : Int) - 1, -1, n) s) : wpAny (model prog w) A (Builtin.Slice.sliceApplied (.ref sl) (pure (n : Int))) Q E s := by
  obtain ⟨os, o1, o2, o3⟩ := id hs
  unfold Builtin.Slice.sliceApplied Builtin.Slice.sliceFields
  refine wpAny_bind (wpAny_bind (wpAny_field o1 o3 (x := vl) rfl (wpAny_bind (wpAny_field o1 o3 (x := vu) rfl (wpAny_bind (wpAny_field o1 o3 (x := vs) rfl (wpAny_pure ?_)))))))
  refine wpAny_bind (slicePart_ ps ?_)
  show wpAny _ _ (if ((-1 : Int) == 0) = true then _ else _) _ _ s
  rw [if_neg (by decide)]
  refine wpAny_bind (slicePart_ pl (wpAny_bind (slicePart_ pu (wpAny_bind (wpAny_pure ?_)))))
  show wpAny _ _ (match Builtin.Slice.sliceAdjust none none (-1) (n : Int) with | (lo, hi) => pure (lo, (-1 : Int), Builtin.Slice.slicePlaces lo hi (-1))) _ _ s
  rw [adj n]
  show wpAny _ _ (pure ((n : Int) - 1, (-1 : Int), Builtin.Slice.slicePlaces ((n : Int) - 1) (-1) (-1))) _ _ s
  rw [plc]
  exact wpAny_pure h
theorem fm_congr {α β : Type} {f g : α → Option β} : ∀ {l : List α}, (∀ x ∈ l, f x = g x) → l.filterMap f = l.filterMap g
  | [], _ => rfl
  | a :: l, h => by
    rw [List.filterMap_cons, List.filterMap_cons, h a List.mem_cons_self, fm_congr fun x hx => h x (List.mem_cons_of_mem _ hx)]
theorem pick (xs : Array Value) : ((List.range xs.size).filterMap fun (m : Nat) => xs[((xs.size : Int) - 1 + (m : Int) * (-1)).toNat]?).toArray = xs.toList.reverse.toArray := by
  have e : (List.range xs.size).filterMap (fun (m : Nat) => xs[((xs.size : Int) - 1 + (m : Int) * (-1)).toNat]?) = (List.range xs.size).filterMap ((fun i => xs[i]?) ∘ fun k => xs.size - 1 - k) := by
    refine fm_congr fun m hm => ?_
    have := List.mem_range.mp hm
    have q : ((xs.size : Int) - 1 + (m : Int) * (-1)).toNat = xs.size - 1 - m := by omega
    rw [q]
    rfl
  rw [e, ← List.filterMap_map, PySem.W.krv_range, List.filterMap_reverse, PySem.W.krv_all]
theorem getItem_rev {t sl : Addr} {items : Array Value} {vl vu vs : Value} {Q : Value → Shared → Prop} (ht : IsTup s.heap t items) (hs : s.heap.IsSliceOf sl vl vu vs) (pl : IsPart vl none) (pu : IsPart vu none) (ps : IsPart vs (some (-1)))
    (h : Q (.ref s.heap.objs.size) { s with heap := s.heap.push { cls := .type "tuple", data := .seq items.toList.reverse.toArray } }) (hsz : items.size ≤ sizeLine) :
    wpAny (model prog w) A (getItem (.ref t) (.ref sl)) Q E s := by
  have hz : sizeOk (.seq items.toList.reverse.toArray) := by
    show items.toList.reverse.toArray.size ≤ sizeLine
    rw [List.size_toArray, List.length_reverse, Array.length_toList]
    exact hsz
  obtain ⟨os, o1, o2, o3⟩ := id hs
  have ty : s.TypeIs (.ref sl) "slice" := ⟨os, o1, o2⟩
  unfold getItem
  try with_reducible refine wpAny_holding ?_
  (first | refine wpAny_bind (wpAny_pure ?_) | skip)
  refine (wpAny_bind (wpAny_sequenceKey ht.typeIs (by decide) ?_))
  refine (wpAny_bind (wpAny_callSpecial?_slot (name := Str.ofString "__getitem__") ht.typeIs PyProof.Rows.slot_tuple_getitem (wpAny_call_entry PyProof.Rows.slot_tuple_getitem ht.typeIs entry_tuple_getitem ?_ (args_tuple_getitem _ _))))
  show wpAny _ _ (Builtin.Tuple.tupleItemsOf (.ref t) >>= _) _ _ s
  refine wpAny_bind (tupleItemsOf_ ht ?_)
  refine wpAny_bind (wpAny_typeOf ty ?_)
  rw [if_pos (by decide)]
  refine wpAny_bind (applied hs pl pu ps ?_)
  show wpAny _ _ (if (((items.size : Int) - 1 == 0) && ((-1 : Int) == 1) && (items.size == items.size)) = true then _ else _) _ _ s
  have no : ¬ ((((items.size : Int) - 1 == 0) && ((-1 : Int) == 1) && (items.size == items.size)) = true) := by
    rw [show ((-1 : Int) == 1) = false by decide, Bool.and_false, Bool.false_and]
    decide
  rw [if_neg no, pick]
  (first
    | exact wpAny_bind (m := Builtin.Tuple.tupleExact _) (wpAny_newObj_type (wpAny_pure ⟨_, rfl, wpAny_pure h⟩) hz)
    | exact wpAny_bind (m := Builtin.Tuple.tupleExact _) (wpAny_newObj_type (wpAny_bind (wpAny_pure (wpAny_pure ⟨_, rfl, wpAny_pure h⟩))) hz)
    | exact wpAny_bind (wpAny_bind (m := Builtin.Tuple.tupleExact _) (wpAny_newObj_type (wpAny_pure (wpAny_pure ⟨_, rfl, wpAny_pure h⟩)) hz))
    | exact wpAny_bind (wpAny_bind (m := Builtin.Tuple.tupleExact _) (wpAny_newObj_type (wpAny_pure ⟨_, rfl, wpAny_pure h⟩) hz)))
end
end TupRev
end PySem
namespace My
open PySem PySem.Spec PyProof.Rows L2
def tRevT (K : PySem.W.Frag) (te : TE) : TE := fun σ H Q => te σ H fun x H1 => ∃ a xs, x = .ref a ∧ SqT K H1 a xs ∧ ∀ p, H1 p = none → Q (.ref p) (upd H1 p (.tup xs.reverse))
theorem pe_sliceRev_T {X : Cx} (K : PySem.W.Frag) {e : Expr} {te : TE} {k : Nat} {p1 p2 p3 pos : Pos} (he : PE X e te) (hK : X.K = K := by rfl) : PE X (.Subscript e (.Slice none none (some (.UnaryOp .USub (.Constant (.int 1) k p1) p2)) p3) pos) (tRevT K te) := by
  subst hK
  refine ⟨fun pins s σ H Q I h => ?_⟩
  refine Subscript_ (thn (he.run pins s σ H _ I h) fun v s1 ⟨x, H1, I1, r1, q1⟩ => ?_)
  obtain ⟨a, xs, ex, hx, q⟩ := q1
  subst ex
  cases r1
  have st : PO X (some (.UnaryOp .USub (.Constant (.int 1) k p1) p2)) (tPart (tUn (rU fun i => .int (-i)) (tC (.int 1)))) := (po_some (pe_un un_neg pe_int))
  refine wpAny_Slice (thn (po_none.run pins s1 σ H1 (fun o H2 => o = none ∧ H2 = H1) I1 ⟨rfl, rfl⟩) fun vl s2 ⟨l, H2, I2, pl, el, e2⟩ => ?_)
  subst el e2
  refine thn (po_none.run pins s2 σ H2 (fun o H3 => o = none ∧ H3 = H2) I2 ⟨rfl, rfl⟩) fun vu s3 ⟨u, H3, I3, pu, eu, e3⟩ => ?_
  subst eu e3
  refine thn (st.run pins s3 σ H3 (fun o H4 => o = some (-1) ∧ H4 = H3) I3 ⟨1, rfl, -1, rfl, rfl, rfl⟩) fun vs s4 ⟨o, H4, I4, ps, eo, e4⟩ => ?_
  subst eo e4
  have J : Inv X pins σ H4 { s4 with heap := s4.heap.push { cls := .type "slice", data := .fields #[vl, vu, vs] } } := I4.kept (t' := s4.toks) fun b ob q => Heap.get?_push_of_some _ q
  obtain ⟨its, r, ht, hz⟩ := J.tuple hx
  have hl := r.length
  show wpAny (model X.prog X.w) X.A (subscriptTail e (.Slice none none (some (.UnaryOp .USub (.Constant (.int 1) k p1) p2)) p3) (.ref a) (.ref s4.heap.objs.size)) (EP X pins σ Q) X.xe { s4 with heap := s4.heap.push { cls := .type "slice", data := .fields #[vl, vu, vs] } }
  refine tail_any (ops := [.ref a, .ref s4.heap.objs.size]) ht.typeIs (PyProof.Rows.slot_tuple_getitem.lookup) ?_ (by with_unfolding_all rfl)
  refine TupRev.getItem_rev ht (Heap.IsSliceOf.new _ vl vu vs) pl pu ps ?_ (by rw [List.size_toArray]; omega)
  refine ⟨.ref _, _, J.laid (t' := s4.toks) (o := .tup xs.reverse) (fun b ob q => Heap.get?_push_of_some _ q) (Nat.le_refl _) ?_, rfl, q _ (J.hok.fresh (Nat.le_refl _))⟩
  exact ⟨by rw [List.length_reverse]; exact hz, _, r.reverse, IsTup.new _ _⟩
/-- s * n -/
def rRepS : R2 := fun x y H Q => ∃ (z : Str) (n : Int), x = .str z ∧ y = .int n ∧ 2 ≤ n ∧ n ≤ 1000 ∧ z.length = 1 ∧ ∀ z', z'.length = n.toNat → (∀ c ∈ z'.cps.toList, c ∈ z.cps.toList) → Q (.str z') H
theorem fold_app (l : List (Array Nat)) : ∀ a : Array Nat, (l.foldl (· ++ ·) a).toList = a.toList ++ (l.map Array.toList).flatten := by
  induction l with
  | nil => intro a; simp
  | cons x l ih =>
    intro a
    rw [List.foldl_cons, ih]
    simp
theorem op_rep_str {X : Cx} : OpR X (binaryOp .Mult) rRepS := by
  intro pins s σ H x y v u Q I rx ry h
  obtain ⟨z, n, rfl, rfl, h2, h3, hz, q⟩ := h
  obtain ⟨t, rfl⟩ := rx
  obtain ⟨t2, rfl⟩ := ry
  have e : (Txt.mul z n).cps.toList = (List.replicate n.toNat z.cps.toList).flatten := by
    unfold Txt.mul
    rw [if_neg (by omega), if_neg (by rw [hz]; simp; omega)]
    rw [fold_app]
    simp
  refine SB.mul (n := n) ⟨?_, fun _ _ => ?_, fun _ _ => ?_⟩ fun t' k => ⟨.str (Txt.mul z n), H, I.tok _, ⟨_, rfl⟩, q _ ?_ ?_⟩
  · rw [decide_eq_false (by omega), decide_eq_false (by omega)] <;> rfl
  · rw [hz]
    have : (1000 : Int) ≤ (2 ^ 63 - 1) / n := by
      rw [Int.le_ediv_iff_mul_le (by omega)]
      have : (1000 : Int) * n ≤ 1000 * 1000 := Int.mul_le_mul_of_nonneg_left h3 (by decide)
      omega
    omega
  · rw [hz]
    unfold Builtin.Str.tooLong
    rw [Nat.one_mul]
    refine decide_eq_false ?_
    have : n.toNat ≤ 1000 := by omega
    have := sizeLine_eq
    simp only [Nat.not_lt]
    omega
  · show (Txt.mul z n).cps.size = _
    rw [← Array.length_toList, e, List.length_flatten, List.map_replicate, List.sum_replicate_nat]
    have : z.cps.toList.length = 1 := by rw [Array.length_toList]; exact hz
    rw [this]
    omega
  · intro c hc
    rw [e] at hc
    obtain ⟨l, hl, hcl⟩ := List.mem_flatten.mp hc
    rw [(List.mem_replicate.mp hl).2] at hcl
    exact hcl
end My

set_option Elab.async false
set_option linter.all false
set_option maxRecDepth 100000
set_option maxHeartbeats 4000000
/-! defs that may say repr of a container: their callers have none under way -/
namespace My
open PySem PySem.Spec PyProof.Rows L2
theorem nox_of' {X : Cx} {B : List Stmt} {D : Ends} {σ : L2.St} {H : Hp} (h : ∃ t, PSs X.nox B t ∧ t D σ H) : ∃ t, PSs X B t ∧ t D σ H := by
  obtain ⟨t, h, q⟩ := h
  exact ⟨t, h.nox, q⟩
/-- FnOk where no repr is under way -/
structure FnG (P : Program) (w : World) (K : PySem.W.Frag) (mg : Str → Option Value) (base : Heap) (CX : CXT) (k : Nat) (g : Addr) (gd : FuncData) (ns : List Str) (sp : Sp) : Prop where
  many : ∀ vs H Q E, sp vs H Q E → vs.length = ns.length
  runs : ∀ (A : Around) (stk : List Env) (t : Shared) (H : Hp) (args : Args) (us : List Value) (vs : List V) (Q : VK) (E : XK), A.guards = some [] → Room k A → Env0 P w K mg base A stk t H → BindsTo t gd args (ns.zip us) → Vals vs us → sp vs H Q E →
    codeAny (model P w) A (.call (.ref g) args) (CR CX stk P w H t Q E) t
section
variable {P : Program} {w : World} {K : PySem.W.Frag} {mg : Str → Option Value} {base : Heap} {CX : CXT} {k j : Nat} {g : Addr} {gd : FuncData} {ns : List Str} {sp : Sp}
theorem FnG.of (F : FnOk P w K mg base CX k g gd ns sp) : FnG P w K mg base CX k g gd ns sp := ⟨F.len, fun A stk t H args us vs Q E _ => F.run A stk t H args us vs Q E⟩
theorem FnG.up (F : FnG P w K mg base CX j g gd ns sp) (h : j ≤ k) : FnG P w K mg base CX k g gd ns sp := ⟨F.many, fun A stk t H args us vs Q E hg hr => F.runs A stk t H args us vs Q E hg (hr.mono h)⟩
theorem FnG.imp {sp' : Sp} (F : FnG P w K mg base CX k g gd ns sp) (h : ∀ vs H Q E, sp' vs H Q E → sp vs H Q E) : FnG P w K mg base CX k g gd ns sp' :=
  ⟨fun vs H Q E z => F.many vs H Q E (h vs H Q E z), fun A stk t H args us vs Q E hg hr e0 hb r z => F.runs A stk t H args us vs Q E hg hr e0 hb r (h vs H Q E z)⟩
/-- a def by its body; what it raises leaves it -/
theorem fun_g {x qual : Str} {st : Stmt} {N : List Str} (F : L2.Fun K x qual st g gd) (S : FnScope N ns (L2.defScope st)) (many : ∀ vs H Q E, sp vs H Q E → vs.length = ns.length)
    (body : ∀ (cdv : Value) (A : Around) (stk : List Env) (t : Shared) (H : Hp) (vs : List V) (Q : VK) (E : XK), A.guards = some [] → Room k (A.deeper (envOfC qual (L2.defScope st) t.heap.objs.size g cdv)) → sp vs H Q E →
      ∃ r, PSs (cxOf CX P w K mg base N qual (L2.defScope st) g cdv A stk t H E) (L2.defBody st) r ∧ r { nx := fun _ H' => Q .non H', rt := Q } (L2.start N vs) H) : FnG P w K mg base CX (k + 1) g gd ns sp := by
  obtain ⟨oc, od, kV, doc, pm, an, cdv, ct, osl, rfl, lk, hcd⟩ := F.ex
  exact ⟨many, fun A stk t H args us vs Q E hg hr e0 hb r h => LamX.run_ofS lk hcd S hr e0 hb r (many _ _ _ _ h) fun hr' => body cdv A stk t H vs Q E hg hr' h⟩
/-- .. that raises nothing -/
theorem fun_g0 {x qual : Str} {st : Stmt} {N : List Str} (F : L2.Fun K x qual st g gd) (S : FnScope N ns (L2.defScope st)) (many : ∀ vs H Q E, sp vs H Q E → vs.length = ns.length)
    (body : ∀ (cdv : Value) (A : Around) (stk : List Env) (t : Shared) (H : Hp) (vs : List V) (Q : VK) (E : XK), A.guards = some [] → Room k (A.deeper (envOfC qual (L2.defScope st) t.heap.objs.size g cdv)) → sp vs H Q E →
      ∃ r, PSs (cxOf CX0 P w K mg base N qual (L2.defScope st) g cdv A stk t H E).nox (L2.defBody st) r ∧ r { nx := fun _ H' => Q .non H', rt := Q } (L2.start N vs) H) : FnG P w K mg base CX0 (k + 1) g gd ns sp :=
  fun_g F S many fun cdv A stk t H vs Q E hg hr h => nox_of' (body cdv A stk t H vs Q E hg hr h)
end
section
variable {X : Cx} {CX : CXT} {k : Nat} {g C : Addr} {gd : FuncData} {ns : List Str} {sp : Sp} {E : XK} {x m : Str} {p pos apos : Pos} {e o : Expr} {es : List Expr} {ta : TE} {t : TA}
/-- such a def is run -/
theorem run_g {pins : List (Addr × Obj)} {σ : L2.St} {H : Hp} {s : Shared} {Q : VK} {us : List Value} {vs : List V} (F : FnG X.prog X.w X.K X.mg X.base CX k g gd ns sp) (hg : X.A.guards = some []) (hr : Room k X.A) (hb : Binds X.K gd ns []) (hx : Passes CX X E)
    (I : Inv X pins σ H s) (r : Vals vs us) (h : sp vs H Q E) : wpAny (model X.prog X.w) X.A (call (.ref g) us) (EP X pins σ Q) X.xe s := by
  have hl : (us ++ []).length = ns.length := by rw [List.append_nil, ← r.length]; exact F.many _ _ _ _ h
  have b := hb s us I.kIn hl
  rw [List.append_nil] at b
  refine wpAny_call (codeAny_mono (F.runs X.A X.stack s H ⟨us, []⟩ us vs Q E hg hr I.env0 b r h) fun z s' hq => ?_)
  match z, hq with
  | .error e, hq => exact hx pins σ H s e s' I hq
  | .ok (.ret u), hq => exact I.after hq
  | .ok .next, hq => exact hq.elim
  | .ok .brk, hq => exact hq.elim
  | .ok .cont, hq => exact hq.elim
/-- f(e, ..) -/
theorem pe_callG (F : FnG X.prog X.w X.K X.mg X.base CX k g gd ns sp) (hg : X.A.guards = some []) (hr : Room k X.A) (gl : Gl X x) (hm : X.mg x = some (.ref g)) (kp : PySem.W.keepIn X.K (.ref g) = true) (hb : Binds X.K gd ns []) (hx : Passes CX X E)
    (ha : PA X (e :: es) t) (nd : (x == ("__debug__" : Str)) = false := by decide) (se : starEach (e :: es) X.env = (false, eval e X.env) :: starEach es X.env := by rfl) (np : (backTo pos (starEach es X.env)).any (·.1) = false := by rfl) :
    PE X (.Call (.Name x p) (e :: es) [] pos) (tCall sp [] E t) := by
  constructor
  intro pins s σ H Q I h
  refine wpAny_Call_Name_kw (ld_glob I gl hm ?_ nd)
  refine PySem.W.callWith_K (h₀ := X.base) I.ok.mod.kin kp (thn (ha.run pos pins s σ H _ I h) fun us s1 q => ?_) se np
  obtain ⟨vs, H1, I1, r, q⟩ := q
  rw [List.append_nil] at q
  exact ⟨I1.kIn, run_g F hg hr hb hx I1 r q⟩
/-- repr of data of any kind, where no repr is under way -/
def rReprV (K : PySem.W.Frag) : List V → Hp → VK → Prop := fun xs H Q => ∃ (v : V) (d : PyData), xs = [v] ∧ Dp K H v d ∧ d.showable = true ∧ d.hasDict = false ∧ d.depth ≤ 8 ∧ d.shown.length ≤ sizeLine ∧ Q (.str d.shown) H
theorem reprV (K : PySem.W.Frag) (hg : X.A.guards = some []) (hu : X.A.units + 64 < cLine) (hK : X.K = K := by rfl) : CallR X (.builtin "repr") (rReprV K) := by
  subst hK
  intro pins s σ H xs us Q I r h
  obtain ⟨v, d, rfl, hd, h1, h2, h3, h4, q⟩ := h
  cases r with
  | cons rx rn =>
    cases rn
    have rd0 := Dp.reads I d _ _ hd rx
    cases v with
    | ref a =>
      obtain rfl := (rx : _ = Value.ref a)
      obtain ⟨as, rd⟩ := rd0
      exact PySem.repr_of_reads' rd h1 (fun z => by rw [h2] at z; cases z) hg (by omega) (fun _ _ e => e) (fun h' u tk kp => ⟨.str d.shown, H, I.kept (t' := tk) kp, ⟨u, rfl⟩, q⟩) h4
    | int n =>
      obtain ⟨t, rfl⟩ := (rx : ∃ t, _ = Value.int n t)
      cases hd
      exact PySem.P.repr_of_int (of_decide_eq_true (show decide (n.natAbs.log2 < 1920) = true by simpa only [PyData.showable] using h1)) ⟨.str _, H, I.tok _, ⟨_, rfl⟩, by simpa only [PyData.shown] using q⟩
    | str z =>
      obtain ⟨t, rfl⟩ := (rx : ∃ t, _ = Value.str z t)
      cases hd
      exact PySem.P.repr_of_str ⟨.str _, H, I.tok _, ⟨_, rfl⟩, by simpa only [PyData.shown] using q⟩ (by simpa only [PyData.shown] using h4)
    | bl b =>
      obtain rfl := (rx : _ = Value.bool b)
      cases hd
      exact PySem.P.repr_of_bool ⟨.str _, H, I.tok _, ⟨_, rfl⟩, by simpa only [PyData.shown] using q⟩
    | non =>
      obtain rfl := (rx : _ = Value.none)
      cases hd
      exact PySem.P.repr_of_none ⟨.str _, H, I.tok _, ⟨_, rfl⟩, by simpa only [PyData.shown] using q⟩
    | byt b => cases hd
    | flt b => cases hd
    | ty n => cases hd
end
end My

set_option Elab.async false
set_option linter.all false
set_option maxRecDepth 100000
set_option maxHeartbeats 4000000
/-! exceptions of the program's own classes as values: made, kept, asked for their class and their fields, said as text -/
namespace My
open PySem PySem.Spec PyProof.Rows L2
/-- an exception at a with its own dict at d -/
def ExD (C d a : Addr) : HO := .ext fun h => ∃ (oe : Obj) (vs : Array Value), h.get? a = some oe ∧ Zc (.ref C) (some d) oe ∧ oe.data = .fields vs
theorem exD_ok {P : Program} {w : World} {H : Hp} {h : Heap} {a C d : Addr} {oe : Obj} {vs : Array Value} (e : h.get? a = some oe) (z : Zc (.ref C) (some d) oe) (q : oe.data = .fields vs) : ObjOk P w H h a (ExD C d a) :=
  ⟨⟨oe, vs, e, z, q⟩, ⟨oe, e⟩, fun _ _ ⟨o, v, q, r⟩ k => ⟨o, v, k o q, r⟩⟩
/-- behind the making of an exception with a dict of its own -/
theorem made_value {X : Cx} {pins : List (Addr × Obj)} {σ : L2.St} {H : Hp} {s : Shared} {h' : Heap} {tk' : Nat} {e C d : Addr} {u : HO} {oe : Obj} {fv : Array Value} {Q : VK} (I : Inv X pins σ H s) (kp : ∀ b o, s.heap.get? b = some o → h'.get? b = some o) (ne : s.heap.objs.size ≤ e) (nd : s.heap.objs.size ≤ d) (de : d ≠ e)
    (ob : ∀ G' : Heap, (∀ o, h'.get? d = some o → G'.get? d = some o) → ObjOk X.prog X.w (upd H d u) G' d u) (he : h'.get? e = some oe) (hc : oe.cls = .ref C) (hd : oe.dict = some d) (hf : oe.data = .fields fv)
    (q : H d = none → H e = none → d ≠ e → Q (.ref e) (upd (upd H d u) e (ExD C d e))) : EP X pins σ Q (.ref e) { s with heap := h', toks := tk' } := by
  obtain ⟨G', g1, g2⟩ := restrict h' fun b => decide (b ≠ e)
  have gk : ∀ b, b ≠ e → G'.get? b = h'.get? b := fun b hb => g1 b (decide_eq_true hb)
  have ge : G'.get? e = none := g2 e (by simp)
  have up : ∀ b o, G'.get? b = some o → h'.get? b = some o := fun b o z => by
    by_cases hb : b = e
    · rw [hb, ge] at z; cases z
    · exact (gk b hb).symm.trans z
  have old : ∀ b o, s.heap.get? b = some o → G'.get? b = some o := fun b o z => (gk b (Nat.ne_of_lt (Nat.lt_of_lt_of_le (Heap.lt_size z) ne))).trans (kp b o z)
  have J : Inv X pins σ (upd H d u) { s with heap := G', toks := tk' } := I.laid (t' := tk') old nd (ob G' fun o z => (gk d de).trans z)
  have f1 : H d = none := I.hok.fresh nd
  have f2 : H e = none := I.hok.fresh ne
  have f3 : upd H d u e = none := by rw [upd_ne de.symm]; exact f2
  have J2 : Inv X pins σ (upd (upd H d u) e (ExD C d e)) { s with heap := h', toks := tk' } := J.laidN up ge f3 (exD_ok he ⟨hc, hd⟩ hf)
  exact ⟨.ref e, _, J2, rfl, q f1 f2 de⟩
/-- an exception of the class C stands at a, with these fields of its own -/
def ErrAt (H : Hp) (a C : Addr) (fs : List (Str × V)) : Prop := (H a = some (ExO (.ref C) a) ∧ fs = []) ∨ ∃ d, H a = some (ExD C d a) ∧ H d = some (.xd fs)
theorem ErrAt.same {H H' : Hp} {a C : Addr} {fs : List (Str × V)} (h : ErrAt H a C fs) (s : Same H H') : ErrAt H' a C fs := by
  rcases h with ⟨h, e⟩ | ⟨d, h, e⟩
  · exact .inl ⟨s _ _ h, e⟩
  · exact .inr ⟨d, s _ _ h, s _ _ e⟩
section
variable {X : Cx} {pins : List (Addr × Obj)} {σ : L2.St} {H : Hp} {s : Shared}
theorem err_inst {a C : Addr} {fs : List (Str × V)} (I : Inv X pins σ H s) (h : ErrAt H a C fs) : ∃ oe od, PySem.W.InstAt s.heap a oe C od := by
  rcases h with ⟨h, _⟩ | ⟨d, h, e⟩
  · obtain ⟨⟨oe, vs, ho, hz, hd, _⟩, _, _⟩ := I.hok a _ h
    exact ⟨oe, none, ho, hz.1, by unfold PySem.W.notCls; rw [hd] <;> rfl, by rw [hz.2]; trivial⟩
  · obtain ⟨⟨oe, vs, ho, hz, hd⟩, _, _⟩ := I.hok a _ h
    obtain ⟨mA, hns, hr⟩ := (show ObjOk X.prog X.w H s.heap d (.xd fs) from I.hok d _ e)
    obtain ⟨od, hod, hl⟩ := lookIn_ns hns
    exact ⟨oe, some od, ho, hz.1, by unfold PySem.W.notCls; rw [hd] <;> rfl, by rw [hz.2]; exact hod⟩
end
/-- what the written part says of an exception class -/
structure ExKit (K : PySem.W.Frag) (C : Addr) : Prop where
  cl : (PySem.W.clsIn K C).isSome = true
  ga : PySem.W.findIn K (.ref C) "__getattribute__" = some (some (.builtin "BaseException.__getattribute__"))
  gg : PySem.W.findIn K (.ref C) "__getattr__" = some none
  ex : PySem.W.subIn K (.ref C) (.type "BaseException") = some true
  cc : PySem.W.findIn K (.ref C) "__class__" = some (some (.builtin "object.__class__"))
  cg : PySem.W.specialIn K (.builtin "object.__class__") "__get__" = some (some (.builtin "getset_descriptor.__get__"))
  ct : PySem.W.takesIn K (.builtin "object.__class__") = some true
  mo : PySem.W.mroIn K C (.type "object") = some true
/-- isinstance of such an exception -/
def rIsE (K : PySem.W.Frag) : List V → Hp → VK → Prop := fun xs H Q => ∃ (a C : Addr) (fs : List (Str × V)) (c : V) (u : Value) (b : Bool), xs = [.ref a, c] ∧ ClsV c u ∧ ErrAt H a C fs ∧ ExKit K C ∧ PySem.W.kitOne K (.ref C) u = some b ∧ Q (.bl b) H
theorem isiE {X : Cx} (K : PySem.W.Frag) (hK : X.K = K := by rfl) : CallR X (.builtin "isinstance") (rIsE K) := by
  subst hK
  intro pins s σ H xs us Q I r h
  obtain ⟨a, C, fs, c, u, b, rfl, k, er, kt, e, q⟩ := h
  obtain ⟨u1, u2, rfl, r1, r2⟩ := vals2 r
  have e2 := k.eq r2
  subst e2
  cases (show u1 = Value.ref a from r1)
  obtain ⟨oe, od, J⟩ := err_inst I er
  exact PySem.W.kia_one (PySem.W.kitx_exc kt.cl kt.ga kt.gg kt.ex kt.cc kt.cg kt.ct kt.mo) I.kIn J e (fun z => nomatch z) fun tk => ⟨.bl b, H, I.tok tk, rfl, q⟩
/-- e.f of such an exception -/
def tExAt (C : Addr) (f : Str) (te : TE) : TE := fun σ H Q => te σ H fun x H1 => ∃ a d v, x = .ref a ∧ H1 a = some (ExD C d a) ∧ H1 d = some (.xd [(f, v)]) ∧ Q v H1
theorem pe_exAt {X : Cx} {C : Addr} {f : Str} {e : Expr} {te : TE} {pos : Pos} (kt : ExKit X.K C) (hd : PySem.W.hasDictIn X.K C = true) (no : PySem.W.findIn X.K (.ref C) f = some none) (he : PE X e te) (hb : attributeBase e f X.env (eval e X.env) = eval e X.env := by rfl) :
    PE X (.Attribute e f pos) (tExAt C f te) := by
  refine ⟨fun pins s σ H Q I h => attr_of hb (thn (he.run pins s σ H _ I h) fun u s1 hh => ?_)⟩
  obtain ⟨x, H1, I1, rx, a, d, v, ex, ea, ed, q⟩ := hh
  subst ex
  obtain rfl : u = Value.ref a := rx
  obtain ⟨⟨oe, vs, ho, hz, hdt⟩, _, _⟩ := I1.hok a _ ea
  obtain ⟨mA, hns, hr⟩ := (show ObjOk X.prog X.w H1 s1.heap d (.xd [(f, v)]) from I1.hok d _ ed)
  obtain ⟨od, hod, hl⟩ := lookIn_ns hns
  have l : List.lookup f [(f, v)] = some v := by simp [List.lookup]
  obtain ⟨u, hu, ru⟩ := RelO.some_of (v := v) (o := mA f) (by rw [← l]; exact hr f)
  have J : PySem.W.InstAt s1.heap a oe C (some od) := ⟨ho, hz.1, by unfold PySem.W.notCls; rw [hdt] <;> rfl, by rw [hz.2]; exact hod⟩
  exact HandSPX.exc_get I1.kIn J kt.ga kt.gg kt.ex (PySem.W.findObj_own hd no rfl (by rw [hl, hu])) (handed_of ru) ⟨v, H1, I1.tok _, ru, q⟩
/-- str(e) by an own __str__ -/
def rStrE (C : Addr) (sp : Sp) (E : XK) : List V → Hp → VK → Prop := fun xs H Q => ∃ (a : Addr) (fs : List (Str × V)), xs = [.ref a] ∧ ErrAt H a C fs ∧ sp [.ref a] H (fun v H' => ∃ z, v = .str z ∧ Q v H') E
theorem strE {X : Cx} {C g : Addr} {gd : FuncData} {k : Nat} {sp : Sp} {E : XK} {CX : CXT} (hs : PySem.W.findIn X.K (.ref C) "__str__" = some (some (.ref g))) (hf : PySem.W.isFn X.K (.ref g) = true) (F : FnG X.prog X.w X.K X.mg X.base CX k g gd ["self"] sp) (hg : X.A.guards = some []) (hr : Room (k + 2) X.A) (hb : Binds X.K gd ["self"] []) (hx : Passes CX X E) :
    CallR X (.type "str") (rStrE C sp E) := by
  intro pins s σ H xs us Q I r h
  obtain ⟨a, fs, rfl, er, q⟩ := h
  obtain ⟨u, rfl, ru⟩ := vals1 r
  cases (show u = Value.ref a from ru)
  obtain ⟨oe, od, J⟩ := err_inst I er
  have hr1 : Room (k + 1) X.A.in1 := hr.in1
  refine PySem.W.kso_call (by have := hr.un; show X.A.units + 1 + 1 < cLine; omega) I.kIn J hs hf (wpAny_call (codeAny_mono (F.runs X.A.in1.in1 X.stack s H ⟨[.ref a], []⟩ [.ref a] [.ref a] _ E hg hr1.in1 I.env0.in1.in1 (hb s [.ref a] I.kIn rfl) (.cons rfl .nil) q) fun z s' hq => ?_))
  match z, hq with
  | .error e, hq => exact hx pins σ H s e s' I hq
  | .ok .next, hq => exact hq.elim
  | .ok .brk, hq => exact hq.elim
  | .ok .cont, hq => exact hq.elim
  | .ok (.ret u), hq =>
    obtain ⟨v, H', I', rv, z, rfl, q'⟩ := I.after hq
    obtain ⟨t, rfl⟩ := (show ∃ t, u = Value.str z t from rv)
    exact ⟨.str z, H', I', ⟨t, rfl⟩, q'⟩
end My

set_option Elab.async false
set_option linter.all false
set_option maxRecDepth 100000
set_option maxHeartbeats 4000000
/-! own classes over KeyError, whose maker is LookupError's -/
namespace PySem.F
abbrev keyMro : List Value := [.type "KeyError", .type "LookupError", .type "Exception", .type "BaseException", .type "object"]
theorem store_KeyError : StoreFacts "KeyError" keyMro "object.__setattr__" "object" :=
  { mro := by kernel_rfl, slot := .of (owner := "object") (n := "__setattr__")
      (by rw [typeLookup_type, builtinLookup_eq_fast]; kernel_rfl)
      (by decide +kernel)
      (by decide +kernel)
      (by decide +kernel)
      (by first | exact .inl (by decide +kernel) | exact .inr (by decide +kernel))
      (by rw [isSubtype_type]; kernel_rfl),
    entry := store_LookupError.entry, kind := by decide +kernel, split := by decide +kernel, hasOwner := by decide +kernel, args := store_LookupError.args, passes := fun _ => by kernel_rfl }
end PySem.F
namespace PySem
namespace KeyX
open PySem.W PySem.Calls PyProof.Rows PySem.HandSPX
/-- what is asked of the classes behind the own one -/
structure Over (l : List Value) : Prop where
  yes : l.contains (.type "LookupError") = true
  noA : l.contains (.type "AttributeError") = false
  noN : l.contains (.type "NameError") = false
section
variable {P : Program} {v : World} {A : Around} {Ex : Value → Shared → Prop} {Rs : Result → Shared → Prop} {hp : Heap} {gs : Array GenState} {dr : Drawn} {tk : Nat} {os : OsState}
variable {nm qn : Str} {C N : Addr} {bs l : List Value} {hd : Bool} {sn : List Str} {sb : List Value} {ab : Bool} {co : Option Bool} {dd : Option Addr} {a0 a1 a2 a3 a5 : Option Value}
theorem isL (O : Over l) : (Value.ref C :: l).contains (.type "LookupError") = true ∧ (Value.ref C :: l).contains (.type "AttributeError") = false ∧ (Value.ref C :: l).contains (.type "NameError") = false := by
  refine ⟨?_, ?_, ?_⟩ <;> rw [List.contains_cons]
  · rw [O.yes, Bool.or_true]
  · rw [O.noA]; rfl
  · rw [O.noN]; rfl
theorem key_check {M : Model} (O : Over l) {us : List Value} {Q : Unit → Shared → Prop} (cls : hp.get? C = some (excClassObj nm qn C N bs l hd sn sb ab co dd a0 a1 a2 a3 a5 "LookupError.__new__")) (go : Q () ⟨hp, gs, dr, tk, os⟩) :
    wpAny M A (checkBuiltinCall "LookupError.__new__" ⟨.ref C :: us, []⟩) Q Ex ⟨hp, gs, dr, tk, os⟩ := by
  obtain ⟨y, _, _⟩ := isL (C := C) O; have st := F.excBase_LookupError.noStar
  simp only [checkBuiltinCall, F.excBase_LookupError.newKind, F.excBase_LookupError.newSplit, F.excBase_LookupError.newRow]
  repeat (first | refine wpAny_loadPart_at cls ?_ | (refine wpAny_isSubtype_exc cls ?_; rw [y]) | refine wpAny_staticBase_exc cls ?_ | refine wpAny_madeBy_exc cls ?_ | simp only [bne_self_eq_false, Bool.false_eq_true, if_false] | wp_step)
  exact go
theorem key_new (O : Over l) {us : List Value} (cls : hp.get? C = some (excClassObj nm qn C N bs l hd sn sb ab co dd a0 a1 a2 a3 a5 "LookupError.__new__"))
    (go : Rs (.ok (.ret (.ref (hp.objs.size + 1)))) ⟨(hp.push (kdv_tup us)).push (excO C hp.objs.size), gs, dr, tk, os⟩) (few : us.length ≤ sizeLine) : codeAny (model P v) A (.builtin "LookupError.__new__" ⟨.ref C :: us, []⟩) Rs ⟨hp, gs, dr, tk, os⟩ := by
  obtain ⟨y, na, nn⟩ := isL (C := C) O; have en := F.excBase_LookupError.ends
  refine codeAny_builtinAt F.excBase_LookupError.entry ?_; unfold Builtin.«BaseException.__new__»
  refine wpAt_bind ?_; show wpAt _ _ _ (stack >>= _) _ _ _
  refine wpAt_bind (wpAt_stack fun pp bl => wpAt_of_wpAny ?_); wp_walk
  refine wpAt_of_wpAny ?_; rw [F.excBase_LookupError.owner]
  repeat (first | with_reducible refine wpAny_madeHere_exc F.excBase_LookupError.canon cls ?_ | with_reducible refine wpAny_loadPart_at cls ?_ | (with_reducible refine wpAny_isSubtype_exc cls ?_; first | rw [y] | rw [na] | rw [nn]) | wp_step)
  show Rs _ _; rw [Heap.size_push]
  exact go
theorem key_type (O : Over l) {us : List Value} {fI : Addr} {Q : Fin → Shared → Prop} (cls : hp.get? C = some (excClassObj nm qn C N bs l hd sn sb ab co dd a0 a1 a2 a3 a5 "LookupError.__new__"))
    (li : Looks (model P v) hp (typeLookup (.ref C) "__init__") (some (.ref fI))) (lb : ∀ self, Looks (model P v) hp (bindSpecial (.ref fI) self) (.ref fI, [self])) (few : us.length ≤ sizeLine)
    (go : codeAny (model P v) A (.call (.ref fI) ⟨.ref (hp.objs.size + 1) :: us, []⟩)
      (fun r s' => match r with | .ok (.ret x) => x = .none ∧ Q (.done (.ret (.ref (hp.objs.size + 1)))) s' | .ok _ => False | .error e => Ex e s') ⟨(hp.push (kdv_tup us)).push (excO C hp.objs.size), gs, dr, tk, os⟩) :
    wpAny (model P v) A (Builtin.«type.__call__» ⟨.ref C :: us, []⟩) Q Ex ⟨hp, gs, dr, tk, os⟩ := by
  repeat (first | with_reducible refine wpAny_loadPart_at cls ?_ | with_reducible refine wpAny_madeBy_exc cls ?_ | wp_step)
  refine codeAny_call_builtin_code (Code.quiet_builtin _ F.excBase_LookupError.quiet) (key_check O cls (key_new O cls ?_ few)); show wpAny _ _ _ _ _ _
  have kp : ∀ b o, hp.get? b = some o → ((hp.push (kdv_tup us)).push (excO C hp.objs.size)).get? b = some o := fun b o e => Heap.get?_push_of_some _ (Heap.get?_push_of_some _ e)
  have at1 : ((hp.push (kdv_tup us)).push (excO C hp.objs.size)).get? (hp.objs.size + 1) = some (excO C hp.objs.size) := by heap_get
  have self : (Value.ref C :: l).contains (.ref C) = true := by simp
  have cls1 := kp _ _ cls; have li1 := li.keeps kp; have lb1 := (lb (.ref (hp.objs.size + 1))).keeps kp
  unfold isInstance
  repeat (first | with_reducible refine wpAny_loadPart_at at1 ?_ | (with_reducible refine wpAny_isSubtype_exc cls1 ?_; rw [self]) | wp_step)
  show wpAny _ _ (typeLookup (.ref C) _) _ _ _; refine li1.at ?_
  refine wpAny_holding (wpAny_bind (lb1.at (wpAny_bind (wpAny_call (codeAny_mono go fun r s' z => ?_)))))
  rcases r with e | (x | _ | _ | _) <;> first | exact z | exact z.elim | skip
  obtain ⟨rfl, z⟩ := z
  first | exact wpAny_pure (wpAny_pure z) | (wp_walk; exact z)
theorem key_call (O : Over l) {us : List Value} {fI : Addr} (cls : hp.get? C = some (excClassObj nm qn C N bs l hd sn sb ab co dd a0 a1 a2 a3 a5 "LookupError.__new__"))
    (li : Looks (model P v) hp (typeLookup (.ref C) "__init__") (some (.ref fI))) (lb : ∀ self, Looks (model P v) hp (bindSpecial (.ref fI) self) (.ref fI, [self])) (few : us.length ≤ sizeLine)
    (go : codeAny (model P v) (A.under (.builtin "type.__call__" ⟨.ref C :: us, []⟩)) (.call (.ref fI) ⟨.ref (hp.objs.size + 1) :: us, []⟩) (InitBack (hp.objs.size + 1) Rs) ⟨(hp.push (kdv_tup us)).push (excO C hp.objs.size), gs, dr, tk, os⟩) :
    codeAny (model P v) A (.call (.ref C) ⟨us, []⟩) Rs ⟨hp, gs, dr, tk, os⟩ := by
  have z1 := tc_lookup; have z2 := tc_bind (.ref C)
  have ty : (⟨hp, gs, dr, tk, os⟩ : Shared).TypeIs (.ref C) "type" := ⟨_, cls, rfl⟩
  refine codeAny_of_tree ?_; show wpAny _ _ (callAny (.ref C) _) _ _ _
  repeat (any_goals (first | assumption | with_reducible refine wpAny_loadPart_at cls ?_ | wp_step))
  refine ⟨rfl, codeAny_call_builtin_at (Code.quiet_builtin _ (by decide +kernel)) entry_typeCall (wpAny_check_type_call_sub cls (key_type O cls li lb few (codeAny_mono go fun r s' z => ?_)))⟩
  rcases r with e | (x | _ | _ | _) <;> exact z
end
end KeyX
end PySem

set_option Elab.async false
set_option linter.all false
set_option maxRecDepth 100000
set_option maxHeartbeats 4000000
namespace PySem
namespace ExParseError
abbrev bmParseError : List Value := [.type "ValueError", .type "Exception", .type "BaseException", .type "object"]
open PySem.W PySem.Calls PyProof.Rows PySem.HandSPX
/-! ### the text of __init__ -/
def iA (p1 p2 : Pos) : Arguments := { posonlyargs := [], args := [{ arg := "self", annotation := none, pos := p1 }, { arg := "index", annotation := none, pos := p2 }], vararg := none, kwonlyargs := [], kw_defaults := [], kwarg := none, defaults := [] }
def iB (q1 q2 q3 q4 : Pos) : List Stmt := [.Assign [.Attribute (.Name "self" q1) "index" q2] (.Name "index" q3) q4]
def iS : Scope := { kind := .function, names := [(PySem.Str.ofString "self", .local), (PySem.Str.ofString "index", .local)], isGenerator := false, isCoroutine := false, more := [] }
/-- what the written part says of Low, at C, and of its __init__, at fI -/
structure TxtParseError (K : Frag) (mg : Str → Option Value) (C fI : Addr) : Prop where
  gC : mg "ParseError" = some (.ref C)
  cls : ∃ nm q N bs bm sn sub ab col dd k0 k1 k2 k3 k5, K.lookup C = some (excClassObj nm q C N bs bm true sn sub ab col dd k0 k1 k2 k3 k5 "ValueError.__new__") ∧ excTail bmParseError bm = true
  sa : findIn K (.ref C) "__setattr__" = some (some (.builtin "object.__setattr__"))
  ga : findIn K (.ref C) "__getattribute__" = some (some (.builtin "BaseException.__getattribute__"))
  gg : findIn K (.ref C) "__getattr__" = some none
  noN : findIn K (.ref C) "index" = some none
  iC : findIn K (.ref C) "__init__" = some (some (.ref fI))
  tC : typeIn K (.ref fI) = some (.type "function")
  kC : keepIn K (.ref C) = true
  exC : subIn K (.ref C) (.type "BaseException") = some true
  tyC : typeIn K (.ref C) = some (.type "type")
  hdC : hasDictIn K C = true
  te : exmOne K (.ref C) (.ref C) = some true
  fn : ∃ (oc : Value) (od : Option Addr) (doc pm : Value) (an : Option Addr) (cdv ct : Value) (osl : Array (Option Value)) (p1 p2 q1 q2 q3 q4 : Pos),
    K.lookup fI = some ⟨oc, od, .func (fnOf "__init__" "ParseError.__init__" (iA p1 p2) (iB q1 q2 q3 q4) iS .none .none doc pm an cdv ct), osl⟩ ∧ codeIn K cdv "ParseError.__init__" = true
theorem one_size (v : Value) : [v].length ≤ sizeLine := by
  rw [sizeLine_eq]
  exact (by decide : 1 ≤ 16777216)
theorem kept_but {K : Frag} {h h' : Heap} {x : Addr} (X : K.In h) (hx : K.lookup x = none) (k : ∀ b o, b ≠ x → h.get? b = some o → h'.get? b = some o) : K.In h' := fun a o e =>
  k a o (fun z => by rw [z, hx] at e; cases e) (X a o e)
theorem ldC {M : Model} {s : Shared} {name : Str} {scope : Scope} {L a : Addr} {cd : Value} {m : Str → Option Value} {x : Str} {pos : Pos} {v : Value} {Q : Value → Shared → Prop} {A : Around} {E : Value → Shared → Prop} (hn : s.heap.Ns L m) (hv : m x = some v) (h : Q v s)
    (hk : scope.kind = .function := by rfl) (hl : (envOfC name scope L a cd).kindOf x = some .local := by rfl) (hd : (x == ("__debug__" : Str)) = false := by decide) :
    wpAny M A (eval (.Name x pos) (envOfC name scope L a cd)) Q E s := wpAny_Name (wpAny_loadName_local hk hl hn hv h) hd
/-- what __init__ leaves of a fresh exception at x -/
structure InitEnd (h h' : Heap) (x C dx t1 : Addr) (v : Value) : Prop where
  keep : ∀ b o, b ≠ x → h.get? b = some o → h'.get? b = some o
  obj : h'.get? x = some { cls := .ref C, dict := some dx, data := .fields #[.ref t1, .none, .none, .none, .bool false, .none] }
  dbig : h.objs.size ≤ dx
  dne : dx ≠ x
  ns : h'.Ns1 dx (fun y => if y = "index" then some v else none)
/-- a made Low -/
structure OwnMade (h h' : Heap) (e C d : Addr) (v : Value) : Prop where
  keep : ∀ b o, h.get? b = some o → h'.get? b = some o
  new : h.objs.size ≤ e
  obj : ∃ oe vs, h'.get? e = some oe ∧ oe.cls = .ref C ∧ oe.dict = some d ∧ oe.data = .fields vs ∧ vs[1]? = some .none
  dbig : h.objs.size ≤ d
  dne : d ≠ e
  ns : h'.Ns1 d (fun y => if y = "index" then some v else none)
section
variable {prog : Program} {w : World} {A : Around} {E : Value → Shared → Prop} {R : Result → Shared → Prop} {s : Shared} {K : Frag} {mg : Str → Option Value} {C fI : Addr}
theorem init_ParseError (T : TxtParseError K mg C fI) {x t0 : Addr} {v : Value} (X : K.In s.heap) (hlim : s.heap.NoLimit) (hx : s.heap.get? x = some (excO C t0)) (hnx : K.lookup x = none) (hroom : A.depth < recursionLimit)
    (hq : ∀ h' tk dx, InitEnd s.heap h' x C dx t0 v → R (.ok (.ret .none)) { s with heap := h', toks := tk }) :
    codeAny (model prog w) A (.call (.ref fI) ⟨[.ref x, v], []⟩) R s := by
  obtain ⟨oc, od, doc, pm, an, cdv, ct, osl, p1, p2, q1, q2, q3, q4, ho, hcd⟩ := T.fn
  obtain ⟨nm, q, N, bs, bm, sn, sub, ab, col, dd, k0, k1, k2, k3, k5, hC, hbm⟩ := T.cls
  have hcl : clsIn K C = some { name := nm, bases := bs, mro := .ref C :: bm, ns := N, qualname := q, hasDict := true, slotNames := sn, subclasses := sub, abstract := ab, collection := col, hasDel := false } := by unfold clsIn; rw [hC] <;> rfl
  refine Att.call_fn (binds := [("self", .ref x), ("index", v)]) X hlim ho hcd hroom (BindsTo.of_eq (by first | rfl | with_unfolding_all rfl)) (by first | rfl | decide | with_unfolding_all rfl) (fun s₁ IC => ?_) rfl rfl rfl
  obtain ⟨h₁, tk₁, rfl⟩ := IC.toInCall.same
  have k : ∀ b o, s.heap.get? b = some o → h₁.get? b = some o := IC.toInCall.keep
  have hn := IC.toInCall.ns
  have hxL : s.heap.objs.size ≠ x := Nat.ne_of_gt (Heap.lt_size hx)
  have X₁ : K.In h₁ := X.keeps k
  have hx₁ := k _ _ hx
  -- self.by = by
  show wpAny _ _ (execs _ _) _ _ _
  refine wpAny_execs_cons (plainObj_wpAny_Assign_Attribute ?_)
  refine ldC (v := v) hn (by first | rfl | with_unfolding_all rfl | kernel_rfl) (ldC (v := .ref x) hn (by first | rfl | with_unfolding_all rfl | kernel_rfl) ?_)
  refine set_plain X₁ (ox := excO C t0) (od := none) ⟨hx₁, rfl, rfl, trivial⟩ T.sa ?_
  have over : excOver K C bmParseError = true := by
    unfold excOver
    rw [hcl]
    show ((C == C) && excTail bmParseError bm) = true
    rw [hbm, beq_self_eq_true]
    rfl
  refine ExAny.first_field F.store_ValueError X₁ hx₁ hcl rfl over T.noN (fun h₃ tk₃ dx k₃ dn dne hx₃ hn₃ => ?_)
  show wpAny _ _ (execs _ _) _ _ _
  have z : s.heap.objs.size < h₁.objs.size := hn.lt
  exact wpAny_execs_nil (hq h₃ tk₃ dx ⟨fun b o hb e => k₃ b o hb (k b o e), hx₃, Nat.le_of_lt (Nat.lt_of_lt_of_le z dn), dne, hn₃⟩)
theorem made_ParseError (T : TxtParseError K mg C fI) {v : Value} (X : K.In s.heap) (hlim : s.heap.NoLimit) (hroom : A.depth + 1 < recursionLimit)
    (hq : ∀ h' tk e d, OwnMade s.heap h' e C d v → R (.ok (.ret (.ref e))) { s with heap := h', toks := tk }) :
    codeAny (model prog w) A (.call (.ref C) ⟨[v], []⟩) R s := by
  obtain ⟨nm, q, N, bs, bm, sn, sub, ab, col, dd, k0, k1, k2, k3, k5, hC, hbm⟩ := T.cls
  obtain ⟨hp, g, dr, tk, os⟩ := s
  have k : ∀ b o, hp.get? b = some o → ((hp.push (kdv_tup [v])).push (excO C hp.objs.size)).get? b = some o := fun b o e => Heap.get?_push_of_some _ (Heap.get?_push_of_some _ e)
  have hget : ((hp.push (kdv_tup [v])).push (excO C hp.objs.size)).get? (hp.objs.size + 1) = some (excO C hp.objs.size) := by heap_get
  have hnx : K.lookup (hp.objs.size + 1) = none := by
    cases e : K.lookup (hp.objs.size + 1) with
    | none => rfl
    | some o =>
      have z : hp.get? (hp.objs.size + 1) = some o := X _ _ e
      exact absurd (Nat.lt_of_succ_lt (Heap.lt_size z)) (Nat.lt_irrefl _)
  refine call_own F.excBase_ValueError (fun X => excTail_contains X bm hbm) (X _ _ hC) (looks_findIn X T.iC) (fun self => bind_fn X self T.tC) (one_size v) ?_
  refine init_ParseError (s := ⟨(hp.push (kdv_tup [v])).push (excO C hp.objs.size), g, dr, tk, os⟩) T (X.keeps k) (hlim.keeps k) hget hnx ?_ fun h' tk' dx ⟨k', hx, dn, dne, hns⟩ => ?_
  · show A.depth + 1 < recursionLimit
    exact hroom
  · have old : ∀ b o, hp.get? b = some o → h'.get? b = some o := fun b o e => k' b o (Nat.ne_of_lt (Nat.lt_succ_of_lt (Heap.lt_size e))) (k b o e)
    have z : hp.objs.size + 1 + 1 ≤ dx := by
      first
        | (simpa only [Heap.size_push] using dn)
        | exact dn
        | (have q := dn; rw [Heap.size_push, Heap.size_push] at q; exact q)
    exact ⟨rfl, hq h' tk' (hp.objs.size + 1) dx ⟨old, Nat.le_succ _, ⟨_, _, hx, rfl, rfl, rfl, rfl⟩, Nat.le_trans (Nat.le_trans (Nat.le_succ _) (Nat.le_succ _)) z, dne, hns⟩⟩
end
end ExParseError
end PySem
namespace L2
open PySem PySem.Spec PyProof.Rows
theorem relO_ParseError {v : V} {v' : Value} (r : RelV v v') (f : Str) : RelO (List.lookup f [(("index" : Str), v)]) (if f = "index" then some v' else none) := by
  by_cases hw : f = "index"
  · subst hw
    rw [if_pos rfl]
    have q : List.lookup ("index" : Str) [(("index" : Str), v)] = some v := by simp [List.lookup]
    rw [q]
    exact r
  · rw [if_neg hw]
    have qw : (f == ("index" : Str)) = false := by simpa using hw
    have q2 : List.lookup f [(("index" : Str), v)] = none := by simp [List.lookup, qw]
    rw [q2]
    trivial
section
variable {X : Cx} {C fI : Addr}
/-- Low(e) -/
def tMkParseError (C : Addr) (ta : TA) : St → Hp → XK → Prop := fun σ H Q => ta σ H fun vs H1 => ∃ v, vs = [v] ∧ ∀ d, H1 d = none → Q (.ref C) (some d) (upd H1 d (.xd [(("index" : Str), v)]))
theorem pmk_ParseError {a : Expr} {ta : TA} {p pos : Pos} {k : Nat} (T : PySem.ExParseError.TxtParseError X.K X.mg C fI) (hr : Room k X.A) (ha : PA X [a] ta) (hg : Gl X "ParseError" := by rfl)
    (he : starEach (a :: []) X.env = (false, eval a X.env) :: starEach [] X.env := by rfl) (hpl : (backTo pos (starEach [] X.env)).any (·.1) = false := by rfl) :
    PMk X (.Call (.Name "ParseError" p) [a] [] pos) (tMkParseError C ta) := by
  intro pins s σ H Q I h
  refine wpAny_Call_Name_kw (ld_glob I hg T.gC ?_)
  refine PySem.W.callWith_K (h₀ := X.base) I.ok.mod.kin T.kC (thn (ha.run pos pins s σ H _ I h) fun us s1 hh => ?_) he hpl
  obtain ⟨vs, H1, I1, r1, v, ev, q1⟩ := hh
  subst ev
  refine ⟨I1.kIn, ?_⟩
  cases r1 with
  | cons rv rn =>
    rename_i v' us'
    cases rn
    show wpAny _ _ (call (.ref C) [v']) _ _ _
    have hlim := I1.nolimit
    obtain ⟨hp, g, dr, tk, os⟩ := s1
    refine wpAny_call (PySem.ExParseError.made_ParseError T I1.kIn hlim (by have := hr.dp; omega) fun h' tk' e d M => ?_)
    show MkP X pins σ Q (.ref e) ⟨h', g, dr, tk', os⟩
    obtain ⟨oe, fv, hoe, hc, hd, hdat, h1⟩ := M.obj
    have hns := M.ns
    obtain ⟨G', g1, g2⟩ := restrict h' fun b => decide (b ≠ e)
    have gk : ∀ b, b ≠ e → G'.get? b = h'.get? b := fun b hb => g1 b (decide_eq_true hb)
    have ge : G'.get? e = none := g2 e (by simp)
    have old : ∀ b o, hp.get? b = some o → G'.get? b = some o := fun b o q => (gk b (Nat.ne_of_lt (Nat.lt_of_lt_of_le (Heap.lt_size q) M.new))).trans (M.keep b o q)
    have ob : ObjOk X.prog X.w (upd H1 d (.xd [(("index" : Str), v)])) G' d (.xd [(("index" : Str), v)]) :=
      ⟨_, hns.at (fun o q => (gk d M.dne).trans q), fun f => relO_ParseError rv f⟩
    have J : Inv X pins σ (upd H1 d (.xd [(("index" : Str), v)])) ⟨G', g, dr, tk', os⟩ := I1.laid (t' := tk') old M.dbig ob
    refine ⟨e, oe, fv, ⟨G', g, dr, tk', os⟩, _, .ref C, some d, rfl, J, fun b o q => ?_, ge, hoe, ⟨hc, hd⟩, hdat, h1, ?_, rfl, I1.bare, raises_own T.exC T.tyC, q1 d (I1.hok.fresh M.dbig)⟩
    · by_cases hb : b = e
      · have q' : G'.get? b = some o := q
        rw [hb, ge] at q'; cases q'
      · exact (gk b hb).symm.trans q
    · rw [upd_ne (Ne.symm M.dne)]
      exact I1.hok.fresh M.new
/-- raise Low(e) -/
def tRaiseParseError (C : Addr) (W : WX) (ta : TA) : TS := fun _ σ H => tMkParseError C ta σ H fun cls d H' => W cls d σ H'
theorem ps_raiseParseError {a : Expr} {ta : TA} {W : WX} {p pos pos2 : Pos} {k : Nat} (hc : X.calm = true) (T : PySem.ExParseError.TxtParseError X.K X.mg C fI) (hr : Room k X.A) (tk : Takes X W) (ha : PA X [a] ta) (hg : Gl X "ParseError" := by rfl)
    (he : starEach (a :: []) X.env = (false, eval a X.env) :: starEach [] X.env := by rfl) (hpl : (backTo pos (starEach [] X.env)).any (·.1) = false := by rfl) :
    PS X (.Raise (some (.Call (.Name "ParseError" p) [a] [] pos)) none pos2) (tRaiseParseError C W ta) := ps_raise hc tk (pmk_ParseError T hr ha hg he hpl)
/-- low.by, low the exception that the suite holds (at a; its class cls, its dict d) -/
def tByParseError (C : Addr) (a : Addr) (cls : Value) (d : Option Addr) (te : TE) : TE := fun σ H Q => te σ H fun x H1 => x = .ref a ∧ cls = .ref C ∧ ∃ (dd : Addr) (v : V), d = some dd ∧ H1 dd = some (.xd [(("index" : Str), v)]) ∧ Q v H1
theorem pe_byParseError {a : Addr} {oe : Obj} {cls : Value} {d : Option Addr} {pn : List (Addr × Obj)} {e : Expr} {te : TE} {pos : Pos} (T : PySem.ExParseError.TxtParseError X.K X.mg C fI) (hz : Zc cls d oe) (hf : ∃ vs, oe.data = .fields vs) (he : PE (X.suite a ((a, oe) :: pn)) e te)
    (hb : attributeBase e "index" X.env (eval e X.env) = eval e X.env := by rfl) :
    PE (X.suite a ((a, oe) :: pn)) (.Attribute e "index" pos) (tByParseError C a cls d te) := by
  refine ⟨fun pins s σ H Q I h => ?_⟩
  refine attr_of hb (thn (he.run pins s σ H _ I h) fun u s1 hh => ?_)
  obtain ⟨x, H1, I1, rx, ex, ec, dd, v, ed, ea, q⟩ := hh
  subst ex
  obtain rfl : u = Value.ref a := rx
  subst ec
  subst ed
  obtain ⟨ha, _⟩ := I1.pin (a, oe) (List.mem_append_left _ List.mem_cons_self)
  obtain ⟨vs, hd⟩ := hf
  have hx : ObjOk X.prog X.w H1 s1.heap dd (.xd [(("index" : Str), v)]) := I1.hok dd _ ea
  obtain ⟨mA, hns, hr⟩ := hx
  obtain ⟨od, ho, hl⟩ := lookIn_ns hns
  have l : List.lookup ("index" : Str) [(("index" : Str), v)] = some v := by simp [List.lookup]
  obtain ⟨u, hu, ru⟩ := RelO.some_of (v := v) (o := mA "index") (by rw [← l]; exact hr "index")
  have J : PySem.W.InstAt s1.heap a oe C (some od) := ⟨ha, hz.1, by unfold PySem.W.notCls; rw [hd] <;> rfl, by rw [hz.2]; exact ho⟩
  exact HandSPX.exc_get I1.kIn J T.ga T.gg T.exC (PySem.W.findObj_own T.hdC T.noN rfl (by rw [hl, hu])) (handed_of ru) ⟨v, H1, I1.tok _, ru, q⟩
end
end L2


namespace My
open PySem PySem.Spec PyProof.Rows L2
/-- X(e) as a value -/
def tValParseError (C : Addr) (ta : TA) : TE := fun σ H Q => ta σ H fun vs H1 => ∃ v, vs = [v] ∧ ∀ d a, H1 d = none → H1 a = none → d ≠ a → Q (.ref a) (upd (upd H1 d (.xd [(("index" : Str), v)])) a (ExD C d a))
theorem pe_valParseError {X : Cx} {C fI : Addr} {e : Expr} {ta : TA} {p pos : Pos} {k : Nat} (T : PySem.ExParseError.TxtParseError X.K X.mg C fI) (hr : Room k X.A) (ha : PA X [e] ta) (hg : Gl X "ParseError" := by rfl)
    (he : starEach (e :: []) X.env = (false, eval e X.env) :: starEach [] X.env := by rfl) (hpl : (backTo pos (starEach [] X.env)).any (·.1) = false := by rfl) : PE X (.Call (.Name "ParseError" p) [e] [] pos) (tValParseError C ta) := by
  refine ⟨fun pins s σ H Q I h => ?_⟩
  refine wpAny_Call_Name_kw (ld_glob I hg T.gC ?_)
  refine PySem.W.callWith_K (h₀ := X.base) I.ok.mod.kin T.kC (thn (ha.run pos pins s σ H _ I h) fun us s1 hh => ?_) he hpl
  obtain ⟨vs, H1, I1, r1, v, ev, q1⟩ := hh
  subst ev
  refine ⟨I1.kIn, ?_⟩
  cases r1 with
  | cons rv rn =>
    rename_i v' us'
    cases rn
    show wpAny _ _ (call (.ref C) [v']) _ _ _
    have hlim := I1.nolimit
    obtain ⟨hp, g, dr, tk, os⟩ := s1
    refine wpAny_call (PySem.ExParseError.made_ParseError T I1.kIn hlim (by have := hr.dp; omega) fun h' tk' e d M => ?_)
    obtain ⟨oe, fv, hoe, hc, hd, hdat, h1⟩ := M.obj
    have ob : ∀ G' : Heap, (∀ o, h'.get? d = some o → G'.get? d = some o) → ObjOk X.prog X.w (upd H1 d (.xd [(("index" : Str), v)])) G' d (.xd [(("index" : Str), v)]) := fun G' gd =>
      ⟨_, M.ns.at gd, fun f => relO_ParseError rv f⟩
    exact made_value I1 M.keep M.new M.dbig M.dne ob hoe hc hd hdat (q1 d e)
end My


set_option Elab.async false
set_option linter.all false
set_option maxRecDepth 100000
set_option maxHeartbeats 4000000
namespace PySem
namespace ExInvalidNumber
abbrev bmInvalidNumber : List Value := [.type "IndexError", .type "LookupError", .type "Exception", .type "BaseException", .type "object"]
open PySem.W PySem.Calls PyProof.Rows PySem.HandSPX
/-! ### the text of __init__ -/
def iA (p1 p2 : Pos) : Arguments := { posonlyargs := [], args := [{ arg := "self", annotation := none, pos := p1 }, { arg := "value", annotation := none, pos := p2 }], vararg := none, kwonlyargs := [], kw_defaults := [], kwarg := none, defaults := [] }
def iB (q1 q2 q3 q4 : Pos) : List Stmt := [.Assign [.Attribute (.Name "self" q1) "value" q2] (.Name "value" q3) q4]
def iS : Scope := { kind := .function, names := [(PySem.Str.ofString "self", .local), (PySem.Str.ofString "value", .local)], isGenerator := false, isCoroutine := false, more := [] }
/-- what the written part says of Low, at C, and of its __init__, at fI -/
structure TxtInvalidNumber (K : Frag) (mg : Str → Option Value) (C fI : Addr) : Prop where
  gC : mg "InvalidNumber" = some (.ref C)
  cls : ∃ nm q N bs bm sn sub ab col dd k0 k1 k2 k3 k5, K.lookup C = some (excClassObj nm q C N bs bm true sn sub ab col dd k0 k1 k2 k3 k5 "IndexError.__new__") ∧ excTail bmInvalidNumber bm = true
  sa : findIn K (.ref C) "__setattr__" = some (some (.builtin "object.__setattr__"))
  ga : findIn K (.ref C) "__getattribute__" = some (some (.builtin "BaseException.__getattribute__"))
  gg : findIn K (.ref C) "__getattr__" = some none
  noN : findIn K (.ref C) "value" = some none
  iC : findIn K (.ref C) "__init__" = some (some (.ref fI))
  tC : typeIn K (.ref fI) = some (.type "function")
  kC : keepIn K (.ref C) = true
  exC : subIn K (.ref C) (.type "BaseException") = some true
  tyC : typeIn K (.ref C) = some (.type "type")
  hdC : hasDictIn K C = true
  te : exmOne K (.ref C) (.ref C) = some true
  fn : ∃ (oc : Value) (od : Option Addr) (doc pm : Value) (an : Option Addr) (cdv ct : Value) (osl : Array (Option Value)) (p1 p2 q1 q2 q3 q4 : Pos),
    K.lookup fI = some ⟨oc, od, .func (fnOf "__init__" "InvalidNumber.__init__" (iA p1 p2) (iB q1 q2 q3 q4) iS .none .none doc pm an cdv ct), osl⟩ ∧ codeIn K cdv "InvalidNumber.__init__" = true
theorem one_size (v : Value) : [v].length ≤ sizeLine := by
  rw [sizeLine_eq]
  exact (by decide : 1 ≤ 16777216)
theorem kept_but {K : Frag} {h h' : Heap} {x : Addr} (X : K.In h) (hx : K.lookup x = none) (k : ∀ b o, b ≠ x → h.get? b = some o → h'.get? b = some o) : K.In h' := fun a o e =>
  k a o (fun z => by rw [z, hx] at e; cases e) (X a o e)
theorem ldC {M : Model} {s : Shared} {name : Str} {scope : Scope} {L a : Addr} {cd : Value} {m : Str → Option Value} {x : Str} {pos : Pos} {v : Value} {Q : Value → Shared → Prop} {A : Around} {E : Value → Shared → Prop} (hn : s.heap.Ns L m) (hv : m x = some v) (h : Q v s)
    (hk : scope.kind = .function := by rfl) (hl : (envOfC name scope L a cd).kindOf x = some .local := by rfl) (hd : (x == ("__debug__" : Str)) = false := by decide) :
    wpAny M A (eval (.Name x pos) (envOfC name scope L a cd)) Q E s := wpAny_Name (wpAny_loadName_local hk hl hn hv h) hd
/-- what __init__ leaves of a fresh exception at x -/
structure InitEnd (h h' : Heap) (x C dx t1 : Addr) (v : Value) : Prop where
  keep : ∀ b o, b ≠ x → h.get? b = some o → h'.get? b = some o
  obj : h'.get? x = some { cls := .ref C, dict := some dx, data := .fields #[.ref t1, .none, .none, .none, .bool false, .none] }
  dbig : h.objs.size ≤ dx
  dne : dx ≠ x
  ns : h'.Ns1 dx (fun y => if y = "value" then some v else none)
/-- a made Low -/
structure OwnMade (h h' : Heap) (e C d : Addr) (v : Value) : Prop where
  keep : ∀ b o, h.get? b = some o → h'.get? b = some o
  new : h.objs.size ≤ e
  obj : ∃ oe vs, h'.get? e = some oe ∧ oe.cls = .ref C ∧ oe.dict = some d ∧ oe.data = .fields vs ∧ vs[1]? = some .none
  dbig : h.objs.size ≤ d
  dne : d ≠ e
  ns : h'.Ns1 d (fun y => if y = "value" then some v else none)
section
variable {prog : Program} {w : World} {A : Around} {E : Value → Shared → Prop} {R : Result → Shared → Prop} {s : Shared} {K : Frag} {mg : Str → Option Value} {C fI : Addr}
theorem init_InvalidNumber (T : TxtInvalidNumber K mg C fI) {x t0 : Addr} {v : Value} (X : K.In s.heap) (hlim : s.heap.NoLimit) (hx : s.heap.get? x = some (excO C t0)) (hnx : K.lookup x = none) (hroom : A.depth < recursionLimit)
    (hq : ∀ h' tk dx, InitEnd s.heap h' x C dx t0 v → R (.ok (.ret .none)) { s with heap := h', toks := tk }) :
    codeAny (model prog w) A (.call (.ref fI) ⟨[.ref x, v], []⟩) R s := by
  obtain ⟨oc, od, doc, pm, an, cdv, ct, osl, p1, p2, q1, q2, q3, q4, ho, hcd⟩ := T.fn
  obtain ⟨nm, q, N, bs, bm, sn, sub, ab, col, dd, k0, k1, k2, k3, k5, hC, hbm⟩ := T.cls
  have hcl : clsIn K C = some { name := nm, bases := bs, mro := .ref C :: bm, ns := N, qualname := q, hasDict := true, slotNames := sn, subclasses := sub, abstract := ab, collection := col, hasDel := false } := by unfold clsIn; rw [hC] <;> rfl
  refine Att.call_fn (binds := [("self", .ref x), ("value", v)]) X hlim ho hcd hroom (BindsTo.of_eq (by first | rfl | with_unfolding_all rfl)) (by first | rfl | decide | with_unfolding_all rfl) (fun s₁ IC => ?_) rfl rfl rfl
  obtain ⟨h₁, tk₁, rfl⟩ := IC.toInCall.same
  have k : ∀ b o, s.heap.get? b = some o → h₁.get? b = some o := IC.toInCall.keep
  have hn := IC.toInCall.ns
  have hxL : s.heap.objs.size ≠ x := Nat.ne_of_gt (Heap.lt_size hx)
  have X₁ : K.In h₁ := X.keeps k
  have hx₁ := k _ _ hx
  -- self.by = by
  show wpAny _ _ (execs _ _) _ _ _
  refine wpAny_execs_cons (plainObj_wpAny_Assign_Attribute ?_)
  refine ldC (v := v) hn (by first | rfl | with_unfolding_all rfl | kernel_rfl) (ldC (v := .ref x) hn (by first | rfl | with_unfolding_all rfl | kernel_rfl) ?_)
  refine set_plain X₁ (ox := excO C t0) (od := none) ⟨hx₁, rfl, rfl, trivial⟩ T.sa ?_
  have over : excOver K C bmInvalidNumber = true := by
    unfold excOver
    rw [hcl]
    show ((C == C) && excTail bmInvalidNumber bm) = true
    rw [hbm, beq_self_eq_true]
    rfl
  refine ExAny.first_field F.store_IndexError X₁ hx₁ hcl rfl over T.noN (fun h₃ tk₃ dx k₃ dn dne hx₃ hn₃ => ?_)
  show wpAny _ _ (execs _ _) _ _ _
  have z : s.heap.objs.size < h₁.objs.size := hn.lt
  exact wpAny_execs_nil (hq h₃ tk₃ dx ⟨fun b o hb e => k₃ b o hb (k b o e), hx₃, Nat.le_of_lt (Nat.lt_of_lt_of_le z dn), dne, hn₃⟩)
theorem made_InvalidNumber (T : TxtInvalidNumber K mg C fI) {v : Value} (X : K.In s.heap) (hlim : s.heap.NoLimit) (hroom : A.depth + 1 < recursionLimit)
    (hq : ∀ h' tk e d, OwnMade s.heap h' e C d v → R (.ok (.ret (.ref e))) { s with heap := h', toks := tk }) :
    codeAny (model prog w) A (.call (.ref C) ⟨[v], []⟩) R s := by
  obtain ⟨nm, q, N, bs, bm, sn, sub, ab, col, dd, k0, k1, k2, k3, k5, hC, hbm⟩ := T.cls
  obtain ⟨hp, g, dr, tk, os⟩ := s
  have k : ∀ b o, hp.get? b = some o → ((hp.push (kdv_tup [v])).push (excO C hp.objs.size)).get? b = some o := fun b o e => Heap.get?_push_of_some _ (Heap.get?_push_of_some _ e)
  have hget : ((hp.push (kdv_tup [v])).push (excO C hp.objs.size)).get? (hp.objs.size + 1) = some (excO C hp.objs.size) := by heap_get
  have hnx : K.lookup (hp.objs.size + 1) = none := by
    cases e : K.lookup (hp.objs.size + 1) with
    | none => rfl
    | some o =>
      have z : hp.get? (hp.objs.size + 1) = some o := X _ _ e
      exact absurd (Nat.lt_of_succ_lt (Heap.lt_size z)) (Nat.lt_irrefl _)
  refine call_own F.excBase_IndexError (fun X => excTail_contains X bm hbm) (X _ _ hC) (looks_findIn X T.iC) (fun self => bind_fn X self T.tC) (one_size v) ?_
  refine init_InvalidNumber (s := ⟨(hp.push (kdv_tup [v])).push (excO C hp.objs.size), g, dr, tk, os⟩) T (X.keeps k) (hlim.keeps k) hget hnx ?_ fun h' tk' dx ⟨k', hx, dn, dne, hns⟩ => ?_
  · show A.depth + 1 < recursionLimit
    exact hroom
  · have old : ∀ b o, hp.get? b = some o → h'.get? b = some o := fun b o e => k' b o (Nat.ne_of_lt (Nat.lt_succ_of_lt (Heap.lt_size e))) (k b o e)
    have z : hp.objs.size + 1 + 1 ≤ dx := by
      first
        | (simpa only [Heap.size_push] using dn)
        | exact dn
        | (have q := dn; rw [Heap.size_push, Heap.size_push] at q; exact q)
    exact ⟨rfl, hq h' tk' (hp.objs.size + 1) dx ⟨old, Nat.le_succ _, ⟨_, _, hx, rfl, rfl, rfl, rfl⟩, Nat.le_trans (Nat.le_trans (Nat.le_succ _) (Nat.le_succ _)) z, dne, hns⟩⟩
end
end ExInvalidNumber
end PySem
namespace L2
open PySem PySem.Spec PyProof.Rows
theorem relO_InvalidNumber {v : V} {v' : Value} (r : RelV v v') (f : Str) : RelO (List.lookup f [(("value" : Str), v)]) (if f = "value" then some v' else none) := by
  by_cases hw : f = "value"
  · subst hw
    rw [if_pos rfl]
    have q : List.lookup ("value" : Str) [(("value" : Str), v)] = some v := by simp [List.lookup]
    rw [q]
    exact r
  · rw [if_neg hw]
    have qw : (f == ("value" : Str)) = false := by simpa using hw
    have q2 : List.lookup f [(("value" : Str), v)] = none := by simp [List.lookup, qw]
    rw [q2]
    trivial
section
variable {X : Cx} {C fI : Addr}
/-- Low(e) -/
def tMkInvalidNumber (C : Addr) (ta : TA) : St → Hp → XK → Prop := fun σ H Q => ta σ H fun vs H1 => ∃ v, vs = [v] ∧ ∀ d, H1 d = none → Q (.ref C) (some d) (upd H1 d (.xd [(("value" : Str), v)]))
theorem pmk_InvalidNumber {a : Expr} {ta : TA} {p pos : Pos} {k : Nat} (T : PySem.ExInvalidNumber.TxtInvalidNumber X.K X.mg C fI) (hr : Room k X.A) (ha : PA X [a] ta) (hg : Gl X "InvalidNumber" := by rfl)
    (he : starEach (a :: []) X.env = (false, eval a X.env) :: starEach [] X.env := by rfl) (hpl : (backTo pos (starEach [] X.env)).any (·.1) = false := by rfl) :
    PMk X (.Call (.Name "InvalidNumber" p) [a] [] pos) (tMkInvalidNumber C ta) := by
  intro pins s σ H Q I h
  refine wpAny_Call_Name_kw (ld_glob I hg T.gC ?_)
  refine PySem.W.callWith_K (h₀ := X.base) I.ok.mod.kin T.kC (thn (ha.run pos pins s σ H _ I h) fun us s1 hh => ?_) he hpl
  obtain ⟨vs, H1, I1, r1, v, ev, q1⟩ := hh
  subst ev
  refine ⟨I1.kIn, ?_⟩
  cases r1 with
  | cons rv rn =>
    rename_i v' us'
    cases rn
    show wpAny _ _ (call (.ref C) [v']) _ _ _
    have hlim := I1.nolimit
    obtain ⟨hp, g, dr, tk, os⟩ := s1
    refine wpAny_call (PySem.ExInvalidNumber.made_InvalidNumber T I1.kIn hlim (by have := hr.dp; omega) fun h' tk' e d M => ?_)
    show MkP X pins σ Q (.ref e) ⟨h', g, dr, tk', os⟩
    obtain ⟨oe, fv, hoe, hc, hd, hdat, h1⟩ := M.obj
    have hns := M.ns
    obtain ⟨G', g1, g2⟩ := restrict h' fun b => decide (b ≠ e)
    have gk : ∀ b, b ≠ e → G'.get? b = h'.get? b := fun b hb => g1 b (decide_eq_true hb)
    have ge : G'.get? e = none := g2 e (by simp)
    have old : ∀ b o, hp.get? b = some o → G'.get? b = some o := fun b o q => (gk b (Nat.ne_of_lt (Nat.lt_of_lt_of_le (Heap.lt_size q) M.new))).trans (M.keep b o q)
    have ob : ObjOk X.prog X.w (upd H1 d (.xd [(("value" : Str), v)])) G' d (.xd [(("value" : Str), v)]) :=
      ⟨_, hns.at (fun o q => (gk d M.dne).trans q), fun f => relO_InvalidNumber rv f⟩
    have J : Inv X pins σ (upd H1 d (.xd [(("value" : Str), v)])) ⟨G', g, dr, tk', os⟩ := I1.laid (t' := tk') old M.dbig ob
    refine ⟨e, oe, fv, ⟨G', g, dr, tk', os⟩, _, .ref C, some d, rfl, J, fun b o q => ?_, ge, hoe, ⟨hc, hd⟩, hdat, h1, ?_, rfl, I1.bare, raises_own T.exC T.tyC, q1 d (I1.hok.fresh M.dbig)⟩
    · by_cases hb : b = e
      · have q' : G'.get? b = some o := q
        rw [hb, ge] at q'; cases q'
      · exact (gk b hb).symm.trans q
    · rw [upd_ne (Ne.symm M.dne)]
      exact I1.hok.fresh M.new
/-- raise Low(e) -/
def tRaiseInvalidNumber (C : Addr) (W : WX) (ta : TA) : TS := fun _ σ H => tMkInvalidNumber C ta σ H fun cls d H' => W cls d σ H'
theorem ps_raiseInvalidNumber {a : Expr} {ta : TA} {W : WX} {p pos pos2 : Pos} {k : Nat} (hc : X.calm = true) (T : PySem.ExInvalidNumber.TxtInvalidNumber X.K X.mg C fI) (hr : Room k X.A) (tk : Takes X W) (ha : PA X [a] ta) (hg : Gl X "InvalidNumber" := by rfl)
    (he : starEach (a :: []) X.env = (false, eval a X.env) :: starEach [] X.env := by rfl) (hpl : (backTo pos (starEach [] X.env)).any (·.1) = false := by rfl) :
    PS X (.Raise (some (.Call (.Name "InvalidNumber" p) [a] [] pos)) none pos2) (tRaiseInvalidNumber C W ta) := ps_raise hc tk (pmk_InvalidNumber T hr ha hg he hpl)
/-- low.by, low the exception that the suite holds (at a; its class cls, its dict d) -/
def tByInvalidNumber (C : Addr) (a : Addr) (cls : Value) (d : Option Addr) (te : TE) : TE := fun σ H Q => te σ H fun x H1 => x = .ref a ∧ cls = .ref C ∧ ∃ (dd : Addr) (v : V), d = some dd ∧ H1 dd = some (.xd [(("value" : Str), v)]) ∧ Q v H1
theorem pe_byInvalidNumber {a : Addr} {oe : Obj} {cls : Value} {d : Option Addr} {pn : List (Addr × Obj)} {e : Expr} {te : TE} {pos : Pos} (T : PySem.ExInvalidNumber.TxtInvalidNumber X.K X.mg C fI) (hz : Zc cls d oe) (hf : ∃ vs, oe.data = .fields vs) (he : PE (X.suite a ((a, oe) :: pn)) e te)
    (hb : attributeBase e "value" X.env (eval e X.env) = eval e X.env := by rfl) :
    PE (X.suite a ((a, oe) :: pn)) (.Attribute e "value" pos) (tByInvalidNumber C a cls d te) := by
  refine ⟨fun pins s σ H Q I h => ?_⟩
  refine attr_of hb (thn (he.run pins s σ H _ I h) fun u s1 hh => ?_)
  obtain ⟨x, H1, I1, rx, ex, ec, dd, v, ed, ea, q⟩ := hh
  subst ex
  obtain rfl : u = Value.ref a := rx
  subst ec
  subst ed
  obtain ⟨ha, _⟩ := I1.pin (a, oe) (List.mem_append_left _ List.mem_cons_self)
  obtain ⟨vs, hd⟩ := hf
  have hx : ObjOk X.prog X.w H1 s1.heap dd (.xd [(("value" : Str), v)]) := I1.hok dd _ ea
  obtain ⟨mA, hns, hr⟩ := hx
  obtain ⟨od, ho, hl⟩ := lookIn_ns hns
  have l : List.lookup ("value" : Str) [(("value" : Str), v)] = some v := by simp [List.lookup]
  obtain ⟨u, hu, ru⟩ := RelO.some_of (v := v) (o := mA "value") (by rw [← l]; exact hr "value")
  have J : PySem.W.InstAt s1.heap a oe C (some od) := ⟨ha, hz.1, by unfold PySem.W.notCls; rw [hd] <;> rfl, by rw [hz.2]; exact ho⟩
  exact HandSPX.exc_get I1.kIn J T.ga T.gg T.exC (PySem.W.findObj_own T.hdC T.noN rfl (by rw [hl, hu])) (handed_of ru) ⟨v, H1, I1.tok _, ru, q⟩
end
end L2


namespace My
open PySem PySem.Spec PyProof.Rows L2
/-- X(e) as a value -/
def tValInvalidNumber (C : Addr) (ta : TA) : TE := fun σ H Q => ta σ H fun vs H1 => ∃ v, vs = [v] ∧ ∀ d a, H1 d = none → H1 a = none → d ≠ a → Q (.ref a) (upd (upd H1 d (.xd [(("value" : Str), v)])) a (ExD C d a))
theorem pe_valInvalidNumber {X : Cx} {C fI : Addr} {e : Expr} {ta : TA} {p pos : Pos} {k : Nat} (T : PySem.ExInvalidNumber.TxtInvalidNumber X.K X.mg C fI) (hr : Room k X.A) (ha : PA X [e] ta) (hg : Gl X "InvalidNumber" := by rfl)
    (he : starEach (e :: []) X.env = (false, eval e X.env) :: starEach [] X.env := by rfl) (hpl : (backTo pos (starEach [] X.env)).any (·.1) = false := by rfl) : PE X (.Call (.Name "InvalidNumber" p) [e] [] pos) (tValInvalidNumber C ta) := by
  refine ⟨fun pins s σ H Q I h => ?_⟩
  refine wpAny_Call_Name_kw (ld_glob I hg T.gC ?_)
  refine PySem.W.callWith_K (h₀ := X.base) I.ok.mod.kin T.kC (thn (ha.run pos pins s σ H _ I h) fun us s1 hh => ?_) he hpl
  obtain ⟨vs, H1, I1, r1, v, ev, q1⟩ := hh
  subst ev
  refine ⟨I1.kIn, ?_⟩
  cases r1 with
  | cons rv rn =>
    rename_i v' us'
    cases rn
    show wpAny _ _ (call (.ref C) [v']) _ _ _
    have hlim := I1.nolimit
    obtain ⟨hp, g, dr, tk, os⟩ := s1
    refine wpAny_call (PySem.ExInvalidNumber.made_InvalidNumber T I1.kIn hlim (by have := hr.dp; omega) fun h' tk' e d M => ?_)
    obtain ⟨oe, fv, hoe, hc, hd, hdat, h1⟩ := M.obj
    have ob : ∀ G' : Heap, (∀ o, h'.get? d = some o → G'.get? d = some o) → ObjOk X.prog X.w (upd H1 d (.xd [(("value" : Str), v)])) G' d (.xd [(("value" : Str), v)]) := fun G' gd =>
      ⟨_, M.ns.at gd, fun f => relO_InvalidNumber rv f⟩
    exact made_value I1 M.keep M.new M.dbig M.dne ob hoe hc hd hdat (q1 d e)
end My


set_option Elab.async false
set_option linter.all false
set_option maxRecDepth 100000
set_option maxHeartbeats 4000000
namespace PySem
namespace ExUnknownName
abbrev bmUnknownName : List Value := [.type "KeyError", .type "LookupError", .type "Exception", .type "BaseException", .type "object"]
open PySem.W PySem.Calls PyProof.Rows PySem.HandSPX
/-! ### the text of __init__ -/
def iA (p1 p2 : Pos) : Arguments := { posonlyargs := [], args := [{ arg := "self", annotation := none, pos := p1 }, { arg := "name", annotation := none, pos := p2 }], vararg := none, kwonlyargs := [], kw_defaults := [], kwarg := none, defaults := [] }
def iB (q1 q2 q3 q4 : Pos) : List Stmt := [.Assign [.Attribute (.Name "self" q1) "name" q2] (.Name "name" q3) q4]
def iS : Scope := { kind := .function, names := [(PySem.Str.ofString "self", .local), (PySem.Str.ofString "name", .local)], isGenerator := false, isCoroutine := false, more := [] }
/-- what the written part says of Low, at C, and of its __init__, at fI -/
structure TxtUnknownName (K : Frag) (mg : Str → Option Value) (C fI : Addr) : Prop where
  gC : mg "UnknownName" = some (.ref C)
  cls : ∃ nm q N bs bm sn sub ab col dd k0 k1 k2 k3 k5, K.lookup C = some (excClassObj nm q C N bs bm true sn sub ab col dd k0 k1 k2 k3 k5 "LookupError.__new__") ∧ excTail bmUnknownName bm = true
  sa : findIn K (.ref C) "__setattr__" = some (some (.builtin "object.__setattr__"))
  ga : findIn K (.ref C) "__getattribute__" = some (some (.builtin "BaseException.__getattribute__"))
  gg : findIn K (.ref C) "__getattr__" = some none
  noN : findIn K (.ref C) "name" = some none
  iC : findIn K (.ref C) "__init__" = some (some (.ref fI))
  tC : typeIn K (.ref fI) = some (.type "function")
  kC : keepIn K (.ref C) = true
  exC : subIn K (.ref C) (.type "BaseException") = some true
  tyC : typeIn K (.ref C) = some (.type "type")
  hdC : hasDictIn K C = true
  te : exmOne K (.ref C) (.ref C) = some true
  fn : ∃ (oc : Value) (od : Option Addr) (doc pm : Value) (an : Option Addr) (cdv ct : Value) (osl : Array (Option Value)) (p1 p2 q1 q2 q3 q4 : Pos),
    K.lookup fI = some ⟨oc, od, .func (fnOf "__init__" "UnknownName.__init__" (iA p1 p2) (iB q1 q2 q3 q4) iS .none .none doc pm an cdv ct), osl⟩ ∧ codeIn K cdv "UnknownName.__init__" = true
theorem one_size (v : Value) : [v].length ≤ sizeLine := by
  rw [sizeLine_eq]
  exact (by decide : 1 ≤ 16777216)
theorem kept_but {K : Frag} {h h' : Heap} {x : Addr} (X : K.In h) (hx : K.lookup x = none) (k : ∀ b o, b ≠ x → h.get? b = some o → h'.get? b = some o) : K.In h' := fun a o e =>
  k a o (fun z => by rw [z, hx] at e; cases e) (X a o e)
theorem ldC {M : Model} {s : Shared} {name : Str} {scope : Scope} {L a : Addr} {cd : Value} {m : Str → Option Value} {x : Str} {pos : Pos} {v : Value} {Q : Value → Shared → Prop} {A : Around} {E : Value → Shared → Prop} (hn : s.heap.Ns L m) (hv : m x = some v) (h : Q v s)
    (hk : scope.kind = .function := by rfl) (hl : (envOfC name scope L a cd).kindOf x = some .local := by rfl) (hd : (x == ("__debug__" : Str)) = false := by decide) :
    wpAny M A (eval (.Name x pos) (envOfC name scope L a cd)) Q E s := wpAny_Name (wpAny_loadName_local hk hl hn hv h) hd
/-- what __init__ leaves of a fresh exception at x -/
structure InitEnd (h h' : Heap) (x C dx t1 : Addr) (v : Value) : Prop where
  keep : ∀ b o, b ≠ x → h.get? b = some o → h'.get? b = some o
  obj : h'.get? x = some { cls := .ref C, dict := some dx, data := .fields #[.ref t1, .none, .none, .none, .bool false, .none] }
  dbig : h.objs.size ≤ dx
  dne : dx ≠ x
  ns : h'.Ns1 dx (fun y => if y = "name" then some v else none)
/-- a made Low -/
structure OwnMade (h h' : Heap) (e C d : Addr) (v : Value) : Prop where
  keep : ∀ b o, h.get? b = some o → h'.get? b = some o
  new : h.objs.size ≤ e
  obj : ∃ oe vs, h'.get? e = some oe ∧ oe.cls = .ref C ∧ oe.dict = some d ∧ oe.data = .fields vs ∧ vs[1]? = some .none
  dbig : h.objs.size ≤ d
  dne : d ≠ e
  ns : h'.Ns1 d (fun y => if y = "name" then some v else none)
section
variable {prog : Program} {w : World} {A : Around} {E : Value → Shared → Prop} {R : Result → Shared → Prop} {s : Shared} {K : Frag} {mg : Str → Option Value} {C fI : Addr}
theorem init_UnknownName (T : TxtUnknownName K mg C fI) {x t0 : Addr} {v : Value} (X : K.In s.heap) (hlim : s.heap.NoLimit) (hx : s.heap.get? x = some (excO C t0)) (hnx : K.lookup x = none) (hroom : A.depth < recursionLimit)
    (hq : ∀ h' tk dx, InitEnd s.heap h' x C dx t0 v → R (.ok (.ret .none)) { s with heap := h', toks := tk }) :
    codeAny (model prog w) A (.call (.ref fI) ⟨[.ref x, v], []⟩) R s := by
  obtain ⟨oc, od, doc, pm, an, cdv, ct, osl, p1, p2, q1, q2, q3, q4, ho, hcd⟩ := T.fn
  obtain ⟨nm, q, N, bs, bm, sn, sub, ab, col, dd, k0, k1, k2, k3, k5, hC, hbm⟩ := T.cls
  have hcl : clsIn K C = some { name := nm, bases := bs, mro := .ref C :: bm, ns := N, qualname := q, hasDict := true, slotNames := sn, subclasses := sub, abstract := ab, collection := col, hasDel := false } := by unfold clsIn; rw [hC] <;> rfl
  refine Att.call_fn (binds := [("self", .ref x), ("name", v)]) X hlim ho hcd hroom (BindsTo.of_eq (by first | rfl | with_unfolding_all rfl)) (by first | rfl | decide | with_unfolding_all rfl) (fun s₁ IC => ?_) rfl rfl rfl
  obtain ⟨h₁, tk₁, rfl⟩ := IC.toInCall.same
  have k : ∀ b o, s.heap.get? b = some o → h₁.get? b = some o := IC.toInCall.keep
  have hn := IC.toInCall.ns
  have hxL : s.heap.objs.size ≠ x := Nat.ne_of_gt (Heap.lt_size hx)
  have X₁ : K.In h₁ := X.keeps k
  have hx₁ := k _ _ hx
  -- self.by = by
  show wpAny _ _ (execs _ _) _ _ _
  refine wpAny_execs_cons (plainObj_wpAny_Assign_Attribute ?_)
  refine ldC (v := v) hn (by first | rfl | with_unfolding_all rfl | kernel_rfl) (ldC (v := .ref x) hn (by first | rfl | with_unfolding_all rfl | kernel_rfl) ?_)
  refine set_plain X₁ (ox := excO C t0) (od := none) ⟨hx₁, rfl, rfl, trivial⟩ T.sa ?_
  have over : excOver K C bmUnknownName = true := by
    unfold excOver
    rw [hcl]
    show ((C == C) && excTail bmUnknownName bm) = true
    rw [hbm, beq_self_eq_true]
    rfl
  refine ExAny.first_field F.store_KeyError X₁ hx₁ hcl rfl over T.noN (fun h₃ tk₃ dx k₃ dn dne hx₃ hn₃ => ?_)
  show wpAny _ _ (execs _ _) _ _ _
  have z : s.heap.objs.size < h₁.objs.size := hn.lt
  exact wpAny_execs_nil (hq h₃ tk₃ dx ⟨fun b o hb e => k₃ b o hb (k b o e), hx₃, Nat.le_of_lt (Nat.lt_of_lt_of_le z dn), dne, hn₃⟩)
theorem made_UnknownName (T : TxtUnknownName K mg C fI) {v : Value} (X : K.In s.heap) (hlim : s.heap.NoLimit) (hroom : A.depth + 1 < recursionLimit)
    (hq : ∀ h' tk e d, OwnMade s.heap h' e C d v → R (.ok (.ret (.ref e))) { s with heap := h', toks := tk }) :
    codeAny (model prog w) A (.call (.ref C) ⟨[v], []⟩) R s := by
  obtain ⟨nm, q, N, bs, bm, sn, sub, ab, col, dd, k0, k1, k2, k3, k5, hC, hbm⟩ := T.cls
  obtain ⟨hp, g, dr, tk, os⟩ := s
  have k : ∀ b o, hp.get? b = some o → ((hp.push (kdv_tup [v])).push (excO C hp.objs.size)).get? b = some o := fun b o e => Heap.get?_push_of_some _ (Heap.get?_push_of_some _ e)
  have hget : ((hp.push (kdv_tup [v])).push (excO C hp.objs.size)).get? (hp.objs.size + 1) = some (excO C hp.objs.size) := by heap_get
  have hnx : K.lookup (hp.objs.size + 1) = none := by
    cases e : K.lookup (hp.objs.size + 1) with
    | none => rfl
    | some o =>
      have z : hp.get? (hp.objs.size + 1) = some o := X _ _ e
      exact absurd (Nat.lt_of_succ_lt (Heap.lt_size z)) (Nat.lt_irrefl _)
  refine KeyX.key_call ⟨by rw [excTail_contains _ bm hbm]; decide +kernel, by rw [excTail_contains _ bm hbm]; decide +kernel, by rw [excTail_contains _ bm hbm]; decide +kernel⟩ (X _ _ hC) (looks_findIn X T.iC) (fun self => bind_fn X self T.tC) (one_size v) ?_
  refine init_UnknownName (s := ⟨(hp.push (kdv_tup [v])).push (excO C hp.objs.size), g, dr, tk, os⟩) T (X.keeps k) (hlim.keeps k) hget hnx ?_ fun h' tk' dx ⟨k', hx, dn, dne, hns⟩ => ?_
  · show A.depth + 1 < recursionLimit
    exact hroom
  · have old : ∀ b o, hp.get? b = some o → h'.get? b = some o := fun b o e => k' b o (Nat.ne_of_lt (Nat.lt_succ_of_lt (Heap.lt_size e))) (k b o e)
    have z : hp.objs.size + 1 + 1 ≤ dx := by
      first
        | (simpa only [Heap.size_push] using dn)
        | exact dn
        | (have q := dn; rw [Heap.size_push, Heap.size_push] at q; exact q)
    exact ⟨rfl, hq h' tk' (hp.objs.size + 1) dx ⟨old, Nat.le_succ _, ⟨_, _, hx, rfl, rfl, rfl, rfl⟩, Nat.le_trans (Nat.le_trans (Nat.le_succ _) (Nat.le_succ _)) z, dne, hns⟩⟩
end
end ExUnknownName
end PySem
namespace L2
open PySem PySem.Spec PyProof.Rows
theorem relO_UnknownName {v : V} {v' : Value} (r : RelV v v') (f : Str) : RelO (List.lookup f [(("name" : Str), v)]) (if f = "name" then some v' else none) := by
  by_cases hw : f = "name"
  · subst hw
    rw [if_pos rfl]
    have q : List.lookup ("name" : Str) [(("name" : Str), v)] = some v := by simp [List.lookup]
    rw [q]
    exact r
  · rw [if_neg hw]
    have qw : (f == ("name" : Str)) = false := by simpa using hw
    have q2 : List.lookup f [(("name" : Str), v)] = none := by simp [List.lookup, qw]
    rw [q2]
    trivial
section
variable {X : Cx} {C fI : Addr}
/-- Low(e) -/
def tMkUnknownName (C : Addr) (ta : TA) : St → Hp → XK → Prop := fun σ H Q => ta σ H fun vs H1 => ∃ v, vs = [v] ∧ ∀ d, H1 d = none → Q (.ref C) (some d) (upd H1 d (.xd [(("name" : Str), v)]))
theorem pmk_UnknownName {a : Expr} {ta : TA} {p pos : Pos} {k : Nat} (T : PySem.ExUnknownName.TxtUnknownName X.K X.mg C fI) (hr : Room k X.A) (ha : PA X [a] ta) (hg : Gl X "UnknownName" := by rfl)
    (he : starEach (a :: []) X.env = (false, eval a X.env) :: starEach [] X.env := by rfl) (hpl : (backTo pos (starEach [] X.env)).any (·.1) = false := by rfl) :
    PMk X (.Call (.Name "UnknownName" p) [a] [] pos) (tMkUnknownName C ta) := by
  intro pins s σ H Q I h
  refine wpAny_Call_Name_kw (ld_glob I hg T.gC ?_)
  refine PySem.W.callWith_K (h₀ := X.base) I.ok.mod.kin T.kC (thn (ha.run pos pins s σ H _ I h) fun us s1 hh => ?_) he hpl
  obtain ⟨vs, H1, I1, r1, v, ev, q1⟩ := hh
  subst ev
  refine ⟨I1.kIn, ?_⟩
  cases r1 with
  | cons rv rn =>
    rename_i v' us'
    cases rn
    show wpAny _ _ (call (.ref C) [v']) _ _ _
    have hlim := I1.nolimit
    obtain ⟨hp, g, dr, tk, os⟩ := s1
    refine wpAny_call (PySem.ExUnknownName.made_UnknownName T I1.kIn hlim (by have := hr.dp; omega) fun h' tk' e d M => ?_)
    show MkP X pins σ Q (.ref e) ⟨h', g, dr, tk', os⟩
    obtain ⟨oe, fv, hoe, hc, hd, hdat, h1⟩ := M.obj
    have hns := M.ns
    obtain ⟨G', g1, g2⟩ := restrict h' fun b => decide (b ≠ e)
    have gk : ∀ b, b ≠ e → G'.get? b = h'.get? b := fun b hb => g1 b (decide_eq_true hb)
    have ge : G'.get? e = none := g2 e (by simp)
    have old : ∀ b o, hp.get? b = some o → G'.get? b = some o := fun b o q => (gk b (Nat.ne_of_lt (Nat.lt_of_lt_of_le (Heap.lt_size q) M.new))).trans (M.keep b o q)
    have ob : ObjOk X.prog X.w (upd H1 d (.xd [(("name" : Str), v)])) G' d (.xd [(("name" : Str), v)]) :=
      ⟨_, hns.at (fun o q => (gk d M.dne).trans q), fun f => relO_UnknownName rv f⟩
    have J : Inv X pins σ (upd H1 d (.xd [(("name" : Str), v)])) ⟨G', g, dr, tk', os⟩ := I1.laid (t' := tk') old M.dbig ob
    refine ⟨e, oe, fv, ⟨G', g, dr, tk', os⟩, _, .ref C, some d, rfl, J, fun b o q => ?_, ge, hoe, ⟨hc, hd⟩, hdat, h1, ?_, rfl, I1.bare, raises_own T.exC T.tyC, q1 d (I1.hok.fresh M.dbig)⟩
    · by_cases hb : b = e
      · have q' : G'.get? b = some o := q
        rw [hb, ge] at q'; cases q'
      · exact (gk b hb).symm.trans q
    · rw [upd_ne (Ne.symm M.dne)]
      exact I1.hok.fresh M.new
/-- raise Low(e) -/
def tRaiseUnknownName (C : Addr) (W : WX) (ta : TA) : TS := fun _ σ H => tMkUnknownName C ta σ H fun cls d H' => W cls d σ H'
theorem ps_raiseUnknownName {a : Expr} {ta : TA} {W : WX} {p pos pos2 : Pos} {k : Nat} (hc : X.calm = true) (T : PySem.ExUnknownName.TxtUnknownName X.K X.mg C fI) (hr : Room k X.A) (tk : Takes X W) (ha : PA X [a] ta) (hg : Gl X "UnknownName" := by rfl)
    (he : starEach (a :: []) X.env = (false, eval a X.env) :: starEach [] X.env := by rfl) (hpl : (backTo pos (starEach [] X.env)).any (·.1) = false := by rfl) :
    PS X (.Raise (some (.Call (.Name "UnknownName" p) [a] [] pos)) none pos2) (tRaiseUnknownName C W ta) := ps_raise hc tk (pmk_UnknownName T hr ha hg he hpl)
/-- low.by, low the exception that the suite holds (at a; its class cls, its dict d) -/
def tByUnknownName (C : Addr) (a : Addr) (cls : Value) (d : Option Addr) (te : TE) : TE := fun σ H Q => te σ H fun x H1 => x = .ref a ∧ cls = .ref C ∧ ∃ (dd : Addr) (v : V), d = some dd ∧ H1 dd = some (.xd [(("name" : Str), v)]) ∧ Q v H1
theorem pe_byUnknownName {a : Addr} {oe : Obj} {cls : Value} {d : Option Addr} {pn : List (Addr × Obj)} {e : Expr} {te : TE} {pos : Pos} (T : PySem.ExUnknownName.TxtUnknownName X.K X.mg C fI) (hz : Zc cls d oe) (hf : ∃ vs, oe.data = .fields vs) (he : PE (X.suite a ((a, oe) :: pn)) e te)
    (hb : attributeBase e "name" X.env (eval e X.env) = eval e X.env := by rfl) :
    PE (X.suite a ((a, oe) :: pn)) (.Attribute e "name" pos) (tByUnknownName C a cls d te) := by
  refine ⟨fun pins s σ H Q I h => ?_⟩
  refine attr_of hb (thn (he.run pins s σ H _ I h) fun u s1 hh => ?_)
  obtain ⟨x, H1, I1, rx, ex, ec, dd, v, ed, ea, q⟩ := hh
  subst ex
  obtain rfl : u = Value.ref a := rx
  subst ec
  subst ed
  obtain ⟨ha, _⟩ := I1.pin (a, oe) (List.mem_append_left _ List.mem_cons_self)
  obtain ⟨vs, hd⟩ := hf
  have hx : ObjOk X.prog X.w H1 s1.heap dd (.xd [(("name" : Str), v)]) := I1.hok dd _ ea
  obtain ⟨mA, hns, hr⟩ := hx
  obtain ⟨od, ho, hl⟩ := lookIn_ns hns
  have l : List.lookup ("name" : Str) [(("name" : Str), v)] = some v := by simp [List.lookup]
  obtain ⟨u, hu, ru⟩ := RelO.some_of (v := v) (o := mA "name") (by rw [← l]; exact hr "name")
  have J : PySem.W.InstAt s1.heap a oe C (some od) := ⟨ha, hz.1, by unfold PySem.W.notCls; rw [hd] <;> rfl, by rw [hz.2]; exact ho⟩
  exact HandSPX.exc_get I1.kIn J T.ga T.gg T.exC (PySem.W.findObj_own T.hdC T.noN rfl (by rw [hl, hu])) (handed_of ru) ⟨v, H1, I1.tok _, ru, q⟩
end
end L2


namespace My
open PySem PySem.Spec PyProof.Rows L2
/-- X(e) as a value -/
def tValUnknownName (C : Addr) (ta : TA) : TE := fun σ H Q => ta σ H fun vs H1 => ∃ v, vs = [v] ∧ ∀ d a, H1 d = none → H1 a = none → d ≠ a → Q (.ref a) (upd (upd H1 d (.xd [(("name" : Str), v)])) a (ExD C d a))
theorem pe_valUnknownName {X : Cx} {C fI : Addr} {e : Expr} {ta : TA} {p pos : Pos} {k : Nat} (T : PySem.ExUnknownName.TxtUnknownName X.K X.mg C fI) (hr : Room k X.A) (ha : PA X [e] ta) (hg : Gl X "UnknownName" := by rfl)
    (he : starEach (e :: []) X.env = (false, eval e X.env) :: starEach [] X.env := by rfl) (hpl : (backTo pos (starEach [] X.env)).any (·.1) = false := by rfl) : PE X (.Call (.Name "UnknownName" p) [e] [] pos) (tValUnknownName C ta) := by
  refine ⟨fun pins s σ H Q I h => ?_⟩
  refine wpAny_Call_Name_kw (ld_glob I hg T.gC ?_)
  refine PySem.W.callWith_K (h₀ := X.base) I.ok.mod.kin T.kC (thn (ha.run pos pins s σ H _ I h) fun us s1 hh => ?_) he hpl
  obtain ⟨vs, H1, I1, r1, v, ev, q1⟩ := hh
  subst ev
  refine ⟨I1.kIn, ?_⟩
  cases r1 with
  | cons rv rn =>
    rename_i v' us'
    cases rn
    show wpAny _ _ (call (.ref C) [v']) _ _ _
    have hlim := I1.nolimit
    obtain ⟨hp, g, dr, tk, os⟩ := s1
    refine wpAny_call (PySem.ExUnknownName.made_UnknownName T I1.kIn hlim (by have := hr.dp; omega) fun h' tk' e d M => ?_)
    obtain ⟨oe, fv, hoe, hc, hd, hdat, h1⟩ := M.obj
    have ob : ∀ G' : Heap, (∀ o, h'.get? d = some o → G'.get? d = some o) → ObjOk X.prog X.w (upd H1 d (.xd [(("name" : Str), v)])) G' d (.xd [(("name" : Str), v)]) := fun G' gd =>
      ⟨_, M.ns.at gd, fun f => relO_UnknownName rv f⟩
    exact made_value I1 M.keep M.new M.dbig M.dne ob hoe hc hd hdat (q1 d e)
end My


set_option Elab.async false
set_option linter.all false
set_option maxRecDepth 100000
set_option maxHeartbeats 4000000
namespace PySem
namespace ExTooMany
abbrev bmTooMany : List Value := [.type "OverflowError", .type "ArithmeticError", .type "Exception", .type "BaseException", .type "object"]
open PySem.W PySem.Calls PyProof.Rows PySem.HandSPX
/-! ### the text of __init__ -/
def iA (p1 p2 : Pos) : Arguments := { posonlyargs := [], args := [{ arg := "self", annotation := none, pos := p1 }, { arg := "limit", annotation := none, pos := p2 }], vararg := none, kwonlyargs := [], kw_defaults := [], kwarg := none, defaults := [] }
def iB (q1 q2 q3 q4 : Pos) : List Stmt := [.Assign [.Attribute (.Name "self" q1) "limit" q2] (.Name "limit" q3) q4]
def iS : Scope := { kind := .function, names := [(PySem.Str.ofString "self", .local), (PySem.Str.ofString "limit", .local)], isGenerator := false, isCoroutine := false, more := [] }
/-- what the written part says of Low, at C, and of its __init__, at fI -/
structure TxtTooMany (K : Frag) (mg : Str → Option Value) (C fI : Addr) : Prop where
  gC : mg "TooMany" = some (.ref C)
  cls : ∃ nm q N bs bm sn sub ab col dd k0 k1 k2 k3 k5, K.lookup C = some (excClassObj nm q C N bs bm true sn sub ab col dd k0 k1 k2 k3 k5 "OverflowError.__new__") ∧ excTail bmTooMany bm = true
  sa : findIn K (.ref C) "__setattr__" = some (some (.builtin "object.__setattr__"))
  ga : findIn K (.ref C) "__getattribute__" = some (some (.builtin "BaseException.__getattribute__"))
  gg : findIn K (.ref C) "__getattr__" = some none
  noN : findIn K (.ref C) "limit" = some none
  iC : findIn K (.ref C) "__init__" = some (some (.ref fI))
  tC : typeIn K (.ref fI) = some (.type "function")
  kC : keepIn K (.ref C) = true
  exC : subIn K (.ref C) (.type "BaseException") = some true
  tyC : typeIn K (.ref C) = some (.type "type")
  hdC : hasDictIn K C = true
  te : exmOne K (.ref C) (.ref C) = some true
  fn : ∃ (oc : Value) (od : Option Addr) (doc pm : Value) (an : Option Addr) (cdv ct : Value) (osl : Array (Option Value)) (p1 p2 q1 q2 q3 q4 : Pos),
    K.lookup fI = some ⟨oc, od, .func (fnOf "__init__" "TooMany.__init__" (iA p1 p2) (iB q1 q2 q3 q4) iS .none .none doc pm an cdv ct), osl⟩ ∧ codeIn K cdv "TooMany.__init__" = true
theorem one_size (v : Value) : [v].length ≤ sizeLine := by
  rw [sizeLine_eq]
  exact (by decide : 1 ≤ 16777216)
theorem kept_but {K : Frag} {h h' : Heap} {x : Addr} (X : K.In h) (hx : K.lookup x = none) (k : ∀ b o, b ≠ x → h.get? b = some o → h'.get? b = some o) : K.In h' := fun a o e =>
  k a o (fun z => by rw [z, hx] at e; cases e) (X a o e)
theorem ldC {M : Model} {s : Shared} {name : Str} {scope : Scope} {L a : Addr} {cd : Value} {m : Str → Option Value} {x : Str} {pos : Pos} {v : Value} {Q : Value → Shared → Prop} {A : Around} {E : Value → Shared → Prop} (hn : s.heap.Ns L m) (hv : m x = some v) (h : Q v s)
    (hk : scope.kind = .function := by rfl) (hl : (envOfC name scope L a cd).kindOf x = some .local := by rfl) (hd : (x == ("__debug__" : Str)) = false := by decide) :
    wpAny M A (eval (.Name x pos) (envOfC name scope L a cd)) Q E s := wpAny_Name (wpAny_loadName_local hk hl hn hv h) hd
/-- what __init__ leaves of a fresh exception at x -/
structure InitEnd (h h' : Heap) (x C dx t1 : Addr) (v : Value) : Prop where
  keep : ∀ b o, b ≠ x → h.get? b = some o → h'.get? b = some o
  obj : h'.get? x = some { cls := .ref C, dict := some dx, data := .fields #[.ref t1, .none, .none, .none, .bool false, .none] }
  dbig : h.objs.size ≤ dx
  dne : dx ≠ x
  ns : h'.Ns1 dx (fun y => if y = "limit" then some v else none)
/-- a made Low -/
structure OwnMade (h h' : Heap) (e C d : Addr) (v : Value) : Prop where
  keep : ∀ b o, h.get? b = some o → h'.get? b = some o
  new : h.objs.size ≤ e
  obj : ∃ oe vs, h'.get? e = some oe ∧ oe.cls = .ref C ∧ oe.dict = some d ∧ oe.data = .fields vs ∧ vs[1]? = some .none
  dbig : h.objs.size ≤ d
  dne : d ≠ e
  ns : h'.Ns1 d (fun y => if y = "limit" then some v else none)
section
variable {prog : Program} {w : World} {A : Around} {E : Value → Shared → Prop} {R : Result → Shared → Prop} {s : Shared} {K : Frag} {mg : Str → Option Value} {C fI : Addr}
theorem init_TooMany (T : TxtTooMany K mg C fI) {x t0 : Addr} {v : Value} (X : K.In s.heap) (hlim : s.heap.NoLimit) (hx : s.heap.get? x = some (excO C t0)) (hnx : K.lookup x = none) (hroom : A.depth < recursionLimit)
    (hq : ∀ h' tk dx, InitEnd s.heap h' x C dx t0 v → R (.ok (.ret .none)) { s with heap := h', toks := tk }) :
    codeAny (model prog w) A (.call (.ref fI) ⟨[.ref x, v], []⟩) R s := by
  obtain ⟨oc, od, doc, pm, an, cdv, ct, osl, p1, p2, q1, q2, q3, q4, ho, hcd⟩ := T.fn
  obtain ⟨nm, q, N, bs, bm, sn, sub, ab, col, dd, k0, k1, k2, k3, k5, hC, hbm⟩ := T.cls
  have hcl : clsIn K C = some { name := nm, bases := bs, mro := .ref C :: bm, ns := N, qualname := q, hasDict := true, slotNames := sn, subclasses := sub, abstract := ab, collection := col, hasDel := false } := by unfold clsIn; rw [hC] <;> rfl
  refine Att.call_fn (binds := [("self", .ref x), ("limit", v)]) X hlim ho hcd hroom (BindsTo.of_eq (by first | rfl | with_unfolding_all rfl)) (by first | rfl | decide | with_unfolding_all rfl) (fun s₁ IC => ?_) rfl rfl rfl
  obtain ⟨h₁, tk₁, rfl⟩ := IC.toInCall.same
  have k : ∀ b o, s.heap.get? b = some o → h₁.get? b = some o := IC.toInCall.keep
  have hn := IC.toInCall.ns
  have hxL : s.heap.objs.size ≠ x := Nat.ne_of_gt (Heap.lt_size hx)
  have X₁ : K.In h₁ := X.keeps k
  have hx₁ := k _ _ hx
  -- self.by = by
  show wpAny _ _ (execs _ _) _ _ _
  refine wpAny_execs_cons (plainObj_wpAny_Assign_Attribute ?_)
  refine ldC (v := v) hn (by first | rfl | with_unfolding_all rfl | kernel_rfl) (ldC (v := .ref x) hn (by first | rfl | with_unfolding_all rfl | kernel_rfl) ?_)
  refine set_plain X₁ (ox := excO C t0) (od := none) ⟨hx₁, rfl, rfl, trivial⟩ T.sa ?_
  have over : excOver K C bmTooMany = true := by
    unfold excOver
    rw [hcl]
    show ((C == C) && excTail bmTooMany bm) = true
    rw [hbm, beq_self_eq_true]
    rfl
  refine ExAny.first_field F.store_OverflowError X₁ hx₁ hcl rfl over T.noN (fun h₃ tk₃ dx k₃ dn dne hx₃ hn₃ => ?_)
  show wpAny _ _ (execs _ _) _ _ _
  have z : s.heap.objs.size < h₁.objs.size := hn.lt
  exact wpAny_execs_nil (hq h₃ tk₃ dx ⟨fun b o hb e => k₃ b o hb (k b o e), hx₃, Nat.le_of_lt (Nat.lt_of_lt_of_le z dn), dne, hn₃⟩)
theorem made_TooMany (T : TxtTooMany K mg C fI) {v : Value} (X : K.In s.heap) (hlim : s.heap.NoLimit) (hroom : A.depth + 1 < recursionLimit)
    (hq : ∀ h' tk e d, OwnMade s.heap h' e C d v → R (.ok (.ret (.ref e))) { s with heap := h', toks := tk }) :
    codeAny (model prog w) A (.call (.ref C) ⟨[v], []⟩) R s := by
  obtain ⟨nm, q, N, bs, bm, sn, sub, ab, col, dd, k0, k1, k2, k3, k5, hC, hbm⟩ := T.cls
  obtain ⟨hp, g, dr, tk, os⟩ := s
  have k : ∀ b o, hp.get? b = some o → ((hp.push (kdv_tup [v])).push (excO C hp.objs.size)).get? b = some o := fun b o e => Heap.get?_push_of_some _ (Heap.get?_push_of_some _ e)
  have hget : ((hp.push (kdv_tup [v])).push (excO C hp.objs.size)).get? (hp.objs.size + 1) = some (excO C hp.objs.size) := by heap_get
  have hnx : K.lookup (hp.objs.size + 1) = none := by
    cases e : K.lookup (hp.objs.size + 1) with
    | none => rfl
    | some o =>
      have z : hp.get? (hp.objs.size + 1) = some o := X _ _ e
      exact absurd (Nat.lt_of_succ_lt (Heap.lt_size z)) (Nat.lt_irrefl _)
  refine call_own F.excBase_OverflowError (fun X => excTail_contains X bm hbm) (X _ _ hC) (looks_findIn X T.iC) (fun self => bind_fn X self T.tC) (one_size v) ?_
  refine init_TooMany (s := ⟨(hp.push (kdv_tup [v])).push (excO C hp.objs.size), g, dr, tk, os⟩) T (X.keeps k) (hlim.keeps k) hget hnx ?_ fun h' tk' dx ⟨k', hx, dn, dne, hns⟩ => ?_
  · show A.depth + 1 < recursionLimit
    exact hroom
  · have old : ∀ b o, hp.get? b = some o → h'.get? b = some o := fun b o e => k' b o (Nat.ne_of_lt (Nat.lt_succ_of_lt (Heap.lt_size e))) (k b o e)
    have z : hp.objs.size + 1 + 1 ≤ dx := by
      first
        | (simpa only [Heap.size_push] using dn)
        | exact dn
        | (have q := dn; rw [Heap.size_push, Heap.size_push] at q; exact q)
    exact ⟨rfl, hq h' tk' (hp.objs.size + 1) dx ⟨old, Nat.le_succ _, ⟨_, _, hx, rfl, rfl, rfl, rfl⟩, Nat.le_trans (Nat.le_trans (Nat.le_succ _) (Nat.le_succ _)) z, dne, hns⟩⟩
end
end ExTooMany
end PySem
namespace L2
open PySem PySem.Spec PyProof.Rows
theorem relO_TooMany {v : V} {v' : Value} (r : RelV v v') (f : Str) : RelO (List.lookup f [(("limit" : Str), v)]) (if f = "limit" then some v' else none) := by
  by_cases hw : f = "limit"
  · subst hw
    rw [if_pos rfl]
    have q : List.lookup ("limit" : Str) [(("limit" : Str), v)] = some v := by simp [List.lookup]
    rw [q]
    exact r
  · rw [if_neg hw]
    have qw : (f == ("limit" : Str)) = false := by simpa using hw
    have q2 : List.lookup f [(("limit" : Str), v)] = none := by simp [List.lookup, qw]
    rw [q2]
    trivial
section
variable {X : Cx} {C fI : Addr}
/-- Low(e) -/
def tMkTooMany (C : Addr) (ta : TA) : St → Hp → XK → Prop := fun σ H Q => ta σ H fun vs H1 => ∃ v, vs = [v] ∧ ∀ d, H1 d = none → Q (.ref C) (some d) (upd H1 d (.xd [(("limit" : Str), v)]))
theorem pmk_TooMany {a : Expr} {ta : TA} {p pos : Pos} {k : Nat} (T : PySem.ExTooMany.TxtTooMany X.K X.mg C fI) (hr : Room k X.A) (ha : PA X [a] ta) (hg : Gl X "TooMany" := by rfl)
    (he : starEach (a :: []) X.env = (false, eval a X.env) :: starEach [] X.env := by rfl) (hpl : (backTo pos (starEach [] X.env)).any (·.1) = false := by rfl) :
    PMk X (.Call (.Name "TooMany" p) [a] [] pos) (tMkTooMany C ta) := by
  intro pins s σ H Q I h
  refine wpAny_Call_Name_kw (ld_glob I hg T.gC ?_)
  refine PySem.W.callWith_K (h₀ := X.base) I.ok.mod.kin T.kC (thn (ha.run pos pins s σ H _ I h) fun us s1 hh => ?_) he hpl
  obtain ⟨vs, H1, I1, r1, v, ev, q1⟩ := hh
  subst ev
  refine ⟨I1.kIn, ?_⟩
  cases r1 with
  | cons rv rn =>
    rename_i v' us'
    cases rn
    show wpAny _ _ (call (.ref C) [v']) _ _ _
    have hlim := I1.nolimit
    obtain ⟨hp, g, dr, tk, os⟩ := s1
    refine wpAny_call (PySem.ExTooMany.made_TooMany T I1.kIn hlim (by have := hr.dp; omega) fun h' tk' e d M => ?_)
    show MkP X pins σ Q (.ref e) ⟨h', g, dr, tk', os⟩
    obtain ⟨oe, fv, hoe, hc, hd, hdat, h1⟩ := M.obj
    have hns := M.ns
    obtain ⟨G', g1, g2⟩ := restrict h' fun b => decide (b ≠ e)
    have gk : ∀ b, b ≠ e → G'.get? b = h'.get? b := fun b hb => g1 b (decide_eq_true hb)
    have ge : G'.get? e = none := g2 e (by simp)
    have old : ∀ b o, hp.get? b = some o → G'.get? b = some o := fun b o q => (gk b (Nat.ne_of_lt (Nat.lt_of_lt_of_le (Heap.lt_size q) M.new))).trans (M.keep b o q)
    have ob : ObjOk X.prog X.w (upd H1 d (.xd [(("limit" : Str), v)])) G' d (.xd [(("limit" : Str), v)]) :=
      ⟨_, hns.at (fun o q => (gk d M.dne).trans q), fun f => relO_TooMany rv f⟩
    have J : Inv X pins σ (upd H1 d (.xd [(("limit" : Str), v)])) ⟨G', g, dr, tk', os⟩ := I1.laid (t' := tk') old M.dbig ob
    refine ⟨e, oe, fv, ⟨G', g, dr, tk', os⟩, _, .ref C, some d, rfl, J, fun b o q => ?_, ge, hoe, ⟨hc, hd⟩, hdat, h1, ?_, rfl, I1.bare, raises_own T.exC T.tyC, q1 d (I1.hok.fresh M.dbig)⟩
    · by_cases hb : b = e
      · have q' : G'.get? b = some o := q
        rw [hb, ge] at q'; cases q'
      · exact (gk b hb).symm.trans q
    · rw [upd_ne (Ne.symm M.dne)]
      exact I1.hok.fresh M.new
/-- raise Low(e) -/
def tRaiseTooMany (C : Addr) (W : WX) (ta : TA) : TS := fun _ σ H => tMkTooMany C ta σ H fun cls d H' => W cls d σ H'
theorem ps_raiseTooMany {a : Expr} {ta : TA} {W : WX} {p pos pos2 : Pos} {k : Nat} (hc : X.calm = true) (T : PySem.ExTooMany.TxtTooMany X.K X.mg C fI) (hr : Room k X.A) (tk : Takes X W) (ha : PA X [a] ta) (hg : Gl X "TooMany" := by rfl)
    (he : starEach (a :: []) X.env = (false, eval a X.env) :: starEach [] X.env := by rfl) (hpl : (backTo pos (starEach [] X.env)).any (·.1) = false := by rfl) :
    PS X (.Raise (some (.Call (.Name "TooMany" p) [a] [] pos)) none pos2) (tRaiseTooMany C W ta) := ps_raise hc tk (pmk_TooMany T hr ha hg he hpl)
/-- low.by, low the exception that the suite holds (at a; its class cls, its dict d) -/
def tByTooMany (C : Addr) (a : Addr) (cls : Value) (d : Option Addr) (te : TE) : TE := fun σ H Q => te σ H fun x H1 => x = .ref a ∧ cls = .ref C ∧ ∃ (dd : Addr) (v : V), d = some dd ∧ H1 dd = some (.xd [(("limit" : Str), v)]) ∧ Q v H1
theorem pe_byTooMany {a : Addr} {oe : Obj} {cls : Value} {d : Option Addr} {pn : List (Addr × Obj)} {e : Expr} {te : TE} {pos : Pos} (T : PySem.ExTooMany.TxtTooMany X.K X.mg C fI) (hz : Zc cls d oe) (hf : ∃ vs, oe.data = .fields vs) (he : PE (X.suite a ((a, oe) :: pn)) e te)
    (hb : attributeBase e "limit" X.env (eval e X.env) = eval e X.env := by rfl) :
    PE (X.suite a ((a, oe) :: pn)) (.Attribute e "limit" pos) (tByTooMany C a cls d te) := by
  refine ⟨fun pins s σ H Q I h => ?_⟩
  refine attr_of hb (thn (he.run pins s σ H _ I h) fun u s1 hh => ?_)
  obtain ⟨x, H1, I1, rx, ex, ec, dd, v, ed, ea, q⟩ := hh
  subst ex
  obtain rfl : u = Value.ref a := rx
  subst ec
  subst ed
  obtain ⟨ha, _⟩ := I1.pin (a, oe) (List.mem_append_left _ List.mem_cons_self)
  obtain ⟨vs, hd⟩ := hf
  have hx : ObjOk X.prog X.w H1 s1.heap dd (.xd [(("limit" : Str), v)]) := I1.hok dd _ ea
  obtain ⟨mA, hns, hr⟩ := hx
  obtain ⟨od, ho, hl⟩ := lookIn_ns hns
  have l : List.lookup ("limit" : Str) [(("limit" : Str), v)] = some v := by simp [List.lookup]
  obtain ⟨u, hu, ru⟩ := RelO.some_of (v := v) (o := mA "limit") (by rw [← l]; exact hr "limit")
  have J : PySem.W.InstAt s1.heap a oe C (some od) := ⟨ha, hz.1, by unfold PySem.W.notCls; rw [hd] <;> rfl, by rw [hz.2]; exact ho⟩
  exact HandSPX.exc_get I1.kIn J T.ga T.gg T.exC (PySem.W.findObj_own T.hdC T.noN rfl (by rw [hl, hu])) (handed_of ru) ⟨v, H1, I1.tok _, ru, q⟩
end
end L2


namespace My
open PySem PySem.Spec PyProof.Rows L2
/-- X(e) as a value -/
def tValTooMany (C : Addr) (ta : TA) : TE := fun σ H Q => ta σ H fun vs H1 => ∃ v, vs = [v] ∧ ∀ d a, H1 d = none → H1 a = none → d ≠ a → Q (.ref a) (upd (upd H1 d (.xd [(("limit" : Str), v)])) a (ExD C d a))
theorem pe_valTooMany {X : Cx} {C fI : Addr} {e : Expr} {ta : TA} {p pos : Pos} {k : Nat} (T : PySem.ExTooMany.TxtTooMany X.K X.mg C fI) (hr : Room k X.A) (ha : PA X [e] ta) (hg : Gl X "TooMany" := by rfl)
    (he : starEach (e :: []) X.env = (false, eval e X.env) :: starEach [] X.env := by rfl) (hpl : (backTo pos (starEach [] X.env)).any (·.1) = false := by rfl) : PE X (.Call (.Name "TooMany" p) [e] [] pos) (tValTooMany C ta) := by
  refine ⟨fun pins s σ H Q I h => ?_⟩
  refine wpAny_Call_Name_kw (ld_glob I hg T.gC ?_)
  refine PySem.W.callWith_K (h₀ := X.base) I.ok.mod.kin T.kC (thn (ha.run pos pins s σ H _ I h) fun us s1 hh => ?_) he hpl
  obtain ⟨vs, H1, I1, r1, v, ev, q1⟩ := hh
  subst ev
  refine ⟨I1.kIn, ?_⟩
  cases r1 with
  | cons rv rn =>
    rename_i v' us'
    cases rn
    show wpAny _ _ (call (.ref C) [v']) _ _ _
    have hlim := I1.nolimit
    obtain ⟨hp, g, dr, tk, os⟩ := s1
    refine wpAny_call (PySem.ExTooMany.made_TooMany T I1.kIn hlim (by have := hr.dp; omega) fun h' tk' e d M => ?_)
    obtain ⟨oe, fv, hoe, hc, hd, hdat, h1⟩ := M.obj
    have ob : ∀ G' : Heap, (∀ o, h'.get? d = some o → G'.get? d = some o) → ObjOk X.prog X.w (upd H1 d (.xd [(("limit" : Str), v)])) G' d (.xd [(("limit" : Str), v)]) := fun G' gd =>
      ⟨_, M.ns.at gd, fun f => relO_TooMany rv f⟩
    exact made_value I1 M.keep M.new M.dbig M.dne ob hoe hc hd hdat (q1 d e)
end My


set_option Elab.async false
set_option linter.all false
set_option maxRecDepth 100000
set_option maxHeartbeats 4000000
namespace PySem
namespace ExNothingToUndo
abbrev bmNothingToUndo : List Value := [.type "LookupError", .type "Exception", .type "BaseException", .type "object"]
open PySem.W PySem.Calls PyProof.Rows PySem.HandSPX
/-! ### the text of __init__ -/
def iA (p1 p2 : Pos) : Arguments := { posonlyargs := [], args := [{ arg := "self", annotation := none, pos := p1 }, { arg := "many", annotation := none, pos := p2 }], vararg := none, kwonlyargs := [], kw_defaults := [], kwarg := none, defaults := [] }
def iB (q1 q2 q3 q4 : Pos) : List Stmt := [.Assign [.Attribute (.Name "self" q1) "many" q2] (.Name "many" q3) q4]
def iS : Scope := { kind := .function, names := [(PySem.Str.ofString "self", .local), (PySem.Str.ofString "many", .local)], isGenerator := false, isCoroutine := false, more := [] }
/-- what the written part says of Low, at C, and of its __init__, at fI -/
structure TxtNothingToUndo (K : Frag) (mg : Str → Option Value) (C fI : Addr) : Prop where
  gC : mg "NothingToUndo" = some (.ref C)
  cls : ∃ nm q N bs bm sn sub ab col dd k0 k1 k2 k3 k5, K.lookup C = some (excClassObj nm q C N bs bm true sn sub ab col dd k0 k1 k2 k3 k5 "LookupError.__new__") ∧ excTail bmNothingToUndo bm = true
  sa : findIn K (.ref C) "__setattr__" = some (some (.builtin "object.__setattr__"))
  ga : findIn K (.ref C) "__getattribute__" = some (some (.builtin "BaseException.__getattribute__"))
  gg : findIn K (.ref C) "__getattr__" = some none
  noN : findIn K (.ref C) "many" = some none
  iC : findIn K (.ref C) "__init__" = some (some (.ref fI))
  tC : typeIn K (.ref fI) = some (.type "function")
  kC : keepIn K (.ref C) = true
  exC : subIn K (.ref C) (.type "BaseException") = some true
  tyC : typeIn K (.ref C) = some (.type "type")
  hdC : hasDictIn K C = true
  te : exmOne K (.ref C) (.ref C) = some true
  fn : ∃ (oc : Value) (od : Option Addr) (doc pm : Value) (an : Option Addr) (cdv ct : Value) (osl : Array (Option Value)) (p1 p2 q1 q2 q3 q4 : Pos),
    K.lookup fI = some ⟨oc, od, .func (fnOf "__init__" "NothingToUndo.__init__" (iA p1 p2) (iB q1 q2 q3 q4) iS .none .none doc pm an cdv ct), osl⟩ ∧ codeIn K cdv "NothingToUndo.__init__" = true
theorem one_size (v : Value) : [v].length ≤ sizeLine := by
  rw [sizeLine_eq]
  exact (by decide : 1 ≤ 16777216)
theorem kept_but {K : Frag} {h h' : Heap} {x : Addr} (X : K.In h) (hx : K.lookup x = none) (k : ∀ b o, b ≠ x → h.get? b = some o → h'.get? b = some o) : K.In h' := fun a o e =>
  k a o (fun z => by rw [z, hx] at e; cases e) (X a o e)
theorem ldC {M : Model} {s : Shared} {name : Str} {scope : Scope} {L a : Addr} {cd : Value} {m : Str → Option Value} {x : Str} {pos : Pos} {v : Value} {Q : Value → Shared → Prop} {A : Around} {E : Value → Shared → Prop} (hn : s.heap.Ns L m) (hv : m x = some v) (h : Q v s)
    (hk : scope.kind = .function := by rfl) (hl : (envOfC name scope L a cd).kindOf x = some .local := by rfl) (hd : (x == ("__debug__" : Str)) = false := by decide) :
    wpAny M A (eval (.Name x pos) (envOfC name scope L a cd)) Q E s := wpAny_Name (wpAny_loadName_local hk hl hn hv h) hd
/-- what __init__ leaves of a fresh exception at x -/
structure InitEnd (h h' : Heap) (x C dx t1 : Addr) (v : Value) : Prop where
  keep : ∀ b o, b ≠ x → h.get? b = some o → h'.get? b = some o
  obj : h'.get? x = some { cls := .ref C, dict := some dx, data := .fields #[.ref t1, .none, .none, .none, .bool false, .none] }
  dbig : h.objs.size ≤ dx
  dne : dx ≠ x
  ns : h'.Ns1 dx (fun y => if y = "many" then some v else none)
/-- a made Low -/
structure OwnMade (h h' : Heap) (e C d : Addr) (v : Value) : Prop where
  keep : ∀ b o, h.get? b = some o → h'.get? b = some o
  new : h.objs.size ≤ e
  obj : ∃ oe vs, h'.get? e = some oe ∧ oe.cls = .ref C ∧ oe.dict = some d ∧ oe.data = .fields vs ∧ vs[1]? = some .none
  dbig : h.objs.size ≤ d
  dne : d ≠ e
  ns : h'.Ns1 d (fun y => if y = "many" then some v else none)
section
variable {prog : Program} {w : World} {A : Around} {E : Value → Shared → Prop} {R : Result → Shared → Prop} {s : Shared} {K : Frag} {mg : Str → Option Value} {C fI : Addr}
theorem init_NothingToUndo (T : TxtNothingToUndo K mg C fI) {x t0 : Addr} {v : Value} (X : K.In s.heap) (hlim : s.heap.NoLimit) (hx : s.heap.get? x = some (excO C t0)) (hnx : K.lookup x = none) (hroom : A.depth < recursionLimit)
    (hq : ∀ h' tk dx, InitEnd s.heap h' x C dx t0 v → R (.ok (.ret .none)) { s with heap := h', toks := tk }) :
    codeAny (model prog w) A (.call (.ref fI) ⟨[.ref x, v], []⟩) R s := by
  obtain ⟨oc, od, doc, pm, an, cdv, ct, osl, p1, p2, q1, q2, q3, q4, ho, hcd⟩ := T.fn
  obtain ⟨nm, q, N, bs, bm, sn, sub, ab, col, dd, k0, k1, k2, k3, k5, hC, hbm⟩ := T.cls
  have hcl : clsIn K C = some { name := nm, bases := bs, mro := .ref C :: bm, ns := N, qualname := q, hasDict := true, slotNames := sn, subclasses := sub, abstract := ab, collection := col, hasDel := false } := by unfold clsIn; rw [hC] <;> rfl
  refine Att.call_fn (binds := [("self", .ref x), ("many", v)]) X hlim ho hcd hroom (BindsTo.of_eq (by first | rfl | with_unfolding_all rfl)) (by first | rfl | decide | with_unfolding_all rfl) (fun s₁ IC => ?_) rfl rfl rfl
  obtain ⟨h₁, tk₁, rfl⟩ := IC.toInCall.same
  have k : ∀ b o, s.heap.get? b = some o → h₁.get? b = some o := IC.toInCall.keep
  have hn := IC.toInCall.ns
  have hxL : s.heap.objs.size ≠ x := Nat.ne_of_gt (Heap.lt_size hx)
  have X₁ : K.In h₁ := X.keeps k
  have hx₁ := k _ _ hx
  -- self.by = by
  show wpAny _ _ (execs _ _) _ _ _
  refine wpAny_execs_cons (plainObj_wpAny_Assign_Attribute ?_)
  refine ldC (v := v) hn (by first | rfl | with_unfolding_all rfl | kernel_rfl) (ldC (v := .ref x) hn (by first | rfl | with_unfolding_all rfl | kernel_rfl) ?_)
  refine set_plain X₁ (ox := excO C t0) (od := none) ⟨hx₁, rfl, rfl, trivial⟩ T.sa ?_
  have over : excOver K C bmNothingToUndo = true := by
    unfold excOver
    rw [hcl]
    show ((C == C) && excTail bmNothingToUndo bm) = true
    rw [hbm, beq_self_eq_true]
    rfl
  refine ExAny.first_field F.store_LookupError X₁ hx₁ hcl rfl over T.noN (fun h₃ tk₃ dx k₃ dn dne hx₃ hn₃ => ?_)
  show wpAny _ _ (execs _ _) _ _ _
  have z : s.heap.objs.size < h₁.objs.size := hn.lt
  exact wpAny_execs_nil (hq h₃ tk₃ dx ⟨fun b o hb e => k₃ b o hb (k b o e), hx₃, Nat.le_of_lt (Nat.lt_of_lt_of_le z dn), dne, hn₃⟩)
theorem made_NothingToUndo (T : TxtNothingToUndo K mg C fI) {v : Value} (X : K.In s.heap) (hlim : s.heap.NoLimit) (hroom : A.depth + 1 < recursionLimit)
    (hq : ∀ h' tk e d, OwnMade s.heap h' e C d v → R (.ok (.ret (.ref e))) { s with heap := h', toks := tk }) :
    codeAny (model prog w) A (.call (.ref C) ⟨[v], []⟩) R s := by
  obtain ⟨nm, q, N, bs, bm, sn, sub, ab, col, dd, k0, k1, k2, k3, k5, hC, hbm⟩ := T.cls
  obtain ⟨hp, g, dr, tk, os⟩ := s
  have k : ∀ b o, hp.get? b = some o → ((hp.push (kdv_tup [v])).push (excO C hp.objs.size)).get? b = some o := fun b o e => Heap.get?_push_of_some _ (Heap.get?_push_of_some _ e)
  have hget : ((hp.push (kdv_tup [v])).push (excO C hp.objs.size)).get? (hp.objs.size + 1) = some (excO C hp.objs.size) := by heap_get
  have hnx : K.lookup (hp.objs.size + 1) = none := by
    cases e : K.lookup (hp.objs.size + 1) with
    | none => rfl
    | some o =>
      have z : hp.get? (hp.objs.size + 1) = some o := X _ _ e
      exact absurd (Nat.lt_of_succ_lt (Heap.lt_size z)) (Nat.lt_irrefl _)
  refine call_own F.excBase_LookupError (fun X => excTail_contains X bm hbm) (X _ _ hC) (looks_findIn X T.iC) (fun self => bind_fn X self T.tC) (one_size v) ?_
  refine init_NothingToUndo (s := ⟨(hp.push (kdv_tup [v])).push (excO C hp.objs.size), g, dr, tk, os⟩) T (X.keeps k) (hlim.keeps k) hget hnx ?_ fun h' tk' dx ⟨k', hx, dn, dne, hns⟩ => ?_
  · show A.depth + 1 < recursionLimit
    exact hroom
  · have old : ∀ b o, hp.get? b = some o → h'.get? b = some o := fun b o e => k' b o (Nat.ne_of_lt (Nat.lt_succ_of_lt (Heap.lt_size e))) (k b o e)
    have z : hp.objs.size + 1 + 1 ≤ dx := by
      first
        | (simpa only [Heap.size_push] using dn)
        | exact dn
        | (have q := dn; rw [Heap.size_push, Heap.size_push] at q; exact q)
    exact ⟨rfl, hq h' tk' (hp.objs.size + 1) dx ⟨old, Nat.le_succ _, ⟨_, _, hx, rfl, rfl, rfl, rfl⟩, Nat.le_trans (Nat.le_trans (Nat.le_succ _) (Nat.le_succ _)) z, dne, hns⟩⟩
end
end ExNothingToUndo
end PySem
namespace L2
open PySem PySem.Spec PyProof.Rows
theorem relO_NothingToUndo {v : V} {v' : Value} (r : RelV v v') (f : Str) : RelO (List.lookup f [(("many" : Str), v)]) (if f = "many" then some v' else none) := by
  by_cases hw : f = "many"
  · subst hw
    rw [if_pos rfl]
    have q : List.lookup ("many" : Str) [(("many" : Str), v)] = some v := by simp [List.lookup]
    rw [q]
    exact r
  · rw [if_neg hw]
    have qw : (f == ("many" : Str)) = false := by simpa using hw
    have q2 : List.lookup f [(("many" : Str), v)] = none := by simp [List.lookup, qw]
    rw [q2]
    trivial
section
variable {X : Cx} {C fI : Addr}
/-- Low(e) -/
def tMkNothingToUndo (C : Addr) (ta : TA) : St → Hp → XK → Prop := fun σ H Q => ta σ H fun vs H1 => ∃ v, vs = [v] ∧ ∀ d, H1 d = none → Q (.ref C) (some d) (upd H1 d (.xd [(("many" : Str), v)]))
theorem pmk_NothingToUndo {a : Expr} {ta : TA} {p pos : Pos} {k : Nat} (T : PySem.ExNothingToUndo.TxtNothingToUndo X.K X.mg C fI) (hr : Room k X.A) (ha : PA X [a] ta) (hg : Gl X "NothingToUndo" := by rfl)
    (he : starEach (a :: []) X.env = (false, eval a X.env) :: starEach [] X.env := by rfl) (hpl : (backTo pos (starEach [] X.env)).any (·.1) = false := by rfl) :
    PMk X (.Call (.Name "NothingToUndo" p) [a] [] pos) (tMkNothingToUndo C ta) := by
  intro pins s σ H Q I h
  refine wpAny_Call_Name_kw (ld_glob I hg T.gC ?_)
  refine PySem.W.callWith_K (h₀ := X.base) I.ok.mod.kin T.kC (thn (ha.run pos pins s σ H _ I h) fun us s1 hh => ?_) he hpl
  obtain ⟨vs, H1, I1, r1, v, ev, q1⟩ := hh
  subst ev
  refine ⟨I1.kIn, ?_⟩
  cases r1 with
  | cons rv rn =>
    rename_i v' us'
    cases rn
    show wpAny _ _ (call (.ref C) [v']) _ _ _
    have hlim := I1.nolimit
    obtain ⟨hp, g, dr, tk, os⟩ := s1
    refine wpAny_call (PySem.ExNothingToUndo.made_NothingToUndo T I1.kIn hlim (by have := hr.dp; omega) fun h' tk' e d M => ?_)
    show MkP X pins σ Q (.ref e) ⟨h', g, dr, tk', os⟩
    obtain ⟨oe, fv, hoe, hc, hd, hdat, h1⟩ := M.obj
    have hns := M.ns
    obtain ⟨G', g1, g2⟩ := restrict h' fun b => decide (b ≠ e)
    have gk : ∀ b, b ≠ e → G'.get? b = h'.get? b := fun b hb => g1 b (decide_eq_true hb)
    have ge : G'.get? e = none := g2 e (by simp)
    have old : ∀ b o, hp.get? b = some o → G'.get? b = some o := fun b o q => (gk b (Nat.ne_of_lt (Nat.lt_of_lt_of_le (Heap.lt_size q) M.new))).trans (M.keep b o q)
    have ob : ObjOk X.prog X.w (upd H1 d (.xd [(("many" : Str), v)])) G' d (.xd [(("many" : Str), v)]) :=
      ⟨_, hns.at (fun o q => (gk d M.dne).trans q), fun f => relO_NothingToUndo rv f⟩
    have J : Inv X pins σ (upd H1 d (.xd [(("many" : Str), v)])) ⟨G', g, dr, tk', os⟩ := I1.laid (t' := tk') old M.dbig ob
    refine ⟨e, oe, fv, ⟨G', g, dr, tk', os⟩, _, .ref C, some d, rfl, J, fun b o q => ?_, ge, hoe, ⟨hc, hd⟩, hdat, h1, ?_, rfl, I1.bare, raises_own T.exC T.tyC, q1 d (I1.hok.fresh M.dbig)⟩
    · by_cases hb : b = e
      · have q' : G'.get? b = some o := q
        rw [hb, ge] at q'; cases q'
      · exact (gk b hb).symm.trans q
    · rw [upd_ne (Ne.symm M.dne)]
      exact I1.hok.fresh M.new
/-- raise Low(e) -/
def tRaiseNothingToUndo (C : Addr) (W : WX) (ta : TA) : TS := fun _ σ H => tMkNothingToUndo C ta σ H fun cls d H' => W cls d σ H'
theorem ps_raiseNothingToUndo {a : Expr} {ta : TA} {W : WX} {p pos pos2 : Pos} {k : Nat} (hc : X.calm = true) (T : PySem.ExNothingToUndo.TxtNothingToUndo X.K X.mg C fI) (hr : Room k X.A) (tk : Takes X W) (ha : PA X [a] ta) (hg : Gl X "NothingToUndo" := by rfl)
    (he : starEach (a :: []) X.env = (false, eval a X.env) :: starEach [] X.env := by rfl) (hpl : (backTo pos (starEach [] X.env)).any (·.1) = false := by rfl) :
    PS X (.Raise (some (.Call (.Name "NothingToUndo" p) [a] [] pos)) none pos2) (tRaiseNothingToUndo C W ta) := ps_raise hc tk (pmk_NothingToUndo T hr ha hg he hpl)
/-- low.by, low the exception that the suite holds (at a; its class cls, its dict d) -/
def tByNothingToUndo (C : Addr) (a : Addr) (cls : Value) (d : Option Addr) (te : TE) : TE := fun σ H Q => te σ H fun x H1 => x = .ref a ∧ cls = .ref C ∧ ∃ (dd : Addr) (v : V), d = some dd ∧ H1 dd = some (.xd [(("many" : Str), v)]) ∧ Q v H1
theorem pe_byNothingToUndo {a : Addr} {oe : Obj} {cls : Value} {d : Option Addr} {pn : List (Addr × Obj)} {e : Expr} {te : TE} {pos : Pos} (T : PySem.ExNothingToUndo.TxtNothingToUndo X.K X.mg C fI) (hz : Zc cls d oe) (hf : ∃ vs, oe.data = .fields vs) (he : PE (X.suite a ((a, oe) :: pn)) e te)
    (hb : attributeBase e "many" X.env (eval e X.env) = eval e X.env := by rfl) :
    PE (X.suite a ((a, oe) :: pn)) (.Attribute e "many" pos) (tByNothingToUndo C a cls d te) := by
  refine ⟨fun pins s σ H Q I h => ?_⟩
  refine attr_of hb (thn (he.run pins s σ H _ I h) fun u s1 hh => ?_)
  obtain ⟨x, H1, I1, rx, ex, ec, dd, v, ed, ea, q⟩ := hh
  subst ex
  obtain rfl : u = Value.ref a := rx
  subst ec
  subst ed
  obtain ⟨ha, _⟩ := I1.pin (a, oe) (List.mem_append_left _ List.mem_cons_self)
  obtain ⟨vs, hd⟩ := hf
  have hx : ObjOk X.prog X.w H1 s1.heap dd (.xd [(("many" : Str), v)]) := I1.hok dd _ ea
  obtain ⟨mA, hns, hr⟩ := hx
  obtain ⟨od, ho, hl⟩ := lookIn_ns hns
  have l : List.lookup ("many" : Str) [(("many" : Str), v)] = some v := by simp [List.lookup]
  obtain ⟨u, hu, ru⟩ := RelO.some_of (v := v) (o := mA "many") (by rw [← l]; exact hr "many")
  have J : PySem.W.InstAt s1.heap a oe C (some od) := ⟨ha, hz.1, by unfold PySem.W.notCls; rw [hd] <;> rfl, by rw [hz.2]; exact ho⟩
  exact HandSPX.exc_get I1.kIn J T.ga T.gg T.exC (PySem.W.findObj_own T.hdC T.noN rfl (by rw [hl, hu])) (handed_of ru) ⟨v, H1, I1.tok _, ru, q⟩
end
end L2


namespace My
open PySem PySem.Spec PyProof.Rows L2
/-- X(e) as a value -/
def tValNothingToUndo (C : Addr) (ta : TA) : TE := fun σ H Q => ta σ H fun vs H1 => ∃ v, vs = [v] ∧ ∀ d a, H1 d = none → H1 a = none → d ≠ a → Q (.ref a) (upd (upd H1 d (.xd [(("many" : Str), v)])) a (ExD C d a))
theorem pe_valNothingToUndo {X : Cx} {C fI : Addr} {e : Expr} {ta : TA} {p pos : Pos} {k : Nat} (T : PySem.ExNothingToUndo.TxtNothingToUndo X.K X.mg C fI) (hr : Room k X.A) (ha : PA X [e] ta) (hg : Gl X "NothingToUndo" := by rfl)
    (he : starEach (e :: []) X.env = (false, eval e X.env) :: starEach [] X.env := by rfl) (hpl : (backTo pos (starEach [] X.env)).any (·.1) = false := by rfl) : PE X (.Call (.Name "NothingToUndo" p) [e] [] pos) (tValNothingToUndo C ta) := by
  refine ⟨fun pins s σ H Q I h => ?_⟩
  refine wpAny_Call_Name_kw (ld_glob I hg T.gC ?_)
  refine PySem.W.callWith_K (h₀ := X.base) I.ok.mod.kin T.kC (thn (ha.run pos pins s σ H _ I h) fun us s1 hh => ?_) he hpl
  obtain ⟨vs, H1, I1, r1, v, ev, q1⟩ := hh
  subst ev
  refine ⟨I1.kIn, ?_⟩
  cases r1 with
  | cons rv rn =>
    rename_i v' us'
    cases rn
    show wpAny _ _ (call (.ref C) [v']) _ _ _
    have hlim := I1.nolimit
    obtain ⟨hp, g, dr, tk, os⟩ := s1
    refine wpAny_call (PySem.ExNothingToUndo.made_NothingToUndo T I1.kIn hlim (by have := hr.dp; omega) fun h' tk' e d M => ?_)
    obtain ⟨oe, fv, hoe, hc, hd, hdat, h1⟩ := M.obj
    have ob : ∀ G' : Heap, (∀ o, h'.get? d = some o → G'.get? d = some o) → ObjOk X.prog X.w (upd H1 d (.xd [(("many" : Str), v)])) G' d (.xd [(("many" : Str), v)]) := fun G' gd =>
      ⟨_, M.ns.at gd, fun f => relO_NothingToUndo rv f⟩
    exact made_value I1 M.keep M.new M.dbig M.dne ob hoe hc hd hdat (q1 d e)
end My


set_option Elab.async false
set_option linter.all false
set_option maxRecDepth 100000
set_option maxHeartbeats 4000000
namespace PySem
namespace ExBroken
abbrev bmBroken : List Value := [.type "ArithmeticError", .type "Exception", .type "BaseException", .type "object"]
open PySem.W PySem.Calls PyProof.Rows PySem.HandSPX
/-! ### the text of __init__ -/
def iA (p1 p2 : Pos) : Arguments := { posonlyargs := [], args := [{ arg := "self", annotation := none, pos := p1 }, { arg := "label", annotation := none, pos := p2 }], vararg := none, kwonlyargs := [], kw_defaults := [], kwarg := none, defaults := [] }
def iB (q1 q2 q3 q4 : Pos) : List Stmt := [.Assign [.Attribute (.Name "self" q1) "label" q2] (.Name "label" q3) q4]
def iS : Scope := { kind := .function, names := [(PySem.Str.ofString "self", .local), (PySem.Str.ofString "label", .local)], isGenerator := false, isCoroutine := false, more := [] }
/-- what the written part says of Low, at C, and of its __init__, at fI -/
structure TxtBroken (K : Frag) (mg : Str → Option Value) (C fI : Addr) : Prop where
  gC : mg "Broken" = some (.ref C)
  cls : ∃ nm q N bs bm sn sub ab col dd k0 k1 k2 k3 k5, K.lookup C = some (excClassObj nm q C N bs bm true sn sub ab col dd k0 k1 k2 k3 k5 "ArithmeticError.__new__") ∧ excTail bmBroken bm = true
  sa : findIn K (.ref C) "__setattr__" = some (some (.builtin "object.__setattr__"))
  ga : findIn K (.ref C) "__getattribute__" = some (some (.builtin "BaseException.__getattribute__"))
  gg : findIn K (.ref C) "__getattr__" = some none
  noN : findIn K (.ref C) "label" = some none
  iC : findIn K (.ref C) "__init__" = some (some (.ref fI))
  tC : typeIn K (.ref fI) = some (.type "function")
  kC : keepIn K (.ref C) = true
  exC : subIn K (.ref C) (.type "BaseException") = some true
  tyC : typeIn K (.ref C) = some (.type "type")
  hdC : hasDictIn K C = true
  te : exmOne K (.ref C) (.ref C) = some true
  fn : ∃ (oc : Value) (od : Option Addr) (doc pm : Value) (an : Option Addr) (cdv ct : Value) (osl : Array (Option Value)) (p1 p2 q1 q2 q3 q4 : Pos),
    K.lookup fI = some ⟨oc, od, .func (fnOf "__init__" "Broken.__init__" (iA p1 p2) (iB q1 q2 q3 q4) iS .none .none doc pm an cdv ct), osl⟩ ∧ codeIn K cdv "Broken.__init__" = true
theorem one_size (v : Value) : [v].length ≤ sizeLine := by
  rw [sizeLine_eq]
  exact (by decide : 1 ≤ 16777216)
theorem kept_but {K : Frag} {h h' : Heap} {x : Addr} (X : K.In h) (hx : K.lookup x = none) (k : ∀ b o, b ≠ x → h.get? b = some o → h'.get? b = some o) : K.In h' := fun a o e =>
  k a o (fun z => by rw [z, hx] at e; cases e) (X a o e)
theorem ldC {M : Model} {s : Shared} {name : Str} {scope : Scope} {L a : Addr} {cd : Value} {m : Str → Option Value} {x : Str} {pos : Pos} {v : Value} {Q : Value → Shared → Prop} {A : Around} {E : Value → Shared → Prop} (hn : s.heap.Ns L m) (hv : m x = some v) (h : Q v s)
    (hk : scope.kind = .function := by rfl) (hl : (envOfC name scope L a cd).kindOf x = some .local := by rfl) (hd : (x == ("__debug__" : Str)) = false := by decide) :
    wpAny M A (eval (.Name x pos) (envOfC name scope L a cd)) Q E s := wpAny_Name (wpAny_loadName_local hk hl hn hv h) hd
/-- what __init__ leaves of a fresh exception at x -/
structure InitEnd (h h' : Heap) (x C dx t1 : Addr) (v : Value) : Prop where
  keep : ∀ b o, b ≠ x → h.get? b = some o → h'.get? b = some o
  obj : h'.get? x = some { cls := .ref C, dict := some dx, data := .fields #[.ref t1, .none, .none, .none, .bool false, .none] }
  dbig : h.objs.size ≤ dx
  dne : dx ≠ x
  ns : h'.Ns1 dx (fun y => if y = "label" then some v else none)
/-- a made Low -/
structure OwnMade (h h' : Heap) (e C d : Addr) (v : Value) : Prop where
  keep : ∀ b o, h.get? b = some o → h'.get? b = some o
  new : h.objs.size ≤ e
  obj : ∃ oe vs, h'.get? e = some oe ∧ oe.cls = .ref C ∧ oe.dict = some d ∧ oe.data = .fields vs ∧ vs[1]? = some .none
  dbig : h.objs.size ≤ d
  dne : d ≠ e
  ns : h'.Ns1 d (fun y => if y = "label" then some v else none)
section
variable {prog : Program} {w : World} {A : Around} {E : Value → Shared → Prop} {R : Result → Shared → Prop} {s : Shared} {K : Frag} {mg : Str → Option Value} {C fI : Addr}
theorem init_Broken (T : TxtBroken K mg C fI) {x t0 : Addr} {v : Value} (X : K.In s.heap) (hlim : s.heap.NoLimit) (hx : s.heap.get? x = some (excO C t0)) (hnx : K.lookup x = none) (hroom : A.depth < recursionLimit)
    (hq : ∀ h' tk dx, InitEnd s.heap h' x C dx t0 v → R (.ok (.ret .none)) { s with heap := h', toks := tk }) :
    codeAny (model prog w) A (.call (.ref fI) ⟨[.ref x, v], []⟩) R s := by
  obtain ⟨oc, od, doc, pm, an, cdv, ct, osl, p1, p2, q1, q2, q3, q4, ho, hcd⟩ := T.fn
  obtain ⟨nm, q, N, bs, bm, sn, sub, ab, col, dd, k0, k1, k2, k3, k5, hC, hbm⟩ := T.cls
  have hcl : clsIn K C = some { name := nm, bases := bs, mro := .ref C :: bm, ns := N, qualname := q, hasDict := true, slotNames := sn, subclasses := sub, abstract := ab, collection := col, hasDel := false } := by unfold clsIn; rw [hC] <;> rfl
  refine Att.call_fn (binds := [("self", .ref x), ("label", v)]) X hlim ho hcd hroom (BindsTo.of_eq (by first | rfl | with_unfolding_all rfl)) (by first | rfl | decide | with_unfolding_all rfl) (fun s₁ IC => ?_) rfl rfl rfl
  obtain ⟨h₁, tk₁, rfl⟩ := IC.toInCall.same
  have k : ∀ b o, s.heap.get? b = some o → h₁.get? b = some o := IC.toInCall.keep
  have hn := IC.toInCall.ns
  have hxL : s.heap.objs.size ≠ x := Nat.ne_of_gt (Heap.lt_size hx)
  have X₁ : K.In h₁ := X.keeps k
  have hx₁ := k _ _ hx
  -- self.by = by
  show wpAny _ _ (execs _ _) _ _ _
  refine wpAny_execs_cons (plainObj_wpAny_Assign_Attribute ?_)
  refine ldC (v := v) hn (by first | rfl | with_unfolding_all rfl | kernel_rfl) (ldC (v := .ref x) hn (by first | rfl | with_unfolding_all rfl | kernel_rfl) ?_)
  refine set_plain X₁ (ox := excO C t0) (od := none) ⟨hx₁, rfl, rfl, trivial⟩ T.sa ?_
  have over : excOver K C bmBroken = true := by
    unfold excOver
    rw [hcl]
    show ((C == C) && excTail bmBroken bm) = true
    rw [hbm, beq_self_eq_true]
    rfl
  refine ExAny.first_field F.store_ArithmeticError X₁ hx₁ hcl rfl over T.noN (fun h₃ tk₃ dx k₃ dn dne hx₃ hn₃ => ?_)
  show wpAny _ _ (execs _ _) _ _ _
  have z : s.heap.objs.size < h₁.objs.size := hn.lt
  exact wpAny_execs_nil (hq h₃ tk₃ dx ⟨fun b o hb e => k₃ b o hb (k b o e), hx₃, Nat.le_of_lt (Nat.lt_of_lt_of_le z dn), dne, hn₃⟩)
theorem made_Broken (T : TxtBroken K mg C fI) {v : Value} (X : K.In s.heap) (hlim : s.heap.NoLimit) (hroom : A.depth + 1 < recursionLimit)
    (hq : ∀ h' tk e d, OwnMade s.heap h' e C d v → R (.ok (.ret (.ref e))) { s with heap := h', toks := tk }) :
    codeAny (model prog w) A (.call (.ref C) ⟨[v], []⟩) R s := by
  obtain ⟨nm, q, N, bs, bm, sn, sub, ab, col, dd, k0, k1, k2, k3, k5, hC, hbm⟩ := T.cls
  obtain ⟨hp, g, dr, tk, os⟩ := s
  have k : ∀ b o, hp.get? b = some o → ((hp.push (kdv_tup [v])).push (excO C hp.objs.size)).get? b = some o := fun b o e => Heap.get?_push_of_some _ (Heap.get?_push_of_some _ e)
  have hget : ((hp.push (kdv_tup [v])).push (excO C hp.objs.size)).get? (hp.objs.size + 1) = some (excO C hp.objs.size) := by heap_get
  have hnx : K.lookup (hp.objs.size + 1) = none := by
    cases e : K.lookup (hp.objs.size + 1) with
    | none => rfl
    | some o =>
      have z : hp.get? (hp.objs.size + 1) = some o := X _ _ e
      exact absurd (Nat.lt_of_succ_lt (Heap.lt_size z)) (Nat.lt_irrefl _)
  refine call_own F.excBase_ArithmeticError (fun X => excTail_contains X bm hbm) (X _ _ hC) (looks_findIn X T.iC) (fun self => bind_fn X self T.tC) (one_size v) ?_
  refine init_Broken (s := ⟨(hp.push (kdv_tup [v])).push (excO C hp.objs.size), g, dr, tk, os⟩) T (X.keeps k) (hlim.keeps k) hget hnx ?_ fun h' tk' dx ⟨k', hx, dn, dne, hns⟩ => ?_
  · show A.depth + 1 < recursionLimit
    exact hroom
  · have old : ∀ b o, hp.get? b = some o → h'.get? b = some o := fun b o e => k' b o (Nat.ne_of_lt (Nat.lt_succ_of_lt (Heap.lt_size e))) (k b o e)
    have z : hp.objs.size + 1 + 1 ≤ dx := by
      first
        | (simpa only [Heap.size_push] using dn)
        | exact dn
        | (have q := dn; rw [Heap.size_push, Heap.size_push] at q; exact q)
    exact ⟨rfl, hq h' tk' (hp.objs.size + 1) dx ⟨old, Nat.le_succ _, ⟨_, _, hx, rfl, rfl, rfl, rfl⟩, Nat.le_trans (Nat.le_trans (Nat.le_succ _) (Nat.le_succ _)) z, dne, hns⟩⟩
end
end ExBroken
end PySem
namespace L2
open PySem PySem.Spec PyProof.Rows
theorem relO_Broken {v : V} {v' : Value} (r : RelV v v') (f : Str) : RelO (List.lookup f [(("label" : Str), v)]) (if f = "label" then some v' else none) := by
  by_cases hw : f = "label"
  · subst hw
    rw [if_pos rfl]
    have q : List.lookup ("label" : Str) [(("label" : Str), v)] = some v := by simp [List.lookup]
    rw [q]
    exact r
  · rw [if_neg hw]
    have qw : (f == ("label" : Str)) = false := by simpa using hw
    have q2 : List.lookup f [(("label" : Str), v)] = none := by simp [List.lookup, qw]
    rw [q2]
    trivial
section
variable {X : Cx} {C fI : Addr}
/-- Low(e) -/
def tMkBroken (C : Addr) (ta : TA) : St → Hp → XK → Prop := fun σ H Q => ta σ H fun vs H1 => ∃ v, vs = [v] ∧ ∀ d, H1 d = none → Q (.ref C) (some d) (upd H1 d (.xd [(("label" : Str), v)]))
theorem pmk_Broken {a : Expr} {ta : TA} {p pos : Pos} {k : Nat} (T : PySem.ExBroken.TxtBroken X.K X.mg C fI) (hr : Room k X.A) (ha : PA X [a] ta) (hg : Gl X "Broken" := by rfl)
    (he : starEach (a :: []) X.env = (false, eval a X.env) :: starEach [] X.env := by rfl) (hpl : (backTo pos (starEach [] X.env)).any (·.1) = false := by rfl) :
    PMk X (.Call (.Name "Broken" p) [a] [] pos) (tMkBroken C ta) := by
  intro pins s σ H Q I h
  refine wpAny_Call_Name_kw (ld_glob I hg T.gC ?_)
  refine PySem.W.callWith_K (h₀ := X.base) I.ok.mod.kin T.kC (thn (ha.run pos pins s σ H _ I h) fun us s1 hh => ?_) he hpl
  obtain ⟨vs, H1, I1, r1, v, ev, q1⟩ := hh
  subst ev
  refine ⟨I1.kIn, ?_⟩
  cases r1 with
  | cons rv rn =>
    rename_i v' us'
    cases rn
    show wpAny _ _ (call (.ref C) [v']) _ _ _
    have hlim := I1.nolimit
    obtain ⟨hp, g, dr, tk, os⟩ := s1
    refine wpAny_call (PySem.ExBroken.made_Broken T I1.kIn hlim (by have := hr.dp; omega) fun h' tk' e d M => ?_)
    show MkP X pins σ Q (.ref e) ⟨h', g, dr, tk', os⟩
    obtain ⟨oe, fv, hoe, hc, hd, hdat, h1⟩ := M.obj
    have hns := M.ns
    obtain ⟨G', g1, g2⟩ := restrict h' fun b => decide (b ≠ e)
    have gk : ∀ b, b ≠ e → G'.get? b = h'.get? b := fun b hb => g1 b (decide_eq_true hb)
    have ge : G'.get? e = none := g2 e (by simp)
    have old : ∀ b o, hp.get? b = some o → G'.get? b = some o := fun b o q => (gk b (Nat.ne_of_lt (Nat.lt_of_lt_of_le (Heap.lt_size q) M.new))).trans (M.keep b o q)
    have ob : ObjOk X.prog X.w (upd H1 d (.xd [(("label" : Str), v)])) G' d (.xd [(("label" : Str), v)]) :=
      ⟨_, hns.at (fun o q => (gk d M.dne).trans q), fun f => relO_Broken rv f⟩
    have J : Inv X pins σ (upd H1 d (.xd [(("label" : Str), v)])) ⟨G', g, dr, tk', os⟩ := I1.laid (t' := tk') old M.dbig ob
    refine ⟨e, oe, fv, ⟨G', g, dr, tk', os⟩, _, .ref C, some d, rfl, J, fun b o q => ?_, ge, hoe, ⟨hc, hd⟩, hdat, h1, ?_, rfl, I1.bare, raises_own T.exC T.tyC, q1 d (I1.hok.fresh M.dbig)⟩
    · by_cases hb : b = e
      · have q' : G'.get? b = some o := q
        rw [hb, ge] at q'; cases q'
      · exact (gk b hb).symm.trans q
    · rw [upd_ne (Ne.symm M.dne)]
      exact I1.hok.fresh M.new
/-- raise Low(e) -/
def tRaiseBroken (C : Addr) (W : WX) (ta : TA) : TS := fun _ σ H => tMkBroken C ta σ H fun cls d H' => W cls d σ H'
theorem ps_raiseBroken {a : Expr} {ta : TA} {W : WX} {p pos pos2 : Pos} {k : Nat} (hc : X.calm = true) (T : PySem.ExBroken.TxtBroken X.K X.mg C fI) (hr : Room k X.A) (tk : Takes X W) (ha : PA X [a] ta) (hg : Gl X "Broken" := by rfl)
    (he : starEach (a :: []) X.env = (false, eval a X.env) :: starEach [] X.env := by rfl) (hpl : (backTo pos (starEach [] X.env)).any (·.1) = false := by rfl) :
    PS X (.Raise (some (.Call (.Name "Broken" p) [a] [] pos)) none pos2) (tRaiseBroken C W ta) := ps_raise hc tk (pmk_Broken T hr ha hg he hpl)
/-- low.by, low the exception that the suite holds (at a; its class cls, its dict d) -/
def tByBroken (C : Addr) (a : Addr) (cls : Value) (d : Option Addr) (te : TE) : TE := fun σ H Q => te σ H fun x H1 => x = .ref a ∧ cls = .ref C ∧ ∃ (dd : Addr) (v : V), d = some dd ∧ H1 dd = some (.xd [(("label" : Str), v)]) ∧ Q v H1
theorem pe_byBroken {a : Addr} {oe : Obj} {cls : Value} {d : Option Addr} {pn : List (Addr × Obj)} {e : Expr} {te : TE} {pos : Pos} (T : PySem.ExBroken.TxtBroken X.K X.mg C fI) (hz : Zc cls d oe) (hf : ∃ vs, oe.data = .fields vs) (he : PE (X.suite a ((a, oe) :: pn)) e te)
    (hb : attributeBase e "label" X.env (eval e X.env) = eval e X.env := by rfl) :
    PE (X.suite a ((a, oe) :: pn)) (.Attribute e "label" pos) (tByBroken C a cls d te) := by
  refine ⟨fun pins s σ H Q I h => ?_⟩
  refine attr_of hb (thn (he.run pins s σ H _ I h) fun u s1 hh => ?_)
  obtain ⟨x, H1, I1, rx, ex, ec, dd, v, ed, ea, q⟩ := hh
  subst ex
  obtain rfl : u = Value.ref a := rx
  subst ec
  subst ed
  obtain ⟨ha, _⟩ := I1.pin (a, oe) (List.mem_append_left _ List.mem_cons_self)
  obtain ⟨vs, hd⟩ := hf
  have hx : ObjOk X.prog X.w H1 s1.heap dd (.xd [(("label" : Str), v)]) := I1.hok dd _ ea
  obtain ⟨mA, hns, hr⟩ := hx
  obtain ⟨od, ho, hl⟩ := lookIn_ns hns
  have l : List.lookup ("label" : Str) [(("label" : Str), v)] = some v := by simp [List.lookup]
  obtain ⟨u, hu, ru⟩ := RelO.some_of (v := v) (o := mA "label") (by rw [← l]; exact hr "label")
  have J : PySem.W.InstAt s1.heap a oe C (some od) := ⟨ha, hz.1, by unfold PySem.W.notCls; rw [hd] <;> rfl, by rw [hz.2]; exact ho⟩
  exact HandSPX.exc_get I1.kIn J T.ga T.gg T.exC (PySem.W.findObj_own T.hdC T.noN rfl (by rw [hl, hu])) (handed_of ru) ⟨v, H1, I1.tok _, ru, q⟩
end
end L2


namespace My
open PySem PySem.Spec PyProof.Rows L2
/-- X(e) as a value -/
def tValBroken (C : Addr) (ta : TA) : TE := fun σ H Q => ta σ H fun vs H1 => ∃ v, vs = [v] ∧ ∀ d a, H1 d = none → H1 a = none → d ≠ a → Q (.ref a) (upd (upd H1 d (.xd [(("label" : Str), v)])) a (ExD C d a))
theorem pe_valBroken {X : Cx} {C fI : Addr} {e : Expr} {ta : TA} {p pos : Pos} {k : Nat} (T : PySem.ExBroken.TxtBroken X.K X.mg C fI) (hr : Room k X.A) (ha : PA X [e] ta) (hg : Gl X "Broken" := by rfl)
    (he : starEach (e :: []) X.env = (false, eval e X.env) :: starEach [] X.env := by rfl) (hpl : (backTo pos (starEach [] X.env)).any (·.1) = false := by rfl) : PE X (.Call (.Name "Broken" p) [e] [] pos) (tValBroken C ta) := by
  refine ⟨fun pins s σ H Q I h => ?_⟩
  refine wpAny_Call_Name_kw (ld_glob I hg T.gC ?_)
  refine PySem.W.callWith_K (h₀ := X.base) I.ok.mod.kin T.kC (thn (ha.run pos pins s σ H _ I h) fun us s1 hh => ?_) he hpl
  obtain ⟨vs, H1, I1, r1, v, ev, q1⟩ := hh
  subst ev
  refine ⟨I1.kIn, ?_⟩
  cases r1 with
  | cons rv rn =>
    rename_i v' us'
    cases rn
    show wpAny _ _ (call (.ref C) [v']) _ _ _
    have hlim := I1.nolimit
    obtain ⟨hp, g, dr, tk, os⟩ := s1
    refine wpAny_call (PySem.ExBroken.made_Broken T I1.kIn hlim (by have := hr.dp; omega) fun h' tk' e d M => ?_)
    obtain ⟨oe, fv, hoe, hc, hd, hdat, h1⟩ := M.obj
    have ob : ∀ G' : Heap, (∀ o, h'.get? d = some o → G'.get? d = some o) → ObjOk X.prog X.w (upd H1 d (.xd [(("label" : Str), v)])) G' d (.xd [(("label" : Str), v)]) := fun G' gd =>
      ⟨_, M.ns.at gd, fun f => relO_Broken rv f⟩
    exact made_value I1 M.keep M.new M.dbig M.dne ob hoe hc hd hdat (q1 d e)
end My


set_option Elab.async false
set_option linter.all false
set_option maxRecDepth 100000
set_option maxHeartbeats 4000000
namespace PySem
namespace ExLoud
abbrev bmLoud : List Value := [.type "RuntimeError", .type "Exception", .type "BaseException", .type "object"]
open PySem.W PySem.Calls PyProof.Rows PySem.HandSPX
/-! ### the text of __init__ -/
def iA (p1 p2 : Pos) : Arguments := { posonlyargs := [], args := [{ arg := "self", annotation := none, pos := p1 }, { arg := "state", annotation := none, pos := p2 }], vararg := none, kwonlyargs := [], kw_defaults := [], kwarg := none, defaults := [] }
def iB (q1 q2 q3 q4 : Pos) : List Stmt := [.Assign [.Attribute (.Name "self" q1) "state" q2] (.Name "state" q3) q4]
def iS : Scope := { kind := .function, names := [(PySem.Str.ofString "self", .local), (PySem.Str.ofString "state", .local)], isGenerator := false, isCoroutine := false, more := [] }
/-- what the written part says of Low, at C, and of its __init__, at fI -/
structure TxtLoud (K : Frag) (mg : Str → Option Value) (C fI : Addr) : Prop where
  gC : mg "Loud" = some (.ref C)
  cls : ∃ nm q N bs bm sn sub ab col dd k0 k1 k2 k3 k5, K.lookup C = some (excClassObj nm q C N bs bm true sn sub ab col dd k0 k1 k2 k3 k5 "RuntimeError.__new__") ∧ excTail bmLoud bm = true
  sa : findIn K (.ref C) "__setattr__" = some (some (.builtin "object.__setattr__"))
  ga : findIn K (.ref C) "__getattribute__" = some (some (.builtin "BaseException.__getattribute__"))
  gg : findIn K (.ref C) "__getattr__" = some none
  noN : findIn K (.ref C) "state" = some none
  iC : findIn K (.ref C) "__init__" = some (some (.ref fI))
  tC : typeIn K (.ref fI) = some (.type "function")
  kC : keepIn K (.ref C) = true
  exC : subIn K (.ref C) (.type "BaseException") = some true
  tyC : typeIn K (.ref C) = some (.type "type")
  hdC : hasDictIn K C = true
  te : exmOne K (.ref C) (.ref C) = some true
  fn : ∃ (oc : Value) (od : Option Addr) (doc pm : Value) (an : Option Addr) (cdv ct : Value) (osl : Array (Option Value)) (p1 p2 q1 q2 q3 q4 : Pos),
    K.lookup fI = some ⟨oc, od, .func (fnOf "__init__" "Loud.__init__" (iA p1 p2) (iB q1 q2 q3 q4) iS .none .none doc pm an cdv ct), osl⟩ ∧ codeIn K cdv "Loud.__init__" = true
theorem one_size (v : Value) : [v].length ≤ sizeLine := by
  rw [sizeLine_eq]
  exact (by decide : 1 ≤ 16777216)
theorem kept_but {K : Frag} {h h' : Heap} {x : Addr} (X : K.In h) (hx : K.lookup x = none) (k : ∀ b o, b ≠ x → h.get? b = some o → h'.get? b = some o) : K.In h' := fun a o e =>
  k a o (fun z => by rw [z, hx] at e; cases e) (X a o e)
theorem ldC {M : Model} {s : Shared} {name : Str} {scope : Scope} {L a : Addr} {cd : Value} {m : Str → Option Value} {x : Str} {pos : Pos} {v : Value} {Q : Value → Shared → Prop} {A : Around} {E : Value → Shared → Prop} (hn : s.heap.Ns L m) (hv : m x = some v) (h : Q v s)
    (hk : scope.kind = .function := by rfl) (hl : (envOfC name scope L a cd).kindOf x = some .local := by rfl) (hd : (x == ("__debug__" : Str)) = false := by decide) :
    wpAny M A (eval (.Name x pos) (envOfC name scope L a cd)) Q E s := wpAny_Name (wpAny_loadName_local hk hl hn hv h) hd
/-- what __init__ leaves of a fresh exception at x -/
structure InitEnd (h h' : Heap) (x C dx t1 : Addr) (v : Value) : Prop where
  keep : ∀ b o, b ≠ x → h.get? b = some o → h'.get? b = some o
  obj : h'.get? x = some { cls := .ref C, dict := some dx, data := .fields #[.ref t1, .none, .none, .none, .bool false, .none] }
  dbig : h.objs.size ≤ dx
  dne : dx ≠ x
  ns : h'.Ns1 dx (fun y => if y = "state" then some v else none)
/-- a made Low -/
structure OwnMade (h h' : Heap) (e C d : Addr) (v : Value) : Prop where
  keep : ∀ b o, h.get? b = some o → h'.get? b = some o
  new : h.objs.size ≤ e
  obj : ∃ oe vs, h'.get? e = some oe ∧ oe.cls = .ref C ∧ oe.dict = some d ∧ oe.data = .fields vs ∧ vs[1]? = some .none
  dbig : h.objs.size ≤ d
  dne : d ≠ e
  ns : h'.Ns1 d (fun y => if y = "state" then some v else none)
section
variable {prog : Program} {w : World} {A : Around} {E : Value → Shared → Prop} {R : Result → Shared → Prop} {s : Shared} {K : Frag} {mg : Str → Option Value} {C fI : Addr}
theorem init_Loud (T : TxtLoud K mg C fI) {x t0 : Addr} {v : Value} (X : K.In s.heap) (hlim : s.heap.NoLimit) (hx : s.heap.get? x = some (excO C t0)) (hnx : K.lookup x = none) (hroom : A.depth < recursionLimit)
    (hq : ∀ h' tk dx, InitEnd s.heap h' x C dx t0 v → R (.ok (.ret .none)) { s with heap := h', toks := tk }) :
    codeAny (model prog w) A (.call (.ref fI) ⟨[.ref x, v], []⟩) R s := by
  obtain ⟨oc, od, doc, pm, an, cdv, ct, osl, p1, p2, q1, q2, q3, q4, ho, hcd⟩ := T.fn
  obtain ⟨nm, q, N, bs, bm, sn, sub, ab, col, dd, k0, k1, k2, k3, k5, hC, hbm⟩ := T.cls
  have hcl : clsIn K C = some { name := nm, bases := bs, mro := .ref C :: bm, ns := N, qualname := q, hasDict := true, slotNames := sn, subclasses := sub, abstract := ab, collection := col, hasDel := false } := by unfold clsIn; rw [hC] <;> rfl
  refine Att.call_fn (binds := [("self", .ref x), ("state", v)]) X hlim ho hcd hroom (BindsTo.of_eq (by first | rfl | with_unfolding_all rfl)) (by first | rfl | decide | with_unfolding_all rfl) (fun s₁ IC => ?_) rfl rfl rfl
  obtain ⟨h₁, tk₁, rfl⟩ := IC.toInCall.same
  have k : ∀ b o, s.heap.get? b = some o → h₁.get? b = some o := IC.toInCall.keep
  have hn := IC.toInCall.ns
  have hxL : s.heap.objs.size ≠ x := Nat.ne_of_gt (Heap.lt_size hx)
  have X₁ : K.In h₁ := X.keeps k
  have hx₁ := k _ _ hx
  -- self.by = by
  show wpAny _ _ (execs _ _) _ _ _
  refine wpAny_execs_cons (plainObj_wpAny_Assign_Attribute ?_)
  refine ldC (v := v) hn (by first | rfl | with_unfolding_all rfl | kernel_rfl) (ldC (v := .ref x) hn (by first | rfl | with_unfolding_all rfl | kernel_rfl) ?_)
  refine set_plain X₁ (ox := excO C t0) (od := none) ⟨hx₁, rfl, rfl, trivial⟩ T.sa ?_
  have over : excOver K C bmLoud = true := by
    unfold excOver
    rw [hcl]
    show ((C == C) && excTail bmLoud bm) = true
    rw [hbm, beq_self_eq_true]
    rfl
  refine ExAny.first_field F.store_RuntimeError X₁ hx₁ hcl rfl over T.noN (fun h₃ tk₃ dx k₃ dn dne hx₃ hn₃ => ?_)
  show wpAny _ _ (execs _ _) _ _ _
  have z : s.heap.objs.size < h₁.objs.size := hn.lt
  exact wpAny_execs_nil (hq h₃ tk₃ dx ⟨fun b o hb e => k₃ b o hb (k b o e), hx₃, Nat.le_of_lt (Nat.lt_of_lt_of_le z dn), dne, hn₃⟩)
theorem made_Loud (T : TxtLoud K mg C fI) {v : Value} (X : K.In s.heap) (hlim : s.heap.NoLimit) (hroom : A.depth + 1 < recursionLimit)
    (hq : ∀ h' tk e d, OwnMade s.heap h' e C d v → R (.ok (.ret (.ref e))) { s with heap := h', toks := tk }) :
    codeAny (model prog w) A (.call (.ref C) ⟨[v], []⟩) R s := by
  obtain ⟨nm, q, N, bs, bm, sn, sub, ab, col, dd, k0, k1, k2, k3, k5, hC, hbm⟩ := T.cls
  obtain ⟨hp, g, dr, tk, os⟩ := s
  have k : ∀ b o, hp.get? b = some o → ((hp.push (kdv_tup [v])).push (excO C hp.objs.size)).get? b = some o := fun b o e => Heap.get?_push_of_some _ (Heap.get?_push_of_some _ e)
  have hget : ((hp.push (kdv_tup [v])).push (excO C hp.objs.size)).get? (hp.objs.size + 1) = some (excO C hp.objs.size) := by heap_get
  have hnx : K.lookup (hp.objs.size + 1) = none := by
    cases e : K.lookup (hp.objs.size + 1) with
    | none => rfl
    | some o =>
      have z : hp.get? (hp.objs.size + 1) = some o := X _ _ e
      exact absurd (Nat.lt_of_succ_lt (Heap.lt_size z)) (Nat.lt_irrefl _)
  refine call_own F.excBase_RuntimeError (fun X => excTail_contains X bm hbm) (X _ _ hC) (looks_findIn X T.iC) (fun self => bind_fn X self T.tC) (one_size v) ?_
  refine init_Loud (s := ⟨(hp.push (kdv_tup [v])).push (excO C hp.objs.size), g, dr, tk, os⟩) T (X.keeps k) (hlim.keeps k) hget hnx ?_ fun h' tk' dx ⟨k', hx, dn, dne, hns⟩ => ?_
  · show A.depth + 1 < recursionLimit
    exact hroom
  · have old : ∀ b o, hp.get? b = some o → h'.get? b = some o := fun b o e => k' b o (Nat.ne_of_lt (Nat.lt_succ_of_lt (Heap.lt_size e))) (k b o e)
    have z : hp.objs.size + 1 + 1 ≤ dx := by
      first
        | (simpa only [Heap.size_push] using dn)
        | exact dn
        | (have q := dn; rw [Heap.size_push, Heap.size_push] at q; exact q)
    exact ⟨rfl, hq h' tk' (hp.objs.size + 1) dx ⟨old, Nat.le_succ _, ⟨_, _, hx, rfl, rfl, rfl, rfl⟩, Nat.le_trans (Nat.le_trans (Nat.le_succ _) (Nat.le_succ _)) z, dne, hns⟩⟩
end
end ExLoud
end PySem
namespace L2
open PySem PySem.Spec PyProof.Rows
theorem relO_Loud {v : V} {v' : Value} (r : RelV v v') (f : Str) : RelO (List.lookup f [(("state" : Str), v)]) (if f = "state" then some v' else none) := by
  by_cases hw : f = "state"
  · subst hw
    rw [if_pos rfl]
    have q : List.lookup ("state" : Str) [(("state" : Str), v)] = some v := by simp [List.lookup]
    rw [q]
    exact r
  · rw [if_neg hw]
    have qw : (f == ("state" : Str)) = false := by simpa using hw
    have q2 : List.lookup f [(("state" : Str), v)] = none := by simp [List.lookup, qw]
    rw [q2]
    trivial
section
variable {X : Cx} {C fI : Addr}
/-- Low(e) -/
def tMkLoud (C : Addr) (ta : TA) : St → Hp → XK → Prop := fun σ H Q => ta σ H fun vs H1 => ∃ v, vs = [v] ∧ ∀ d, H1 d = none → Q (.ref C) (some d) (upd H1 d (.xd [(("state" : Str), v)]))
theorem pmk_Loud {a : Expr} {ta : TA} {p pos : Pos} {k : Nat} (T : PySem.ExLoud.TxtLoud X.K X.mg C fI) (hr : Room k X.A) (ha : PA X [a] ta) (hg : Gl X "Loud" := by rfl)
    (he : starEach (a :: []) X.env = (false, eval a X.env) :: starEach [] X.env := by rfl) (hpl : (backTo pos (starEach [] X.env)).any (·.1) = false := by rfl) :
    PMk X (.Call (.Name "Loud" p) [a] [] pos) (tMkLoud C ta) := by
  intro pins s σ H Q I h
  refine wpAny_Call_Name_kw (ld_glob I hg T.gC ?_)
  refine PySem.W.callWith_K (h₀ := X.base) I.ok.mod.kin T.kC (thn (ha.run pos pins s σ H _ I h) fun us s1 hh => ?_) he hpl
  obtain ⟨vs, H1, I1, r1, v, ev, q1⟩ := hh
  subst ev
  refine ⟨I1.kIn, ?_⟩
  cases r1 with
  | cons rv rn =>
    rename_i v' us'
    cases rn
    show wpAny _ _ (call (.ref C) [v']) _ _ _
    have hlim := I1.nolimit
    obtain ⟨hp, g, dr, tk, os⟩ := s1
    refine wpAny_call (PySem.ExLoud.made_Loud T I1.kIn hlim (by have := hr.dp; omega) fun h' tk' e d M => ?_)
    show MkP X pins σ Q (.ref e) ⟨h', g, dr, tk', os⟩
    obtain ⟨oe, fv, hoe, hc, hd, hdat, h1⟩ := M.obj
    have hns := M.ns
    obtain ⟨G', g1, g2⟩ := restrict h' fun b => decide (b ≠ e)
    have gk : ∀ b, b ≠ e → G'.get? b = h'.get? b := fun b hb => g1 b (decide_eq_true hb)
    have ge : G'.get? e = none := g2 e (by simp)
    have old : ∀ b o, hp.get? b = some o → G'.get? b = some o := fun b o q => (gk b (Nat.ne_of_lt (Nat.lt_of_lt_of_le (Heap.lt_size q) M.new))).trans (M.keep b o q)
    have ob : ObjOk X.prog X.w (upd H1 d (.xd [(("state" : Str), v)])) G' d (.xd [(("state" : Str), v)]) :=
      ⟨_, hns.at (fun o q => (gk d M.dne).trans q), fun f => relO_Loud rv f⟩
    have J : Inv X pins σ (upd H1 d (.xd [(("state" : Str), v)])) ⟨G', g, dr, tk', os⟩ := I1.laid (t' := tk') old M.dbig ob
    refine ⟨e, oe, fv, ⟨G', g, dr, tk', os⟩, _, .ref C, some d, rfl, J, fun b o q => ?_, ge, hoe, ⟨hc, hd⟩, hdat, h1, ?_, rfl, I1.bare, raises_own T.exC T.tyC, q1 d (I1.hok.fresh M.dbig)⟩
    · by_cases hb : b = e
      · have q' : G'.get? b = some o := q
        rw [hb, ge] at q'; cases q'
      · exact (gk b hb).symm.trans q
    · rw [upd_ne (Ne.symm M.dne)]
      exact I1.hok.fresh M.new
/-- raise Low(e) -/
def tRaiseLoud (C : Addr) (W : WX) (ta : TA) : TS := fun _ σ H => tMkLoud C ta σ H fun cls d H' => W cls d σ H'
theorem ps_raiseLoud {a : Expr} {ta : TA} {W : WX} {p pos pos2 : Pos} {k : Nat} (hc : X.calm = true) (T : PySem.ExLoud.TxtLoud X.K X.mg C fI) (hr : Room k X.A) (tk : Takes X W) (ha : PA X [a] ta) (hg : Gl X "Loud" := by rfl)
    (he : starEach (a :: []) X.env = (false, eval a X.env) :: starEach [] X.env := by rfl) (hpl : (backTo pos (starEach [] X.env)).any (·.1) = false := by rfl) :
    PS X (.Raise (some (.Call (.Name "Loud" p) [a] [] pos)) none pos2) (tRaiseLoud C W ta) := ps_raise hc tk (pmk_Loud T hr ha hg he hpl)
/-- low.by, low the exception that the suite holds (at a; its class cls, its dict d) -/
def tByLoud (C : Addr) (a : Addr) (cls : Value) (d : Option Addr) (te : TE) : TE := fun σ H Q => te σ H fun x H1 => x = .ref a ∧ cls = .ref C ∧ ∃ (dd : Addr) (v : V), d = some dd ∧ H1 dd = some (.xd [(("state" : Str), v)]) ∧ Q v H1
theorem pe_byLoud {a : Addr} {oe : Obj} {cls : Value} {d : Option Addr} {pn : List (Addr × Obj)} {e : Expr} {te : TE} {pos : Pos} (T : PySem.ExLoud.TxtLoud X.K X.mg C fI) (hz : Zc cls d oe) (hf : ∃ vs, oe.data = .fields vs) (he : PE (X.suite a ((a, oe) :: pn)) e te)
    (hb : attributeBase e "state" X.env (eval e X.env) = eval e X.env := by rfl) :
    PE (X.suite a ((a, oe) :: pn)) (.Attribute e "state" pos) (tByLoud C a cls d te) := by
  refine ⟨fun pins s σ H Q I h => ?_⟩
  refine attr_of hb (thn (he.run pins s σ H _ I h) fun u s1 hh => ?_)
  obtain ⟨x, H1, I1, rx, ex, ec, dd, v, ed, ea, q⟩ := hh
  subst ex
  obtain rfl : u = Value.ref a := rx
  subst ec
  subst ed
  obtain ⟨ha, _⟩ := I1.pin (a, oe) (List.mem_append_left _ List.mem_cons_self)
  obtain ⟨vs, hd⟩ := hf
  have hx : ObjOk X.prog X.w H1 s1.heap dd (.xd [(("state" : Str), v)]) := I1.hok dd _ ea
  obtain ⟨mA, hns, hr⟩ := hx
  obtain ⟨od, ho, hl⟩ := lookIn_ns hns
  have l : List.lookup ("state" : Str) [(("state" : Str), v)] = some v := by simp [List.lookup]
  obtain ⟨u, hu, ru⟩ := RelO.some_of (v := v) (o := mA "state") (by rw [← l]; exact hr "state")
  have J : PySem.W.InstAt s1.heap a oe C (some od) := ⟨ha, hz.1, by unfold PySem.W.notCls; rw [hd] <;> rfl, by rw [hz.2]; exact ho⟩
  exact HandSPX.exc_get I1.kIn J T.ga T.gg T.exC (PySem.W.findObj_own T.hdC T.noN rfl (by rw [hl, hu])) (handed_of ru) ⟨v, H1, I1.tok _, ru, q⟩
end
end L2


namespace My
open PySem PySem.Spec PyProof.Rows L2
/-- X(e) as a value -/
def tValLoud (C : Addr) (ta : TA) : TE := fun σ H Q => ta σ H fun vs H1 => ∃ v, vs = [v] ∧ ∀ d a, H1 d = none → H1 a = none → d ≠ a → Q (.ref a) (upd (upd H1 d (.xd [(("state" : Str), v)])) a (ExD C d a))
theorem pe_valLoud {X : Cx} {C fI : Addr} {e : Expr} {ta : TA} {p pos : Pos} {k : Nat} (T : PySem.ExLoud.TxtLoud X.K X.mg C fI) (hr : Room k X.A) (ha : PA X [e] ta) (hg : Gl X "Loud" := by rfl)
    (he : starEach (e :: []) X.env = (false, eval e X.env) :: starEach [] X.env := by rfl) (hpl : (backTo pos (starEach [] X.env)).any (·.1) = false := by rfl) : PE X (.Call (.Name "Loud" p) [e] [] pos) (tValLoud C ta) := by
  refine ⟨fun pins s σ H Q I h => ?_⟩
  refine wpAny_Call_Name_kw (ld_glob I hg T.gC ?_)
  refine PySem.W.callWith_K (h₀ := X.base) I.ok.mod.kin T.kC (thn (ha.run pos pins s σ H _ I h) fun us s1 hh => ?_) he hpl
  obtain ⟨vs, H1, I1, r1, v, ev, q1⟩ := hh
  subst ev
  refine ⟨I1.kIn, ?_⟩
  cases r1 with
  | cons rv rn =>
    rename_i v' us'
    cases rn
    show wpAny _ _ (call (.ref C) [v']) _ _ _
    have hlim := I1.nolimit
    obtain ⟨hp, g, dr, tk, os⟩ := s1
    refine wpAny_call (PySem.ExLoud.made_Loud T I1.kIn hlim (by have := hr.dp; omega) fun h' tk' e d M => ?_)
    obtain ⟨oe, fv, hoe, hc, hd, hdat, h1⟩ := M.obj
    have ob : ∀ G' : Heap, (∀ o, h'.get? d = some o → G'.get? d = some o) → ObjOk X.prog X.w (upd H1 d (.xd [(("state" : Str), v)])) G' d (.xd [(("state" : Str), v)]) := fun G' gd =>
      ⟨_, M.ns.at gd, fun f => relO_Loud rv f⟩
    exact made_value I1 M.keep M.new M.dbig M.dne ob hoe hc hd hdat (q1 d e)
end My


set_option Elab.async false
set_option linter.all false
set_option maxRecDepth 100000
set_option maxHeartbeats 4000000
/-! thirteen classes of errors and their base: which is of which kind -/
namespace My
open PySem PySem.Spec PyProof.Rows L2
def bmV : List Value := [.type "ValueError", .type "Exception", .type "BaseException", .type "object"]
def exKitB (K : PySem.W.Frag) (C : Addr) : Bool :=
  (PySem.W.clsIn K C).isSome && (PySem.W.findIn K (.ref C) "__getattribute__" == some (some (.builtin "BaseException.__getattribute__"))) && (PySem.W.findIn K (.ref C) "__getattr__" == some none) && (PySem.W.subIn K (.ref C) (.type "BaseException") == some true) &&
  (PySem.W.findIn K (.ref C) "__class__" == some (some (.builtin "object.__class__"))) && (PySem.W.specialIn K (.builtin "object.__class__") "__get__" == some (some (.builtin "getset_descriptor.__get__"))) && (PySem.W.takesIn K (.builtin "object.__class__") == some true) && (PySem.W.mroIn K C (.type "object") == some true)
theorem exKit_of {K : PySem.W.Frag} {C : Addr} (h : exKitB K C = true) : ExKit K C := by
  unfold exKitB at h
  simp only [Bool.and_eq_true, beq_iff_eq] at h
  obtain ⟨⟨⟨⟨⟨⟨⟨h1, h2⟩, h3⟩, h4⟩, h5⟩, h6⟩, h7⟩, h8⟩ := h
  exact ⟨h1, h2, h3, h4, h5, h6, h7, h8⟩
def kinN (j : Nat) : String := ["ValueError", "LookupError", "IndexError", "KeyError", "ArithmeticError", "OverflowError", "RuntimeError", "TypeError"].getD j ""
def sortB (i j : Nat) : Bool := if j = 13 then decide (i < 7) else decide (i = j)
def someOf (i : Nat) : List Nat := if i = 7 then [1, 2] else if i = 8 then [1, 3] else if i = 9 then [4, 5] else if i = 10 then [1] else if i = 11 then [4] else if i = 12 then [6] else [0]
def kinB (i j : Nat) : Bool := (someOf i).contains j
def sortTab (K : PySem.W.Frag) (Cs : List Addr) : Bool := (List.range 13).all fun i => exKitB K (Cs.getD i 0) &&
  ((List.range 14).all fun j => PySem.W.kitOne K (.ref (Cs.getD i 0)) (.ref (Cs.getD j 0)) == some (sortB i j)) &&
  ((List.range 8).all fun j => PySem.W.kitOne K (.ref (Cs.getD i 0)) (.type (kinN j)) == some (kinB i j)) &&
  ((List.range 14).all fun j => PySem.W.exmOne K (.ref (Cs.getD i 0)) (.ref (Cs.getD j 0)) == some (sortB i j))
section
variable {K : PySem.W.Frag} {Cs : List Addr} (h : sortTab K Cs = true) {i : Nat} (hi : i < 13)
include h hi
theorem tab_row : exKitB K (Cs.getD i 0) = true ∧ (∀ j, j < 14 → PySem.W.kitOne K (.ref (Cs.getD i 0)) (.ref (Cs.getD j 0)) = some (sortB i j)) ∧ (∀ j, j < 8 → PySem.W.kitOne K (.ref (Cs.getD i 0)) (.type (kinN j)) = some (kinB i j)) ∧
    ∀ j, j < 14 → PySem.W.exmOne K (.ref (Cs.getD i 0)) (.ref (Cs.getD j 0)) = some (sortB i j) := by
  have q := List.all_eq_true.mp h i (List.mem_range.mpr hi)
  simp only [Bool.and_eq_true, List.all_eq_true, List.mem_range, beq_iff_eq] at q
  obtain ⟨⟨⟨a, b⟩, c⟩, d⟩ := q
  exact ⟨a, b, c, d⟩
theorem tab_kit : ExKit K (Cs.getD i 0) := exKit_of (tab_row h hi).1
/-- isinstance(e, one of the classes) -/
theorem isS {H : Hp} {e : Addr} {fs : List (Str × V)} {Q : VK} (er : ErrAt H e (Cs.getD i 0) fs) (j : Nat) (hj : j < 14) (q : Q (.bl (sortB i j)) H) : rIsE K [.ref e, .ref (Cs.getD j 0)] H Q :=
  ⟨e, _, fs, _, _, _, rfl, .own _, er, tab_kit h hi, (tab_row h hi).2.1 j hj, q⟩
theorem isK {H : Hp} {e : Addr} {fs : List (Str × V)} {Q : VK} (er : ErrAt H e (Cs.getD i 0) fs) (j : Nat) (hj : j < 8) (q : Q (.bl (kinB i j)) H) : rIsE K [.ref e, .ty (kinN j)] H Q :=
  ⟨e, _, fs, _, _, _, rfl, .ty _, er, tab_kit h hi, (tab_row h hi).2.2.1 j hj, q⟩
end
/-- the field that an error of this number keeps -/
def fieldOf (i : Nat) : Str := if i = 6 then "index" else if i = 7 then "value" else if i = 8 then "name" else if i = 9 then "limit" else if i = 10 then "many" else if i = 11 then "label" else "state"
def fieldsOf (i : Nat) (v : V) : List (Str × V) := if i < 6 then [] else [(fieldOf i, v)]
/-- the error of this number, made with v, at e -/
def ErrN (Cs : List Addr) (H : Hp) (i : Nat) (v : V) (e : Addr) : Prop := ErrAt H e (Cs.getD i 0) (fieldsOf i v)
theorem ErrN.same {Cs : List Addr} {H H' : Hp} {i : Nat} {v : V} {e : Addr} (h : ErrN Cs H i v e) (s : Same H H') : ErrN Cs H' i v e := ErrAt.same h s
/-- the lists of answers that are due -/
def sortsOf (i : Nat) : List V := (List.range 14).map fun j => .bl (sortB i j)
def kinOf (i : Nat) : List V := (List.range 8).map fun j => .bl (kinB i j)
/-! ### lists of lists of truths -/
def bd (bs : List Bool) : List V := bs.map V.bl
def pd (bs : List Bool) : PyData := .list (bs.map PyData.bool)
theorem Dp_bools {K : PySem.W.Frag} {H : Hp} {p : Addr} {bs : List Bool} (h : H p = some (.lst (bd bs))) : Dp K H (.ref p) (pd bs) := by
  refine .lst (.of h) ?_
  have : ∀ bs : List Bool, DpAll K H (bd bs) (bs.map PyData.bool) := fun bs => by
    induction bs with
    | nil => exact .nil
    | cons b bs ih => exact .cons (.bl b) ih
  exact this bs
/-- data of a value, wherever the heap goes on -/
structure Says (K : PySem.W.Frag) (H : Hp) (v : V) (d : PyData) : Prop where
  dp : ∀ H', Same H H' → Dp K H' v d
  sh : d.showable = true
  nd : d.hasDict = false
  dep : d.depth ≤ 8
  len : d.shown.length ≤ 1000
theorem Says.same {K : PySem.W.Frag} {H H' : Hp} {v : V} {d : PyData} (h : Says K H v d) (s : Same H H') : Says K H' v d := ⟨fun H2 s2 => h.dp H2 (s.trans s2), h.sh, h.nd, h.dep, h.len⟩
theorem rReprV_of {K : PySem.W.Frag} {H : Hp} {v : V} {d : PyData} {Q : VK} (h : Says K H v d) (q : Q (.str d.shown) H) : rReprV K [v] H Q := ⟨v, d, rfl, h.dp H (Same.refl H), h.sh, h.nd, h.dep, by rw [sizeLine_eq]; have := h.len; omega, q⟩
end My

set_option Elab.async false
set_option linter.all false
set_option maxRecDepth 100000
set_option maxHeartbeats 4000000
/-! plain machines of the laws: a dict of letters, turns and nexts -/
namespace My
open PySem PySem.Spec PyProof.Rows L2
theorem dictK {X : Cx} (K : PySem.W.Frag) (hc : X.calm = true) (h : X.K = K := by rfl) : CallR X (.type "dict") (fun xs H Q => ∃ (a : Addr) (ps : List Addr) (kvs : List (Key × V)), xs = [.ref a] ∧ SqL K H a (ps.map V.ref) ∧ Paired (fun p kv => SqT K H p [kV kv.1, kv.2]) ps kvs ∧ ∀ p, H p = none → Q (.ref p) (upd H p (.dK (mergeK [] kvs)))) := h ▸ call_dictP hc
theorem enumK {X : Cx} (K : PySem.W.Frag) {e : Expr} {ta : TA} {p pos tpos : Pos} {elts : List Expr} {kk : Nat} (hg : Gl X "enumerate") (hm : X.mg "enumerate" = none) (ha : PA X [e] ta) (h : X.K = K := by rfl) (hs : starEach [e] X.env = [(false, eval e X.env)] := by rfl) :
    PI X (.Tuple elts kk tpos) (.Call (.Name "enumerate" p) [e] [] pos) (iEnum K ta) := h ▸ pi_enum hg hm ha hs
theorem zipK {X : Cx} (K : PySem.W.Frag) {e e2 : Expr} {ta : TA} {p pos tpos : Pos} {elts : List Expr} {kk : Nat} (hg : Gl X "zip") (hm : X.mg "zip" = none) (ha : PA X [e, e2] ta) (h : X.K = K := by rfl)
    (hs : starEach [e, e2] X.env = (false, eval e X.env) :: starEach [e2] X.env := by rfl) (hpl : (backTo pos (starEach [e2] X.env)).any (·.1) = false := by rfl) :
    PI X (.Tuple elts kk tpos) (.Call (.Name "zip" p) [e, e2] [] pos) (iZip K ta) := h ▸ pi_zip hg hm ha hs hpl
theorem perm_back {α : Type} {f : α → V} (g : V → α) (hg : ∀ a, g (f a) = a) {ys : List V} {l : List α} (h : ys.Perm (l.map f)) : ∃ ns : List α, ys = ns.map f ∧ ns.Perm l := by
  refine ⟨ys.map g, ?_, ?_⟩
  · rw [List.map_map]
    refine ((List.map_congr_left fun y hy => ?_).trans (List.map_id ys)).symm
    obtain ⟨a, _, rfl⟩ := List.mem_map.mp (h.mem_iff.mp hy)
    show f (g (f a)) = f a
    rw [hg]
  · have q := h.map g
    rw [List.map_map] at q
    exact (List.map_congr_left (fun a _ => hg a) |>.trans (List.map_id l)) ▸ q
def unI : V → Int
  | .int i => i
  | _ => 0
def unS : V → Str
  | .str z => z
  | _ => ""
theorem rg_upto (n : Nat) : rgV 0 (n : Int) = (upto n).map V.int := by
  have e : ((n : Int) - 0).toNat = n := by omega
  simp only [rgV, upto, List.map_map, e]
  exact List.map_congr_left fun i _ => by simp
/-- a turn of n letters, drawn -/
def spTurnOf : Sp := fun vs H Q _ => ∃ (u : Addr) (n : Nat), vs = [.ref u, .int n] ∧ UrnOk H u ∧ n ≤ 60 ∧
  ∀ (H' : Hp) (p : Addr) (ns : List Int), Drew u H H' → H p = none → H' p = some (.tup (ns.map V.int)) → ns.Perm (upto n) → Q (.ref p) H'
theorem take_cap {α : Type} (l : List α) (k : Nat) : l.take (min k l.length) = l.take k := by
  rcases Nat.le_total k l.length with h | h
  · rw [Nat.min_eq_left h]
  · rw [Nat.min_eq_right h, List.take_length, List.take_of_length_le h]
theorem cut_to {α : Type} {f : α → V} {l : List α} {k : Nat} : cutV (l.map f) none (some (k : Int)) = (l.take k).map f := by
  unfold cutV
  rw [HT.sIx_nat, HT.sIx_none, List.drop_zero, Nat.sub_zero, ← List.map_take, List.length_map, take_cap]
theorem cut_mid {α : Type} {f : α → V} {l : List α} {i k : Nat} (h : i ≤ l.length) : cutV (l.map f) (some (i : Int)) (some ((i + k : Nat) : Int)) = ((l.drop i).take k).map f := by
  unfold cutV
  rw [HT.sIx_nat, HT.sIx_nat, List.length_map, Nat.min_eq_left h, ← List.map_drop, ← List.map_take]
  congr 1
  have e : (l.drop i).length = l.length - i := List.length_drop
  rw [← take_cap (l.drop i) k, e]
  congr 1
  omega
theorem merge1 {k : Key} {a : V} : mergeK [] [(k, a)] = [(k, a)] := rfl
theorem merge3 {k l m : Key} {a b c : V} (h1 : k ≠ l) (h2 : k ≠ m) (h3 : l ≠ m) : mergeK [] [(k, a), (l, b), (m, c)] = [(k, a), (l, b), (m, c)] := by
  simp [mergeK, putK, h1, h2, h3]
theorem keys_apart : (Sum.inr "letters" : Key) ≠ .inr "turns" ∧ (Sum.inr "letters" : Key) ≠ .inr "nexts" ∧ (Sum.inr "turns" : Key) ≠ .inr "nexts" := by decide +kernel
theorem rep_flat {α : Type} (z : α) : ∀ n : Nat, (List.replicate n [z]).flatten = List.replicate n z
  | 0 => rfl
  | n + 1 => by rw [List.replicate_succ, List.replicate_succ, List.flatten_cons, rep_flat z n]; rfl
theorem same_put {H H' : Hp} {a : Addr} {o : HO} (s : Same H H') (n : H a = none) : Same H (upd H' a o) := fun b u e => by
  rw [upd_ne (ne_of_none e n)]
  exact s b u e
def NAMES : List Str := ["a", "b", "c", "d", "e", "f", "g", "go", "up", "zz", "turner", "zzzzzzzz"]
theorem names_nodup : NAMES.Nodup := by decide +kernel
/-- the names of a plain machine, drawn -/
def spNames : Sp := fun vs H Q _ => ∃ (u : Addr) (n : Nat), vs = [.ref u, .int n] ∧ UrnOk H u ∧ 1 ≤ n ∧ n ≤ 11 ∧
  ∀ (H' : Hp) (p : Addr) (ns : List Str), Drew u H H' → H p = none → H' p = some (.lst (ns.map V.str)) → ns.Nodup → (∀ z ∈ ns, z ∈ NAMES) → ns.length = n → Q (.ref p) H'
/-- a row: a name, its turn and the names behind -/
structure Row where
  nm : Str
  ta : Addr
  turn : List Int
  xa : Addr
  nexts : List Str
/-- a plain machine at p -/
structure PlainAt (H : Hp) (p t x : Addr) (n : Nat) (rs : List Row) : Prop where
  top : H p = some (.dK [(.inr "letters", .int n), (.inr "turns", .ref t), (.inr "nexts", .ref x)])
  ts : H t = some (.dK (rs.map fun r => ((.inr r.nm : Key), V.ref r.ta)))
  xs : H x = some (.dK (rs.map fun r => ((.inr r.nm : Key), V.ref r.xa)))
  tt : ∀ r ∈ rs, H r.ta = some (.tup (r.turn.map V.int))
  xt : ∀ r ∈ rs, H r.xa = some (.tup (r.nexts.map V.str))
structure RowOk (n : Nat) (names : List Str) (r : Row) : Prop where
  turn : r.turn.Perm (upto n)
  many : r.nexts.length = n
  among : ∀ z ∈ r.nexts, z ∈ names
/-- a good plain machine of at most eight states -/
structure Good (n : Nat) (rs : List Row) : Prop where
  lo : 2 ≤ n
  hi : n ≤ 4
  nd : (rs.map Row.nm).Nodup
  nms : ∀ r ∈ rs, r.nm ∈ NAMES
  one : 1 ≤ rs.length
  most : rs.length ≤ 8
  ok : ∀ r ∈ rs, RowOk n (rs.map Row.nm) r
/-- a plain machine of one state that does nothing -/
def spCalm (K : PySem.W.Frag) : Sp := fun vs H Q _ => ∃ (n : Nat) (a : Addr) (z : Str) (ns : List Str), vs = [.int n, .ref a] ∧ 2 ≤ n ∧ n ≤ 4 ∧ SqL K H a ((z :: ns).map V.str) ∧
  ∀ (H' : Hp) (p t x ta xa : Addr), Same H H' → H p = none → H t = none → H x = none → p ≠ t → p ≠ x → t ≠ x → PlainAt H' p t x n [⟨z, ta, upto n, xa, List.replicate n z⟩] → Q (.ref p) H'
/-- what stands at a but for the urn u stays -/
def Kept (u : Addr) (H H' : Hp) : Prop := UrnOk H' u ∧ ∀ b o, b ≠ u → H b = some o → H' b = some o
/-- a plain machine that is being made: the rows' turns and nexts so far -/
structure Made (H : Hp) (p t x : Addr) (n : Nat) (ts : List (Str × Addr × List Int)) (xs : List (Str × Addr × List Str)) : Prop where
  top : H p = some (.dK [(.inr "letters", .int n), (.inr "turns", .ref t), (.inr "nexts", .ref x)])
  tk : H t = some (.dK (ts.map fun r => ((.inr r.1 : Key), V.ref r.2.1)))
  xk : H x = some (.dK (xs.map fun r => ((.inr r.1 : Key), V.ref r.2.1)))
  tt : ∀ r ∈ ts, H r.2.1 = some (.tup (r.2.2.map V.int))
  xt : ∀ r ∈ xs, H r.2.1 = some (.tup (r.2.2.map V.str))
/-- its rows -/
def tsOf (rs : List Row) : List (Str × Addr × List Int) := rs.map fun r => (r.nm, r.ta, r.turn)
def xsOf (rs : List Row) : List (Str × Addr × List Str) := rs.map fun r => (r.nm, r.xa, r.nexts)
theorem PlainAt.made {H : Hp} {p t x : Addr} {n : Nat} {rs : List Row} (h : PlainAt H p t x n rs) : Made H p t x n (tsOf rs) (xsOf rs) := by
  refine ⟨h.top, ?_, ?_, fun r hr => ?_, fun r hr => ?_⟩
  · rw [h.ts, tsOf, List.map_map]
    rfl
  · rw [h.xs, xsOf, List.map_map]
    rfl
  · obtain ⟨q, hq, rfl⟩ := List.mem_map.mp hr
    exact h.tt q hq
  · obtain ⟨q, hq, rfl⟩ := List.mem_map.mp hr
    exact h.xt q hq
theorem Made.plain {H : Hp} {p t x : Addr} {n : Nat} {rs : List Row} (h : Made H p t x n (tsOf rs) (xsOf rs)) : PlainAt H p t x n rs := by
  refine ⟨h.top, ?_, ?_, fun r hr => h.tt (r.nm, r.ta, r.turn) (List.mem_map.mpr ⟨r, hr, rfl⟩), fun r hr => h.xt (r.nm, r.xa, r.nexts) (List.mem_map.mpr ⟨r, hr, rfl⟩)⟩
  · rw [h.tk, tsOf, List.map_map]
    rfl
  · rw [h.xk, xsOf, List.map_map]
    rfl
/-- it stays where only the urn is drawn from -/
theorem Made.drew {H H' : Hp} {u p t x : Addr} {n : Nat} {ts : List (Str × Addr × List Int)} {xs : List (Str × Addr × List Str)} (h : Made H p t x n ts xs) (hu : UrnOk H u) (d : Drew u H H') : Made H' p t x n ts xs := by
  obtain ⟨us, e, _⟩ := hu
  have k : ∀ b o, H b = some o → (∀ l, o ≠ .lst l) → H' b = some o := fun b o q nl => d.2 b o (fun z => by rw [z, e] at q; exact nl _ (Option.some.inj q).symm) q
  exact ⟨k _ _ h.top (fun _ z => by cases z), k _ _ h.tk (fun _ z => by cases z), k _ _ h.xk (fun _ z => by cases z), fun r hr => k _ _ (h.tt r hr) (fun _ z => by cases z), fun r hr => k _ _ (h.xt r hr) (fun _ z => by cases z)⟩
theorem Made.same {H H' : Hp} {p t x : Addr} {n : Nat} {ts : List (Str × Addr × List Int)} {xs : List (Str × Addr × List Str)} (h : Made H p t x n ts xs) (s : Same H H') : Made H' p t x n ts xs :=
  ⟨s _ _ h.top, s _ _ h.tk, s _ _ h.xk, fun r hr => s _ _ (h.tt r hr), fun r hr => s _ _ (h.xt r hr)⟩
theorem put_last {β : Type} {l : List (Str × Addr × β)} {z : Str} {a : Addr} {b : β} (h : z ∉ l.map (·.1)) : putK (l.map fun r => ((.inr r.1 : Key), V.ref r.2.1)) (.inr z) (.ref a) = ((l ++ [(z, a, b)]).map fun r => ((.inr r.1 : Key), V.ref r.2.1)) := by
  have e : ((l.map fun r => ((.inr r.1 : Key), V.ref r.2.1)).any fun kv => decide (kv.1 = (.inr z : Key))) = false := by
    rw [List.any_eq_false]
    intro kv hk
    obtain ⟨r, hr, rfl⟩ := List.mem_map.mp hk
    intro q
    have q' : (Sum.inr r.1 : Key) = .inr z := of_decide_eq_true q
    exact h (List.mem_map.mpr ⟨r, hr, by injection q'⟩)
  unfold putK
  rw [e, if_neg (by decide), List.map_append]
  rfl
/-- a list beside it is written -/
theorem Made.putL {H : Hp} {p t x D : Addr} {n : Nat} {ts : List (Str × Addr × List Int)} {xs : List (Str × Addr × List Str)} {o os : List V} (h : Made H p t x n ts xs) (pD : p ≠ D) (tD : t ≠ D) (xD : x ≠ D) (hD : H D = some (.lst os)) : Made (upd H D (.lst o)) p t x n ts xs := by
  have nt : ∀ b l, H b = some (.tup l) → b ≠ D := fun b l e q => by rw [q, hD] at e; cases e
  exact ⟨by rw [upd_ne pD]; exact h.top, by rw [upd_ne tD]; exact h.tk, by rw [upd_ne xD]; exact h.xk, fun r hr => by rw [upd_ne (nt _ _ (h.tt r hr))]; exact h.tt r hr, fun r hr => by rw [upd_ne (nt _ _ (h.xt r hr))]; exact h.xt r hr⟩
/-- turns[z] = ta -/
theorem Made.putT {H : Hp} {p t x ta : Addr} {n : Nat} {ts : List (Str × Addr × List Int)} {xs : List (Str × Addr × List Str)} {z : Str} {l : List Int} (h : Made H p t x n ts xs) (pt : p ≠ t) (tx : t ≠ x) (hz : z ∉ ts.map (·.1)) (ha : H ta = some (.tup (l.map V.int))) :
    Made (upd H t (.dK (putK (ts.map fun r => ((.inr r.1 : Key), V.ref r.2.1)) (.inr z) (.ref ta)))) p t x n (ts ++ [(z, ta, l)]) xs := by
  have nt : ∀ b xs', H b = some (.tup xs') → b ≠ t := fun b xs' e q => by rw [q, h.tk] at e; cases e
  refine ⟨by rw [upd_ne pt]; exact h.top, by rw [upd_same, put_last hz], by rw [upd_ne tx.symm]; exact h.xk, fun r hr => ?_, fun r hr => by rw [upd_ne (nt _ _ (h.xt r hr))]; exact h.xt r hr⟩
  rcases List.mem_append.mp hr with hr | hr
  · rw [upd_ne (nt _ _ (h.tt r hr))]
    exact h.tt r hr
  · obtain rfl := List.mem_singleton.mp hr
    rw [upd_ne (nt _ _ ha)]
    exact ha
/-- nexts[z] = xa -/
theorem Made.putX {H : Hp} {p t x xa : Addr} {n : Nat} {ts : List (Str × Addr × List Int)} {xs : List (Str × Addr × List Str)} {z : Str} {l : List Str} (h : Made H p t x n ts xs) (px : p ≠ x) (tx : t ≠ x) (hz : z ∉ xs.map (·.1)) (ha : H xa = some (.tup (l.map V.str))) :
    Made (upd H x (.dK (putK (xs.map fun r => ((.inr r.1 : Key), V.ref r.2.1)) (.inr z) (.ref xa)))) p t x n ts (xs ++ [(z, xa, l)]) := by
  have nt : ∀ b xs', H b = some (.tup xs') → b ≠ x := fun b xs' e q => by rw [q, h.xk] at e; cases e
  refine ⟨by rw [upd_ne px]; exact h.top, by rw [upd_ne tx]; exact h.tk, by rw [upd_same, put_last hz], fun r hr => by rw [upd_ne (nt _ _ (h.tt r hr))]; exact h.tt r hr, fun r hr => ?_⟩
  rcases List.mem_append.mp hr with hr | hr
  · rw [upd_ne (nt _ _ (h.xt r hr))]
    exact h.xt r hr
  · obtain rfl := List.mem_singleton.mp hr
    rw [upd_ne (nt _ _ ha)]
    exact ha
/-- d['letters'], d['turns'], d['nexts'] -/
theorem Made.get {H : Hp} {p t x : Addr} {n : Nat} {ts : List (Str × Addr × List Int)} {xs : List (Str × Addr × List Str)} (h : Made H p t x n ts xs) : DGet H p (.str "letters") (some (.int n)) ∧ DGet H p (.str "turns") (some (.ref t)) ∧ DGet H p (.str "nexts") (some (.ref x)) := by
  obtain ⟨ka, kb, kc⟩ := keys_apart
  refine ⟨?_, ?_, ?_⟩
  · have e : valV [((.inr "letters" : Key), V.int n), (.inr "turns", .ref t), (.inr "nexts", .ref x)] (.inr "letters") = some (.int n) := valV_pos rfl
    exact e ▸ DGet.k (k := .inr "letters") h.top
  · have e : valV [((.inr "letters" : Key), V.int n), (.inr "turns", .ref t), (.inr "nexts", .ref x)] (.inr "turns") = some (.ref t) := by rw [valV_neg ka, valV_pos rfl]
    exact e ▸ DGet.k (k := .inr "turns") h.top
  · have e : valV [((.inr "letters" : Key), V.int n), (.inr "turns", .ref t), (.inr "nexts", .ref x)] (.inr "nexts") = some (.ref x) := by rw [valV_neg kb, valV_neg kc, valV_pos rfl]
    exact e ▸ DGet.k (k := .inr "nexts") h.top
theorem Drew.put {u a : Addr} {H H' : Hp} {o : HO} (d : Drew u H H') (n : H a = none) (au : a ≠ u) : Drew u H (upd H' a o) := by
  obtain ⟨⟨us, e, g⟩, k⟩ := d
  exact ⟨⟨us, by rw [upd_ne au.symm]; exact e, g⟩, fun b o' bu q => by rw [upd_ne (ne_of_none q n)]; exact k b o' bu q⟩
theorem RowOk.mono {n : Nat} {l l' : List Str} {r : Row} (h : RowOk n l r) (k : ∀ z ∈ l, z ∈ l') : RowOk n l' r := ⟨h.turn, h.many, fun z hz => k z (h.among z hz)⟩
/-- so far: the rows of the first k names stand in the plain machine at p -/
def SoFar (u a p t x : Addr) (n : Nat) (names : List Str) (H : Hp) (k : Nat) (H' : Hp) : Prop :=
  ∃ rs : List Row, rs.map Row.nm = names.take k ∧ Made H' p t x n (tsOf rs) (xsOf rs) ∧ (∀ r ∈ rs, RowOk n names r) ∧ H' a = some (.lst (names.map V.str)) ∧ Drew u H H'
theorem tsOf_names (rs : List Row) : (tsOf rs).map (·.1) = rs.map Row.nm := by
  unfold tsOf
  rw [List.map_map]
  rfl
theorem xsOf_names (rs : List Row) : (xsOf rs).map (·.1) = rs.map Row.nm := by
  unfold xsOf
  rw [List.map_map]
  rfl
theorem not_in_take {α : Type} {l : List α} {k : Nat} (nd : l.Nodup) (h : k < l.length) : l[k] ∉ l.take k := fun m => by
  obtain ⟨j, hj, e⟩ := List.getElem_of_mem m
  rw [List.length_take] at hj
  rw [List.getElem_take] at e
  exact List.pairwise_iff_getElem.mp nd j k (by omega) h (by omega) e
theorem small_rows {H : Hp} {p t x : Addr} {n k : Nat} {rs : List Row} {xs : List (Str × Addr × List Str)} {names : List Str} (_h : Made H p t x n (tsOf rs) xs) (hk : names.length ≤ 100) (e : rs.map Row.nm = names.take k) : (tsOf rs).length < sizeLine := by
  have q := congrArg List.length e
  rw [List.length_map, List.length_take] at q
  unfold tsOf
  rw [List.length_map, sizeLine_eq]
  omega
theorem small_xs {k : Nat} {rs : List Row} {names : List Str} (hk : names.length ≤ 100) (e : rs.map Row.nm = names.take k) : (xsOf rs).length < sizeLine := by
  have q := congrArg List.length e
  rw [List.length_map, List.length_take] at q
  unfold xsOf
  rw [List.length_map, sizeLine_eq]
  omega
theorem take_next {α : Type} {l : List α} {k : Nat} (h : k < l.length) : l.take (k + 1) = l.take k ++ [l[k]] := by
  rw [List.take_succ, List.getElem?_eq_getElem h]
  rfl
theorem SoFar.add {u a p t x ta xa : Addr} {n k : Nat} {names : List Str} {H H' : Hp} {rs : List Row} {l : List Int} {acc : List Str} (hk : k < names.length) (e1 : rs.map Row.nm = names.take k)
    (md : Made H' p t x n (tsOf rs ++ [(names[k], ta, l)]) (xsOf rs ++ [(names[k], xa, acc)])) (ok : ∀ r ∈ rs, RowOk n names r) (pl : l.Perm (upto n)) (hl : acc.length = n) (ha : ∀ y ∈ acc, y ∈ names)
    (hn : H' a = some (.lst (names.map V.str))) (dr : Drew u H H') : SoFar u a p t x n names H (k + 1) H' := by
  refine ⟨rs ++ [⟨names[k], ta, l, xa, acc⟩], ?_, ?_, fun r hr => ?_, hn, dr⟩
  · rw [List.map_append, e1, take_next hk]
    rfl
  · unfold tsOf xsOf at *
    rw [List.map_append, List.map_append]
    exact md
  · rcases List.mem_append.mp hr with hr | hr
    · exact ok r hr
    · obtain rfl := List.mem_singleton.mp hr
      exact ⟨pl, hl, ha⟩
theorem SoFar.good {names : List Str} {n m : Nat} {rs : List Row} (e1 : rs.map Row.nm = names.take m) (hl : names.length = m) (nd : names.Nodup) (hin : ∀ z ∈ names, z ∈ NAMES) (n2 : 2 ≤ n) (n4 : n ≤ 4) (m1 : 1 ≤ m) (m8 : m ≤ 8) (ok : ∀ r ∈ rs, RowOk n names r) : Good n rs ∧ rs.length = m := by
  rw [← hl, List.take_length] at e1
  have el : rs.length = m := by rw [← hl, ← e1, List.length_map]
  exact ⟨⟨n2, n4, by rw [e1]; exact nd, fun r hr => hin _ (by rw [← e1]; exact List.mem_map.mpr ⟨r, hr, rfl⟩), by omega, by omega, fun r hr => by rw [e1]; exact ok r hr⟩, el⟩
/-- for i, y in enumerate(a list that stays) -/
theorem for_enum {K : PySem.W.Frag} {a : Addr} {xs : List V} {g : TG} {tb : TS} {D : Ends} {σ : L2.St} {H : Hp} (J : Nat → L2.St → Hp → Prop) (start : J 0 σ H) (stays : ∀ i σ H, i ≤ xs.length → J i σ H → SqL K H a xs)
    (turn : ∀ i y σ H T, xs[i]? = some y → J i σ H → H T = none → g (.ref T) σ (upd H T (.tup [.int (i : Nat), y])) fun σ2 H2 => tb { D with nx := J (i + 1), ct := J (i + 1), bk := D.nx } σ2 H2) (done : ∀ σ H, J xs.length σ H → D.nx σ H) :
    ∃ W : Nat → Nat → L2.St → Hp → Prop, (∃ m, W 0 m σ H) ∧ ∀ i m σ H, W i m σ H →
      ((Ite K a).stop i H ∧ D.nx σ H) ∨ ((Ite K a).go i H ∧ ∃ N : L2.St → Hp → Prop, (∀ σ' H', N σ' H' → ∃ m', m' < m ∧ W (i + 1) m' σ' H') ∧ ∀ x H', (Ite K a).yld i H x H' → g x σ H' fun σ2 H2 => tb { D with nx := N, ct := N, bk := D.nx } σ2 H2) := by
  refine ⟨fun i m σ H => m + i = xs.length ∧ J i σ H, ⟨xs.length, rfl, start⟩, fun i m σ H w => ?_⟩
  obtain ⟨em, j⟩ := w
  have sq := stays i σ H (by omega) j
  cases m with
  | zero =>
    have ei : i = xs.length := by omega
    exact .inl ⟨⟨xs, sq, by omega⟩, done σ H (ei ▸ j)⟩
  | succ m =>
    have hi : i < xs.length := by omega
    refine .inr ⟨⟨xs, xs[i], sq, List.getElem?_eq_getElem hi⟩, J (i + 1), fun σ' H' j' => ⟨m, Nat.lt_succ_self m, by omega, j'⟩, fun v H' y => ?_⟩
    obtain ⟨T, y, rfl, hT, rfl, hy⟩ := y
    exact turn i y σ H T (hy xs sq) j hT
theorem merge_apart : ∀ (more acc : List (Key × V)), ((acc ++ more).map (·.1)).Nodup → mergeK acc more = acc ++ more
  | [], acc, _ => by rw [List.append_nil]; rfl
  | kv :: more, acc, h => by
    have e : (acc.any fun y => decide (y.1 = kv.1)) = false := by
      rw [List.any_eq_false]
      intro y hy q
      rw [List.map_append, List.map_cons] at h
      exact (List.nodup_append.mp h).2.2 y.1 (List.mem_map.mpr ⟨y, hy, rfl⟩) kv.1 List.mem_cons_self (of_decide_eq_true q)
    have ep : putK acc kv.1 kv.2 = acc ++ [kv] := by
      unfold putK
      rw [e, if_neg (by decide)]
    show mergeK (putK acc kv.1 kv.2) more = acc ++ kv :: more
    rw [ep, merge_apart more (acc ++ [kv]) (by rw [List.append_assoc]; exact h), List.append_assoc]
    rfl
/-- the pairs (name, object) of a list made for dict(..) -/
def PairsAt (H : Hp) (names : List Str) (ws os : List Addr) : Prop := ∀ (i : Nat) (z : Str) (w o : Addr), names[i]? = some z → ws[i]? = some w → os[i]? = some o → H w = some (.tup [.str z, .ref o])
theorem pairs_kv {K : PySem.W.Frag} {H : Hp} : ∀ {names : List Str} {ws os : List Addr}, ws.length = names.length → os.length = names.length → PairsAt H names ws os → Paired (fun p (kv : Key × V) => SqT K H p [kV kv.1, kv.2]) ws ((names.zip os).map fun r => ((.inr r.1 : Key), V.ref r.2))
  | [], [], os, _, lo, _ => by
    cases os with
    | nil => exact .nil
    | cons o os => cases lo
  | [], w :: ws, _, lw, _, _ => by cases lw
  | z :: names, [], _, lw, _, _ => by cases lw
  | z :: names, w :: ws, [], _, lo, _ => by cases lo
  | z :: names, w :: ws, o :: os, lw, lo, each =>
    .cons (.of (each 0 z w o rfl rfl rfl)) (pairs_kv (Nat.succ.inj lw) (Nat.succ.inj lo) fun i z' w' o' h1 h2 h3 => each (i + 1) z' w' o' h1 h2 h3)
theorem PairsAt.add {H H' : Hp} {names : List Str} {ws os : List Addr} {w o : Addr} {z : Str} (h : PairsAt H names ws os) (lw : ws.length = os.length) (hz : names[ws.length]? = some z) (k : ∀ b l, H b = some (.tup l) → H' b = some (.tup l)) (hw : H' w = some (.tup [.str z, .ref o])) : PairsAt H' names (ws ++ [w]) (os ++ [o]) := fun i z' w' o' h1 h2 h3 => by
  by_cases hi : i < ws.length
  · rw [List.getElem?_append_left hi] at h2
    rw [List.getElem?_append_left (by omega)] at h3
    exact k _ _ (h i z' w' o' h1 h2 h3)
  · have hl : i < (ws ++ [w]).length := (List.getElem?_eq_some_iff.mp h2).1
    rw [List.length_append, List.length_singleton] at hl
    obtain rfl : i = ws.length := by omega
    rw [List.getElem?_append_right (Nat.le_refl _), Nat.sub_self] at h2
    rw [List.getElem?_append_right (by omega), lw, Nat.sub_self] at h3
    cases h2
    cases h3
    rw [hz] at h1
    cases h1
    exact hw
theorem UrnOk.ne' {H : Hp} {u p : Addr} {o : HO} (h : UrnOk H u) (e : H p = some o) (no : ∀ l, o ≠ .lst l := by intro l z; cases z) : p ≠ u := fun z => by
  obtain ⟨us, eu, _⟩ := h
  rw [z, eu] at e
  exact no _ (Option.some.inj e).symm
abbrev kvOf (ns : List Str) (os : List Addr) : List (Key × V) := (ns.zip os).map fun r => ((.inr r.1 : Key), V.ref r.2)
theorem keys_nodup {ns : List Str} {os : List Addr} (nd : ns.Nodup) (h : os.length = ns.length) : (((ns.zip os).map fun r => ((.inr r.1 : Key), V.ref r.2)).map (·.1)).Nodup := by
  have e : ((ns.zip os).map fun r => ((.inr r.1 : Key), V.ref r.2)).map (·.1) = ns.map (Sum.inr : Str → Key) := by
    rw [List.map_map]
    have : (ns.zip os).map (·.1) = ns := List.map_fst_zip (by omega)
    conv => rhs; rw [← this, List.map_map]
    rfl
  rw [e]
  exact List.pairwise_map.mpr (nd.imp fun hne z => hne (by injection z))
def mkRows : List Str → List (Addr × List Int) → List (Addr × List Str) → List Row
  | z :: ns, q :: tl, y :: xl => ⟨z, q.1, q.2, y.1, y.2⟩ :: mkRows ns tl xl
  | _, _, _ => []
theorem mkRows_nm : ∀ {ns : List Str} {tl : List (Addr × List Int)} {xl : List (Addr × List Str)}, tl.length = ns.length → xl.length = ns.length →
    (mkRows ns tl xl).map Row.nm = ns ∧ ((ns.zip (tl.map (·.1))).map fun r => ((.inr r.1 : Key), V.ref r.2)) = ((mkRows ns tl xl).map fun r => ((.inr r.nm : Key), V.ref r.ta)) ∧ ((ns.zip (xl.map (·.1))).map fun r => ((.inr r.1 : Key), V.ref r.2)) = ((mkRows ns tl xl).map fun r => ((.inr r.nm : Key), V.ref r.xa))
  | [], tl, xl, h1, h2 => by
    cases tl with
    | cons => cases h1
    | nil =>
      cases xl with
      | cons => cases h2
      | nil => exact ⟨rfl, rfl, rfl⟩
  | z :: ns, [], _, h1, _ => by cases h1
  | z :: ns, _ :: _, [], _, h2 => by cases h2
  | z :: ns, q :: tl, y :: xl, h1, h2 => by
    obtain ⟨a, b, c⟩ := mkRows_nm (Nat.succ.inj h1) (Nat.succ.inj h2)
    exact ⟨congrArg (z :: ·) a, congrArg ((((.inr z : Key), V.ref q.1)) :: ·) b, congrArg ((((.inr z : Key), V.ref y.1)) :: ·) c⟩
theorem mkRows_in : ∀ {ns : List Str} {tl : List (Addr × List Int)} {xl : List (Addr × List Str)} {r : Row}, r ∈ mkRows ns tl xl → (r.ta, r.turn) ∈ tl ∧ (r.xa, r.nexts) ∈ xl
  | [], _, _, _, h => by
    unfold mkRows at h
    cases h
  | z :: ns, [], _, _, h => by
    unfold mkRows at h
    cases h
  | z :: ns, _ :: _, [], _, h => by
    unfold mkRows at h
    cases h
  | z :: ns, q :: tl, y :: xl, r, h => by
    unfold mkRows at h
    rcases List.mem_cons.mp h with rfl | h
    · exact ⟨List.mem_cons_self, List.mem_cons_self⟩
    · obtain ⟨a, b⟩ := mkRows_in h
      exact ⟨List.mem_cons_of_mem _ a, List.mem_cons_of_mem _ b⟩
/-- a plain machine whose loops lead down, drawn -/
def spQuiet : Sp := fun vs H Q _ => ∃ (u : Addr) (n m : Nat), vs = [.ref u, .int n, .int m] ∧ UrnOk H u ∧ 2 ≤ n ∧ n ≤ 4 ∧ 1 ≤ m ∧ m ≤ 8 ∧
  ∀ (H' : Hp) (p t x : Addr) (rs : List Row), Drew u H H' → H p = none → H t = none → H x = none → p ≠ t → p ≠ x → t ≠ x → PlainAt H' p t x n rs → Good n rs → rs.length = m → Q (.ref p) H'
theorem sortD {X : Cx} (hc : X.calm = true) : CallR X (.builtin "sorted") (fun xs H Q => ∃ (a : Addr) (kvs : List (Key × V)) (ks : List Str), xs = [.ref a] ∧ Rd H a (.dK kvs) ∧ kvs.map (·.1) = ks.map Sum.inr ∧ ks.length < 64 ∧
    ∀ ys p, ys.Perm ks → sortedS ys = true → H p = none → Q (.ref p) (upd H p (.lst (ys.map V.str)))) := call_sortedD hc
/-- a plain machine, changed at one place or not at all -/
def spBent : Sp := fun vs H Q _ => ∃ (u p t x : Addr) (n : Nat) (rs : List Row), vs = [.ref u, .ref p] ∧ UrnOk H u ∧ PlainAt H p t x n rs ∧ Good n rs ∧
  ∀ (H' : Hp) (p' t' x' : Addr) (rs' : List Row), Drew u H H' → H p' = none → H t' = none → H x' = none → p' ≠ t' → p' ≠ x' → t' ≠ x' → PlainAt H' p' t' x' n rs' → Good n rs' → rs'.map Row.nm = rs.map Row.nm → Q (.ref p') H'
end My

set_option Elab.async false
set_option linter.all false
set_option maxRecDepth 100000
set_option maxHeartbeats 2000000
namespace My
open PySem PySem.Spec PyProof.Rows L2
def top (i : Nat) : Stmt := PySem.Challenge.pw_textmovers_k01_whole_errors.main.body.getD i (.Pass ⟨0, 0, 0, 0⟩)
abbrev s_ParseError_init : Stmt := inClass (top 8) 0
abbrev n_ParseError_init : List Str := ["self", "index"]
abbrev p_ParseError_init : List Str := ["self", "index"]
theorem sc_ParseError_init : FnScope n_ParseError_init p_ParseError_init (defScope s_ParseError_init) := ⟨rfl, rfl, rfl, by decide +kernel, rfl, by decide +kernel, by decide +kernel⟩
abbrev s_InvalidNumber_init : Stmt := inClass (top 9) 0
abbrev n_InvalidNumber_init : List Str := ["self", "value"]
abbrev p_InvalidNumber_init : List Str := ["self", "value"]
theorem sc_InvalidNumber_init : FnScope n_InvalidNumber_init p_InvalidNumber_init (defScope s_InvalidNumber_init) := ⟨rfl, rfl, rfl, by decide +kernel, rfl, by decide +kernel, by decide +kernel⟩
abbrev s_InvalidNumber_str : Stmt := inClass (top 9) 1
abbrev n_InvalidNumber_str : List Str := ["self"]
abbrev p_InvalidNumber_str : List Str := ["self"]
theorem sc_InvalidNumber_str : FnScope n_InvalidNumber_str p_InvalidNumber_str (defScope s_InvalidNumber_str) := ⟨rfl, rfl, rfl, by decide +kernel, rfl, by decide +kernel, by decide +kernel⟩
abbrev s_UnknownName_init : Stmt := inClass (top 10) 0
abbrev n_UnknownName_init : List Str := ["self", "name"]
abbrev p_UnknownName_init : List Str := ["self", "name"]
theorem sc_UnknownName_init : FnScope n_UnknownName_init p_UnknownName_init (defScope s_UnknownName_init) := ⟨rfl, rfl, rfl, by decide +kernel, rfl, by decide +kernel, by decide +kernel⟩
abbrev s_UnknownName_str : Stmt := inClass (top 10) 1
abbrev n_UnknownName_str : List Str := ["self"]
abbrev p_UnknownName_str : List Str := ["self"]
theorem sc_UnknownName_str : FnScope n_UnknownName_str p_UnknownName_str (defScope s_UnknownName_str) := ⟨rfl, rfl, rfl, by decide +kernel, rfl, by decide +kernel, by decide +kernel⟩
abbrev s_TooMany_init : Stmt := inClass (top 11) 0
abbrev n_TooMany_init : List Str := ["self", "limit"]
abbrev p_TooMany_init : List Str := ["self", "limit"]
theorem sc_TooMany_init : FnScope n_TooMany_init p_TooMany_init (defScope s_TooMany_init) := ⟨rfl, rfl, rfl, by decide +kernel, rfl, by decide +kernel, by decide +kernel⟩
abbrev s_NothingToUndo_init : Stmt := inClass (top 12) 0
abbrev n_NothingToUndo_init : List Str := ["self", "many"]
abbrev p_NothingToUndo_init : List Str := ["self", "many"]
theorem sc_NothingToUndo_init : FnScope n_NothingToUndo_init p_NothingToUndo_init (defScope s_NothingToUndo_init) := ⟨rfl, rfl, rfl, by decide +kernel, rfl, by decide +kernel, by decide +kernel⟩
abbrev s_Broken_init : Stmt := inClass (top 13) 0
abbrev n_Broken_init : List Str := ["self", "label"]
abbrev p_Broken_init : List Str := ["self", "label"]
theorem sc_Broken_init : FnScope n_Broken_init p_Broken_init (defScope s_Broken_init) := ⟨rfl, rfl, rfl, by decide +kernel, rfl, by decide +kernel, by decide +kernel⟩
abbrev s_Loud_init : Stmt := inClass (top 14) 0
abbrev n_Loud_init : List Str := ["self", "state"]
abbrev p_Loud_init : List Str := ["self", "state"]
theorem sc_Loud_init : FnScope n_Loud_init p_Loud_init (defScope s_Loud_init) := ⟨rfl, rfl, rfl, by decide +kernel, rfl, by decide +kernel, by decide +kernel⟩
abbrev s_urn : Stmt := top 16
abbrev n_urn : List Str := ["_law_script", "_law_at", "_law_cell", "_law_great", "_law_mixed"]
abbrev p_urn : List Str := ["_law_script", "_law_at"]
theorem sc_urn : FnScope n_urn p_urn (defScope s_urn) := ⟨rfl, rfl, rfl, by decide +kernel, rfl, by decide +kernel, by decide +kernel⟩
abbrev s_dip : Stmt := top 17
abbrev n_dip : List Str := ["_law_urn_here", "_law_total", "_law_one", "_law_two", "_law_found"]
abbrev p_dip : List Str := ["_law_urn_here", "_law_total"]
theorem sc_dip : FnScope n_dip p_dip (defScope s_dip) := ⟨rfl, rfl, rfl, by decide +kernel, rfl, by decide +kernel, by decide +kernel⟩
abbrev s_one_of : Stmt := top 18
abbrev n_one_of : List Str := ["_law_urn_here", "_law_items"]
abbrev p_one_of : List Str := ["_law_urn_here", "_law_items"]
theorem sc_one_of : FnScope n_one_of p_one_of (defScope s_one_of) := ⟨rfl, rfl, rfl, by decide +kernel, rfl, by decide +kernel, by decide +kernel⟩
abbrev s_shuffled : Stmt := top 19
abbrev n_shuffled : List Str := ["_law_urn_here", "_law_items", "_law_waits", "_law_turn"]
abbrev p_shuffled : List Str := ["_law_urn_here", "_law_items"]
theorem sc_shuffled : FnScope n_shuffled p_shuffled (defScope s_shuffled) := ⟨rfl, rfl, rfl, by decide +kernel, rfl, by decide +kernel, by decide +kernel⟩
abbrev s_names : Stmt := top 20
abbrev n_names : List Str := ["_law_urn_here", "_law_size"]
abbrev p_names : List Str := ["_law_urn_here", "_law_size"]
theorem sc_names : FnScope n_names p_names (defScope s_names) := ⟨rfl, rfl, rfl, by decide +kernel, rfl, by decide +kernel, by decide +kernel⟩
abbrev s_made_one : Stmt := top 21
abbrev n_made_one : List Str := ["_law_lot", "_law_value"]
abbrev p_made_one : List Str := ["_law_lot", "_law_value"]
theorem sc_made_one : FnScope n_made_one p_made_one (defScope s_made_one) := ⟨rfl, rfl, rfl, by decide +kernel, rfl, by decide +kernel, by decide +kernel⟩
abbrev s_sorts : Stmt := top 22
abbrev n_sorts : List Str := ["_law_e", "_law_found"]
abbrev p_sorts : List Str := ["_law_e"]
theorem sc_sorts : FnScope n_sorts p_sorts (defScope s_sorts) := ⟨rfl, rfl, rfl, by decide +kernel, rfl, by decide +kernel, by decide +kernel⟩
abbrev s_kin : Stmt := top 23
abbrev n_kin : List Str := ["_law_e", "_law_found"]
abbrev p_kin : List Str := ["_law_e"]
theorem sc_kin : FnScope n_kin p_kin (defScope s_kin) := ⟨rfl, rfl, rfl, by decide +kernel, rfl, by decide +kernel, by decide +kernel⟩
abbrev s_due : Stmt := top 24
abbrev n_due : List Str := ["_law_lot", "_law_some", "_law_at"]
abbrev p_due : List Str := ["_law_lot"]
theorem sc_due : FnScope n_due p_due (defScope s_due) := ⟨rfl, rfl, rfl, by decide +kernel, rfl, by decide +kernel, by decide +kernel⟩
abbrev s_kept : Stmt := top 25
abbrev n_kept : List Str := ["_law_lot", "_law_e"]
abbrev p_kept : List Str := ["_law_lot", "_law_e"]
theorem sc_kept : FnScope n_kept p_kept (defScope s_kept) := ⟨rfl, rfl, rfl, by decide +kernel, rfl, by decide +kernel, by decide +kernel⟩
abbrev s_due_kept : Stmt := top 26
abbrev n_due_kept : List Str := ["_law_lot", "_law_value"]
abbrev p_due_kept : List Str := ["_law_lot", "_law_value"]
theorem sc_due_kept : FnScope n_due_kept p_due_kept (defScope s_due_kept) := ⟨rfl, rfl, rfl, by decide +kernel, rfl, by decide +kernel, by decide +kernel⟩
abbrev s_value_for : Stmt := top 27
abbrev n_value_for : List Str := ["_law_urn_here", "_law_lot"]
abbrev p_value_for : List Str := ["_law_urn_here", "_law_lot"]
theorem sc_value_for : FnScope n_value_for p_value_for (defScope s_value_for) := ⟨rfl, rfl, rfl, by decide +kernel, rfl, by decide +kernel, by decide +kernel⟩
abbrev s_thrown : Stmt := top 28
abbrev n_thrown : List Str := ["_law_lot", "_law_value"]
abbrev p_thrown : List Str := ["_law_lot", "_law_value"]
theorem sc_thrown : FnScope n_thrown p_thrown (defScope s_thrown) := ⟨rfl, rfl, rfl, by decide +kernel, rfl, by decide +kernel, by decide +kernel⟩
abbrev s_caught : Stmt := top 29
abbrev n_caught : List Str := ["_law_lot", "_law_value"]
abbrev p_caught : List Str := ["_law_lot", "_law_value"]
theorem sc_caught : FnScope n_caught p_caught (defScope s_caught) := ⟨rfl, rfl, rfl, by decide +kernel, rfl, by decide +kernel, by decide +kernel⟩
abbrev s_law : Stmt := top 30
abbrev n_law : List Str := ["_law_script", "_law_at", "_law_urn_here", "_law_found", "_law_lot", "_law_value", "_law_e"]
abbrev p_law : List Str := ["_law_script"]
theorem sc_law : FnScope n_law p_law (defScope s_law) := ⟨rfl, rfl, rfl, by decide +kernel, rfl, by decide +kernel, by decide +kernel⟩
structure Tx (K : PySem.W.Frag) (mg : Str → Option Value) where
  C_ParseError : Addr
  i_ParseError : Addr
  x_ParseError : ExParseError.TxtParseError K mg C_ParseError i_ParseError
  C_InvalidNumber : Addr
  i_InvalidNumber : Addr
  x_InvalidNumber : ExInvalidNumber.TxtInvalidNumber K mg C_InvalidNumber i_InvalidNumber
  C_UnknownName : Addr
  i_UnknownName : Addr
  x_UnknownName : ExUnknownName.TxtUnknownName K mg C_UnknownName i_UnknownName
  C_TooMany : Addr
  i_TooMany : Addr
  x_TooMany : ExTooMany.TxtTooMany K mg C_TooMany i_TooMany
  C_NothingToUndo : Addr
  i_NothingToUndo : Addr
  x_NothingToUndo : ExNothingToUndo.TxtNothingToUndo K mg C_NothingToUndo i_NothingToUndo
  C_Broken : Addr
  i_Broken : Addr
  x_Broken : ExBroken.TxtBroken K mg C_Broken i_Broken
  C_Loud : Addr
  i_Loud : Addr
  x_Loud : ExLoud.TxtLoud K mg C_Loud i_Loud
  ValueError : mg "ValueError" = none
  IndexError : mg "IndexError" = none
  KeyError : mg "KeyError" = none
  OverflowError : mg "OverflowError" = none
  LookupError : mg "LookupError" = none
  ArithmeticError : mg "ArithmeticError" = none
  RuntimeError : mg "RuntimeError" = none
  list : mg "list" = none
  range : mg "range" = none
  repr : mg "repr" = none
  int : mg "int" = none
  max : mg "max" = none
  isinstance : mg "isinstance" = none
  len : mg "len" = none
  abs : mg "abs" = none
  TypeError : mg "TypeError" = none
  str : mg "str" = none
  min : mg "min" = none
  sum : mg "sum" = none
  C_MoverError : Addr
  C_MoverError_at : mg "MoverError" = some (.ref C_MoverError)
  C_InvalidName : Addr
  C_InvalidName_at : mg "InvalidName" = some (.ref C_InvalidName)
  q_InvalidName : PySem.W.excIn K C_InvalidName bmV "ValueError.__new__" = true
  kC_InvalidName : PySem.W.keepIn K (.ref C_InvalidName) = true
  C_InvalidMachine : Addr
  C_InvalidMachine_at : mg "InvalidMachine" = some (.ref C_InvalidMachine)
  q_InvalidMachine : PySem.W.excIn K C_InvalidMachine bmV "ValueError.__new__" = true
  kC_InvalidMachine : PySem.W.keepIn K (.ref C_InvalidMachine) = true
  C_InvalidMove : Addr
  C_InvalidMove_at : mg "InvalidMove" = some (.ref C_InvalidMove)
  q_InvalidMove : PySem.W.excIn K C_InvalidMove bmV "ValueError.__new__" = true
  kC_InvalidMove : PySem.W.keepIn K (.ref C_InvalidMove) = true
  C_InvalidText : Addr
  C_InvalidText_at : mg "InvalidText" = some (.ref C_InvalidText)
  q_InvalidText : PySem.W.excIn K C_InvalidText bmV "ValueError.__new__" = true
  kC_InvalidText : PySem.W.keepIn K (.ref C_InvalidText) = true
  C_InvalidWord : Addr
  C_InvalidWord_at : mg "InvalidWord" = some (.ref C_InvalidWord)
  q_InvalidWord : PySem.W.excIn K C_InvalidWord bmV "ValueError.__new__" = true
  kC_InvalidWord : PySem.W.keepIn K (.ref C_InvalidWord) = true
  C_InvalidOperation : Addr
  C_InvalidOperation_at : mg "InvalidOperation" = some (.ref C_InvalidOperation)
  q_InvalidOperation : PySem.W.excIn K C_InvalidOperation bmV "ValueError.__new__" = true
  kC_InvalidOperation : PySem.W.keepIn K (.ref C_InvalidOperation) = true
  tab : sortTab K [C_InvalidName, C_InvalidMachine, C_InvalidMove, C_InvalidText, C_InvalidWord, C_InvalidOperation, C_ParseError, C_InvalidNumber, C_UnknownName, C_TooMany, C_NothingToUndo, C_Broken, C_Loud, C_MoverError] = true
  s_InvalidNumber : Addr
  ds_InvalidNumber : FuncData
  S_InvalidNumber : Fun K "__str__" "InvalidNumber.__str__" s_InvalidNumber_str s_InvalidNumber ds_InvalidNumber
  bb_InvalidNumber : Binds K ds_InvalidNumber p_InvalidNumber_str []
  fs_InvalidNumber : PySem.W.findIn K (.ref C_InvalidNumber) "__str__" = some (some (.ref s_InvalidNumber))
  isF_InvalidNumber : PySem.W.isFn K (.ref s_InvalidNumber) = true
  s_UnknownName : Addr
  ds_UnknownName : FuncData
  S_UnknownName : Fun K "__str__" "UnknownName.__str__" s_UnknownName_str s_UnknownName ds_UnknownName
  bb_UnknownName : Binds K ds_UnknownName p_UnknownName_str []
  fs_UnknownName : PySem.W.findIn K (.ref C_UnknownName) "__str__" = some (some (.ref s_UnknownName))
  isF_UnknownName : PySem.W.isFn K (.ref s_UnknownName) = true
  f_urn : Addr
  d_urn : FuncData
  F_urn : Fun K "_law_urn" "_law_urn" s_urn f_urn d_urn
  m_urn : mg "_law_urn" = some (.ref f_urn)
  b_urn : Binds K d_urn p_urn []
  f_dip : Addr
  d_dip : FuncData
  F_dip : Fun K "_law_dip" "_law_dip" s_dip f_dip d_dip
  m_dip : mg "_law_dip" = some (.ref f_dip)
  b_dip : Binds K d_dip p_dip []
  f_one_of : Addr
  d_one_of : FuncData
  F_one_of : Fun K "_law_one_of" "_law_one_of" s_one_of f_one_of d_one_of
  m_one_of : mg "_law_one_of" = some (.ref f_one_of)
  b_one_of : Binds K d_one_of p_one_of []
  f_shuffled : Addr
  d_shuffled : FuncData
  F_shuffled : Fun K "_law_shuffled" "_law_shuffled" s_shuffled f_shuffled d_shuffled
  m_shuffled : mg "_law_shuffled" = some (.ref f_shuffled)
  b_shuffled : Binds K d_shuffled p_shuffled []
  f_names : Addr
  d_names : FuncData
  F_names : Fun K "_law_names" "_law_names" s_names f_names d_names
  m_names : mg "_law_names" = some (.ref f_names)
  b_names : Binds K d_names p_names []
  f_made_one : Addr
  d_made_one : FuncData
  F_made_one : Fun K "_law_made_one" "_law_made_one" s_made_one f_made_one d_made_one
  m_made_one : mg "_law_made_one" = some (.ref f_made_one)
  b_made_one : Binds K d_made_one p_made_one []
  f_sorts : Addr
  d_sorts : FuncData
  F_sorts : Fun K "_law_sorts" "_law_sorts" s_sorts f_sorts d_sorts
  m_sorts : mg "_law_sorts" = some (.ref f_sorts)
  b_sorts : Binds K d_sorts p_sorts []
  f_kin : Addr
  d_kin : FuncData
  F_kin : Fun K "_law_kin" "_law_kin" s_kin f_kin d_kin
  m_kin : mg "_law_kin" = some (.ref f_kin)
  b_kin : Binds K d_kin p_kin []
  f_due : Addr
  d_due : FuncData
  F_due : Fun K "_law_due" "_law_due" s_due f_due d_due
  m_due : mg "_law_due" = some (.ref f_due)
  b_due : Binds K d_due p_due []
  f_kept : Addr
  d_kept : FuncData
  F_kept : Fun K "_law_kept" "_law_kept" s_kept f_kept d_kept
  m_kept : mg "_law_kept" = some (.ref f_kept)
  b_kept : Binds K d_kept p_kept []
  f_due_kept : Addr
  d_due_kept : FuncData
  F_due_kept : Fun K "_law_due_kept" "_law_due_kept" s_due_kept f_due_kept d_due_kept
  m_due_kept : mg "_law_due_kept" = some (.ref f_due_kept)
  b_due_kept : Binds K d_due_kept p_due_kept []
  f_value_for : Addr
  d_value_for : FuncData
  F_value_for : Fun K "_law_value_for" "_law_value_for" s_value_for f_value_for d_value_for
  m_value_for : mg "_law_value_for" = some (.ref f_value_for)
  b_value_for : Binds K d_value_for p_value_for []
  f_thrown : Addr
  d_thrown : FuncData
  F_thrown : Fun K "_law_thrown" "_law_thrown" s_thrown f_thrown d_thrown
  m_thrown : mg "_law_thrown" = some (.ref f_thrown)
  b_thrown : Binds K d_thrown p_thrown []
  f_caught : Addr
  d_caught : FuncData
  F_caught : Fun K "_law_caught" "_law_caught" s_caught f_caught d_caught
  m_caught : mg "_law_caught" = some (.ref f_caught)
  b_caught : Binds K d_caught p_caught []
  f_law : Addr
  d_law : FuncData
  F_law : Fun K "law" "law" s_law f_law d_law
  m_law : mg "law" = some (.ref f_law)
  b_law : Binds K d_law p_law []
section
variable {P : Program} {w : World} {K : PySem.W.Frag} {mg : Str → Option Value} {base : Heap}
theorem ok_urn (T : Tx K mg) : FnOk P w K mg base CX0 1 T.f_urn T.d_urn p_urn (spUrn K) := by
  refine T.F_urn.ok sc_urn (fun vs H Q E h => ?_) (fun cdv A outer s H vs Q E hr h => ?_)
  · obtain ⟨a, ns, k, rfl, _⟩ := h
    rfl
  · obtain ⟨a, ns, k, rfl, hS, hk, q⟩ := h
    refine ⟨_, (C8.pss_cut (ps_set (i := 2) sc_urn.nd rfl (by first | exact Or.inl rfl | exact Or.inr rfl) (pe_ifExp (pt_cmpR op_lt (pv 1) (pe_callB (lenS K) (by rfl) T.len (by decide +kernel) (pa_cons (pv 0) pa_nil)) (nomark _)) (pe_ix (ixL K) (pv 0) (pv 1) (fun _ _ => rfl)) (pe_op op_add (pe_op op_add (pe_callB (sumK K rfl) (by rfl) T.sum (by decide +kernel) (pa_cons (pe_slice (slL K) (pv 0) po_none (po_some pe_int)) pa_nil)) (pe_op op_mul pe_int (pv 1))) pe_int)))
    (pss_cons (ps_set (i := 3) sc_urn.nd rfl (by first | exact Or.inl rfl | exact Or.inr rfl) (pe_op op_mod (pe_callTy call_int1 (by rfl) T.int (by decide +kernel) (pa_cons (pe_callB call_abs (by rfl) T.abs (by decide +kernel) (pa_cons (pv 2) pa_nil)) pa_nil)) (pe_op op_powB (pe_op op_powB pe_int pe_int) pe_int)))
    (pss_cons (ps_set (i := 4) sc_urn.nd rfl (by first | exact Or.inl rfl | exact Or.inr rfl) (pe_op op_add (pe_op op_add (pe_op op_add (pe_op op_mul (pe_op op_mod (pe_callTy call_int1 (by rfl) T.int (by decide +kernel) (pa_cons (pv 3) pa_nil)) pe_int) pe_int) (pe_op op_mul pe_int (pv 1))) (pe_op op_mul pe_int (pe_callTy call_int1 (by rfl) T.int (by decide +kernel) (pa_cons (pe_cmpR op_lt (pv 2) pe_int (nomark _)) pa_nil)))) pe_int))
    (pss_one (ps_ret (pe_lst (pa_cons (pe_callB (call_max2 rfl) (by rfl) T.max (by decide +kernel) (pa_cons pe_int (pa_cons (pe_op op_sub (pv 3) (pe_op op_powB pe_int pe_int)) pa_nil))) (pa_cons (pe_op op_mod (pe_callTy call_int1 (by rfl) T.int (by decide +kernel) (pa_cons (pv 4) pa_nil)) pe_int) (pa_cons pe_int pa_nil))))))))), ?_⟩
    refine ⟨fun σ H' => ∃ z : Int, σ = [some (.ref a), some (.int k), some (.int z), none, none] ∧ Same H H', ?_, ?_⟩
    · refine ⟨_, rfl, _, rfl, a, _, rfl, .inl hS, _, _, rfl, rfl, _, rfl, ?_⟩
      refine ite2 (fun hc => ?_) (fun hc => ?_)
      · have hc : k < ((ns.map V.int).length : Nat) := of_decide_eq_true hc
        rw [List.length_map] at hc
        refine ⟨_, rfl, _, rfl, a, _, k, .int ns[k.toNat], rfl, rfl, hS, at_of (j := k.toNat) (by omega) (get_map (by omega)), ?_⟩
        exact ⟨_, rfl, Same.refl H⟩
      · refine ⟨_, rfl, _, rfl, _, _, rfl, hS, fun p hp => ?_⟩
        refine ⟨p, ns.take 1, rfl, by rw [cut_first]; exact .of upd_same, _, rfl, _, _, rfl, rfl, .inl ⟨by decide, by decide⟩, _, _, rfl, rfl, _, _, rfl, rfl, ?_⟩
        exact ⟨_, rfl, Same.new (Same.refl H) hp⟩
    · rintro σ H' ⟨z, rfl, sm⟩
      refine ⟨_, rfl, _, rfl, .inl ⟨_, rfl, _, _, rfl, rfl, ⟨by decide, by decide +kernel⟩, _, _, rfl, rfl, ⟨by decide, by decide +kernel⟩, _, _, rfl, rfl, pow_pos_, ?_⟩⟩
      have hg0 : 0 ≤ (if z < 0 then -z else z) % (10 ^ (53 : Int).toNat) ^ (11 : Int).toNat := Int.emod_nonneg _ (Int.ne_of_gt pow_pos_)
      generalize (if z < 0 then -z else z) % (10 ^ (53 : Int).toNat) ^ (11 : Int).toNat = g at hg0 ⊢
      refine ⟨_, rfl, .inl ⟨_, rfl, _, _, rfl, rfl, by show (0 : Int) < 2305843009213693907; decide, _, _, rfl, rfl, .inr ⟨by decide, by decide⟩, _, rfl, _, _, rfl, rfl, .inl ⟨by decide, by decide⟩, _, _, rfl, rfl, ?_⟩⟩
      refine ⟨_, rfl, _, _, rfl, rfl, .inr ⟨_, rfl, _, _, rfl, rfl, .inl ⟨by decide, by decide⟩, _, _, rfl, rfl, _, _, rfl, rfl, ?_⟩⟩
      have hm0 : 0 ≤ g % 2305843009213693907 * 1000211 + 8017 * k + 37 * (if decide (z < 0) = true then 1 else 0) + 19 := by
        have := Int.emod_nonneg g (show (2305843009213693907 : Int) ≠ 0 by decide)
        split <;> omega
      generalize g % 2305843009213693907 * 1000211 + 8017 * k + 37 * (if decide (z < 0) = true then 1 else 0) + 19 = m at hm0 ⊢
      refine ⟨_, rfl, _, _, rfl, rfl, ⟨by decide, by decide +kernel⟩, _, _, rfl, rfl, _, _, rfl, ?_⟩
      refine ⟨_, rfl, .inl ⟨_, rfl, _, _, rfl, rfl, by show (0 : Int) < 2305843009213693951; decide, by show 3 ≤ sizeLine; decide, fun p hp => ?_⟩⟩
      refine q _ p (Same.new sm hp) (Same.free sm hp) ⟨_, upd_same, _, _, _, rfl, ?_, Int.emod_nonneg _ (by decide), Int.lt_of_lt_of_le (Int.emod_lt_of_pos _ (by decide)) (by decide), by decide⟩
      split <;> omega
theorem ok_dip (T : Tx K mg) : FnOk P w K mg base CX0 1 T.f_dip T.d_dip p_dip spDip := by
  refine T.F_dip.ok sc_dip (fun vs H Q E h => ?_) (fun cdv A outer s H vs Q E hr h => ?_)
  · obtain ⟨u, t, rfl, _⟩ := h
    rfl
  · obtain ⟨u, t, rfl, ⟨xs, hu, g, m, c, rfl, g0, m0, m1, c0⟩, t0, t1, q⟩ := h
    refine ⟨_, (pss_cons (ps_if (pt_cmpR op_gt (pe_ix (ixL K) (pv 0) pe_int (fun _ _ => rfl)) pe_int (nomark _))
      (pss_cons (ps_set (i := 4) sc_dip.nd rfl (by first | exact Or.inl rfl | exact Or.inr rfl) (pe_op op_mod (pe_callTy call_int1 (by rfl) T.int (by decide +kernel) (pa_cons (pe_ix (ixL K) (pv 0) pe_int (fun _ _ => rfl)) pa_nil)) (pv 1)))
    (pss_cons (ps_asg (pe_op op_fdivW (pe_ix (ixL K) (pv 0) pe_int (fun _ _ => rfl)) (pv 1)) (pg_sub (pv 0) pe_int set_list))
    (pss_one (ps_ret (pv 4)))))
      pss_nil)
    (pss_cons (ps_asg (pe_op op_add (pe_ix (ixL K) (pv 0) pe_int (fun _ _ => rfl)) pe_int) (pg_sub (pv 0) pe_int set_list))
    (pss_cons (ps_set (i := 2) sc_dip.nd rfl (by first | exact Or.inl rfl | exact Or.inr rfl) (pe_op op_mod (pe_callTy call_int1 (by rfl) T.int (by decide +kernel) (pa_cons (pe_op op_add (pe_ix (ixL K) (pv 0) pe_int (fun _ _ => rfl)) (pe_op op_mul pe_int (pe_ix (ixL K) (pv 0) pe_int (fun _ _ => rfl)))) pa_nil)) pe_int))
    (pss_cons (ps_set (i := 3) sc_dip.nd rfl (by first | exact Or.inl rfl | exact Or.inr rfl) (pe_op op_add (pe_op op_mulW (pe_op op_mod (pe_callTy call_int1 (by rfl) T.int (by decide +kernel) (pa_cons (pe_op op_mulW (pv 2) (pv 2)) pa_nil)) pe_int) (pv 2)) (pe_op op_mul pe_int (pe_ix (ixL K) (pv 0) pe_int (fun _ _ => rfl)))))
    (pss_one (ps_ret (pe_op op_mod (pe_callTy call_int1 (by rfl) T.int (by decide +kernel) (pa_cons (pe_op op_fdivW (pe_op op_mod (pe_callTy call_int1 (by rfl) T.int (by decide +kernel) (pa_cons (pv 3) pa_nil)) pe_int) pe_int) pa_nil)) (pv 1)))))))), ?_⟩
    refine ⟨_, rfl, u, _, _, _, rfl, rfl, SqL.of hu, rfl, _, _, rfl, rfl, _, rfl, ?_⟩
    refine ite2 (fun hc => ?_) (fun hc => ?_)
    · refine ⟨_, rfl, u, _, _, _, rfl, rfl, SqL.of hu, rfl, .inl ⟨_, rfl, _, rfl, _, _, rfl, rfl, t0, ?_⟩⟩
      refine ⟨_, rfl, u, _, _, _, rfl, rfl, SqL.of hu, rfl, _, rfl, _, _, rfl, rfl, wide_div t0 t1 (by decide) (by decide), ?_⟩
      refine ⟨_, rfl, u, _, _, _, rfl, rfl, hu, rfl, ?_⟩
      refine ⟨_, rfl, q _ _ ⟨⟨_, upd_same, _, _, _, rfl, Int.ediv_nonneg g0 (Int.le_of_lt t0), m0, m1, c0⟩, fun b o hb e => by rw [upd_ne hb]; exact e⟩ (Int.emod_nonneg _ (Int.ne_of_gt t0)) (Int.emod_lt_of_pos _ t0)⟩
    · refine ⟨_, rfl, u, _, _, _, rfl, rfl, SqL.of hu, rfl, _, _, rfl, rfl, ?_⟩
      refine ⟨_, rfl, u, _, _, _, rfl, rfl, hu, rfl, ?_⟩
      refine ⟨_, rfl, u, _, _, _, rfl, rfl, SqL.of upd_same, rfl, ?_⟩
      refine ⟨_, rfl, u, _, _, _, rfl, rfl, SqL.of upd_same, rfl, _, _, rfl, rfl, .inl ⟨by decide, by decide⟩, _, _, rfl, rfl, .inl ⟨_, rfl, _, _, rfl, rfl, by show (0 : Int) < 2305843009213693951; decide, ?_⟩⟩
      have hon : ((m + 1048589 * (c + 1)) % 2305843009213693951).natAbs < 2 ^ 61 := by
        have h0 := Int.emod_nonneg (m + 1048589 * (c + 1)) (show (2305843009213693951 : Int) ≠ 0 by decide)
        have h1 := Int.emod_lt_of_pos (m + 1048589 * (c + 1)) (show (0 : Int) < 2305843009213693951 by decide)
        omega
      refine ⟨_, rfl, _, rfl, _, _, rfl, rfl, wide_mul (a := 61) (b := 61) hon hon (by decide) (by decide) (by decide), .inl ⟨_, rfl, _, _, rfl, rfl, by show (0 : Int) < 2305843009213693921; decide, ?_⟩⟩
      have htn : ((m + 1048589 * (c + 1)) % 2305843009213693951 * ((m + 1048589 * (c + 1)) % 2305843009213693951) % 2305843009213693921).natAbs < 2 ^ 61 := by
        have h0 := Int.emod_nonneg ((m + 1048589 * (c + 1)) % 2305843009213693951 * ((m + 1048589 * (c + 1)) % 2305843009213693951)) (show (2305843009213693921 : Int) ≠ 0 by decide)
        have h1 := Int.emod_lt_of_pos ((m + 1048589 * (c + 1)) % 2305843009213693951 * ((m + 1048589 * (c + 1)) % 2305843009213693951)) (show (0 : Int) < 2305843009213693921 by decide)
        omega
      refine ⟨_, rfl, _, _, rfl, rfl, wide_mul (a := 61) (b := 61) htn hon (by decide) (by decide) (by decide), ?_⟩
      refine ⟨_, rfl, u, _, _, _, rfl, rfl, SqL.of upd_same, rfl, _, _, rfl, rfl, .inl ⟨by decide, by decide⟩, _, _, rfl, rfl, ?_⟩
      refine ⟨_, rfl, .inl ⟨_, rfl, _, _, rfl, rfl, by show (0 : Int) < 2305843009213693907; decide, _, _, rfl, rfl, ⟨by decide, by decide +kernel⟩, .inl ⟨_, rfl, _, rfl, _, _, rfl, rfl, t0, ?_⟩⟩⟩
      refine q _ _ ⟨⟨_, upd_same, _, _, _, rfl, g0, m0, m1, by omega⟩, fun b o hb e => by rw [upd_ne hb]; exact e⟩ (Int.emod_nonneg _ (Int.ne_of_gt t0)) (Int.emod_lt_of_pos _ t0)
theorem ok_one_of (T : Tx K mg) : FnOk P w K mg base CX0 2 T.f_one_of T.d_one_of p_one_of (spOneOf K) := by
  refine T.F_one_of.ok sc_one_of (fun vs H Q E h => ?_) (fun cdv A outer s H vs Q E hr h => ?_)
  · obtain ⟨u, _, ⟨a, xs, rfl, _⟩ | ⟨z, rfl, _⟩⟩ := h <;> rfl
  · obtain ⟨u, hu, h⟩ := h
    refine ⟨_, (pss_one (ps_ret (pe_ix (ixU K) (pv 1) (pe_call (ok_dip T) (hr.mono (by decide)) rfl T.m_dip T.F_dip.kp T.b_dip .nil pass0 (pa_cons (pv 0) (pa_cons (pe_callB (lenU K) (by rfl) T.len (by decide +kernel) (pa_cons (pv 1) pa_nil)) pa_nil))) (fun _ _ => rfl)))), ?_⟩
    rcases h with ⟨a, xs, rfl, hn, hS, h0, h1, q⟩ | ⟨z, rfl, h0, h1, q⟩
    · refine ⟨_, rfl, _, rfl, _, rfl, _, _, rfl, .inl ⟨_, hS, rfl⟩, u, _, rfl, hu, by omega, small_abs (n := 1000000) (by omega) (by omega) (by decide +kernel), fun H' r hd r0 r1 => ?_⟩
      refine .inl ⟨a, xs, r, _, rfl, rfl, hd.seq hn hS, atI_of r0 r1, q _ _ hd (List.getElem_mem _)⟩
    · refine ⟨_, rfl, _, rfl, _, rfl, _, _, rfl, ⟨by rw [sizeLine_eq]; omega, rfl⟩, u, _, rfl, hu, by omega, small_abs (n := 1000000) (by omega) (by omega) (by decide +kernel), fun H' r hd r0 r1 => ?_⟩
      have e : z.length = z.cps.toList.length := by simp [Str.length]
      rw [e] at r1
      refine .inr (.inr ⟨z, r, _, rfl, rfl, by rw [sizeLine_eq]; omega, atC_of r0 r1, q _ _ hd (List.getElem_mem _)⟩)
theorem ok_shuffled (T : Tx K mg) : FnOk P w K mg base CX0 2 T.f_shuffled T.d_shuffled p_shuffled (spShuffled K) := by
  refine T.F_shuffled.ok sc_shuffled (fun vs H Q E h => ?_) (fun cdv A outer s H vs Q E hr h => ?_)
  · obtain ⟨u, a, xs, rfl, _⟩ := h
    rfl
  · obtain ⟨u, a, xs, rfl, hu, hn, hS, hl, q⟩ := h
    refine ⟨_, (pss_cons (ps_set (i := 2) sc_shuffled.nd rfl (by first | exact Or.inl rfl | exact Or.inr rfl) (pe_callTy (listK K) (by rfl) T.list (by decide +kernel) (pa_cons (pv 1) pa_nil)))
    (pss_one (ps_ret (pe_lc (own := [("_law_turn", 3)]) (g := gName 3) (tt := tYes) rfl sc_shuffled.nd (pi_range1 (by rfl) T.range (pa_cons (pe_callB (lenS K) (by rfl) T.len (by decide +kernel) (pa_cons (pv 1) pa_nil)) pa_nil)) (blkOk_by (N := n_shuffled) (sc := defScope s_shuffled) (by decide +kernel)) (fun _ _ _ _ _ => pg_name (i := 3) sc_shuffled.nd rfl (Or.inl rfl)) (fun _ _ _ _ _ => by exact pts_nil) (fun _ _ _ _ _ => by exact (bmK K PySem.F.plainAttrs_list PySem.F.slot_list_pop PySem.F.type_list_pop mt_popAt (by exact (pv 2)) (by exact (pa_cons (pe_call (ok_dip T) (hr.mono (by decide)) rfl T.m_dip T.F_dip.kp T.b_dip .nil pass0 (pa_cons (pv 0) (pa_cons (pe_callB (lenS K) (by rfl) T.len (by decide +kernel) (pa_cons (pv 2) pa_nil)) pa_nil))) pa_nil)))))))), ?_⟩
    refine ⟨_, rfl, a, xs, rfl, .inl hS, fun W hW => ?_⟩
    have hWu := hu.ne hW
    refine ⟨_, rfl, a, xs, rfl, .inl ((same_new hW).seq hS), _, rfl, by omega, by omega, fun D hD => ?_⟩
    have hDW : D ≠ W := fun z => by
      rw [z, upd_same] at hD
      cases hD
    refine lc_range (Pv := fun i H' => ∃ acc waits, H' D = some (.lst acc) ∧ H' W = some (.lst waits) ∧ (acc ++ waits).Perm xs ∧ acc.length = i ∧ UrnOk H' u ∧ ∀ b o, b ≠ u → H b = some o → H' b = some o)
      ⟨[], xs, upd_same, by rw [upd_ne hDW.symm, upd_same], List.Perm.refl _, rfl, ?_, fun b o _ e => by rw [upd_ne (ne_of_none ((same_new hW) b o e) hD)]; exact (same_new hW) b o e⟩ ?_ ?_
    · exact ((Drew.of hu (same_new hW)).new hD).1
    · rintro i H' hi ⟨acc, waits, hacc, hwt, hp, hlen, hu', hk⟩
      have hc : acc.length + waits.length = xs.length := by
        have := hp.length_eq
        rwa [List.length_append] at this
      refine ⟨wipe1 _ _ _, tyes_if ?_⟩
      have hWu' : W ≠ u := hWu
      refine ⟨_, rfl, .inl ⟨rfl, _, SqL.of hwt⟩, _, rfl, _, rfl, W, waits, rfl, .inl (SqL.of hwt), u, _, rfl, hu', by omega, small_abs (n := 1000) (by omega) (by omega) (by decide +kernel), fun H2 r hd r0 r1 => ?_⟩
      have hwt2 := hd.2 _ _ hWu' hwt
      have hix : seqIndex? r waits.length = some r.toNat := by
        unfold seqIndex?
        simp
        omega
      refine ⟨W, waits, r, r.toNat, waits[r.toNat]'(by omega), rfl, rfl, hwt2, by omega, by omega, hix, List.getElem?_eq_getElem (by omega), ?_⟩
      have hDu : D ≠ u := fun z => by
        obtain ⟨ys, h1, _⟩ := hu
        rw [z, upd_ne hWu.symm, h1] at hD
        cases hD
      refine ⟨acc, by rw [upd_ne hDW]; exact hd.2 _ _ hDu hacc, by rw [sizeLine_eq]; omega, acc ++ [waits[r.toNat]'(by omega)], waits.eraseIdx r.toNat, upd_same, by rw [upd_ne hDW.symm, upd_same], ?_, by simp [hlen], ?_, ?_⟩
      · refine List.Perm.trans ?_ hp
        rw [List.append_assoc]
        refine List.Perm.append_left _ ?_
        rw [List.singleton_append]
        exact perm_erase (by omega)
      · obtain ⟨ys, h1, h2⟩ := hd.1
        exact ⟨ys, by rw [upd_ne hDu.symm, upd_ne hWu.symm]; exact h1, h2⟩
      · intro b o hb e
        have e1 := hd.2 _ _ hb (hk b o hb e)
        rw [upd_ne (fun z => ?_), upd_ne (fun z => ?_)]
        · exact e1
        · rw [z, hW] at e
          cases e
        · have : H D = none := (same_new hW).free hD
          rw [z, this] at e
          cases e
    · rintro H' ⟨acc, waits, hacc, hwt, hp, hlen, hu', hk⟩
      have hw0 : waits = [] := by
        have := hp.length_eq
        rw [List.length_append] at this
        have e : (((xs.length : Nat) : Int)).toNat = xs.length := by omega
        rw [e] at hlen
        exact List.eq_nil_of_length_eq_zero (by omega)
      subst hw0
      rw [List.append_nil] at hp
      exact q H' D acc ⟨hu', hk⟩ ((same_new hW).free hD) hacc hp
end
end My

set_option Elab.async false
set_option linter.all false
set_option maxRecDepth 100000
set_option maxHeartbeats 4000000
namespace My
open PySem PySem.Spec PyProof.Rows L2
section
variable {P : Program} {w : World} {K : PySem.W.Frag} {mg : Str → Option Value} {base : Heap}
def Tx.Cs (T : Tx K mg) : List Addr := [T.C_InvalidName, T.C_InvalidMachine, T.C_InvalidMove, T.C_InvalidText, T.C_InvalidWord, T.C_InvalidOperation, T.C_ParseError, T.C_InvalidNumber, T.C_UnknownName, T.C_TooMany, T.C_NothingToUndo, T.C_Broken, T.C_Loud, T.C_MoverError]
theorem Tx.tabs (T : Tx K mg) : sortTab K T.Cs = true := T.tab
theorem Tx.kit_ParseError (T : Tx K mg) : ExKit K T.C_ParseError := tab_kit (i := 6) T.tabs (by decide)
theorem Tx.kit_InvalidNumber (T : Tx K mg) : ExKit K T.C_InvalidNumber := tab_kit (i := 7) T.tabs (by decide)
theorem Tx.kit_UnknownName (T : Tx K mg) : ExKit K T.C_UnknownName := tab_kit (i := 8) T.tabs (by decide)
theorem Tx.kit_TooMany (T : Tx K mg) : ExKit K T.C_TooMany := tab_kit (i := 9) T.tabs (by decide)
theorem Tx.kit_NothingToUndo (T : Tx K mg) : ExKit K T.C_NothingToUndo := tab_kit (i := 10) T.tabs (by decide)
theorem Tx.kit_Broken (T : Tx K mg) : ExKit K T.C_Broken := tab_kit (i := 11) T.tabs (by decide)
theorem Tx.kit_Loud (T : Tx K mg) : ExKit K T.C_Loud := tab_kit (i := 12) T.tabs (by decide)
theorem thirteen {i : Nat} (h : i < 13) : i = 0 ∨ i = 1 ∨ i = 2 ∨ i = 3 ∨ i = 4 ∨ i = 5 ∨ i = 6 ∨ i = 7 ∨ i = 8 ∨ i = 9 ∨ i = 10 ∨ i = 11 ∨ i = 12 := by omega
theorem vint {i : Nat} {k : Nat} (h : V.int i = V.int k) : i = k := by
  injection h with h
  omega
def spMadeOne (T : Tx K mg) : Sp := fun vs H Q _ => ∃ (i : Nat) (v : V), vs = [.int i, v] ∧ i < 13 ∧ ∀ (H' : Hp) (e : Addr), Same H H' → H e = none → ErrN T.Cs H' i v e → Q (.ref e) H'
/-- three errors in a list, one of them taken -/
theorem three_of {H : Hp} {C0 C1 C2 : Addr} {Q : VK} {k : Nat} (hk : k < 3) (q : ∀ (H' : Hp) (e : Addr), Same H H' → H e = none → ErrAt H' e ([C0, C1, C2].getD k 0) [] → Q (.ref e) H') :
    ∀ a0, H a0 = none → ∀ a1, upd H a0 (ExO (.ref C0) a0) a1 = none → ∀ a2, upd (upd H a0 (ExO (.ref C0) a0)) a1 (ExO (.ref C1) a1) a2 = none → ∀ l, upd (upd (upd H a0 (ExO (.ref C0) a0)) a1 (ExO (.ref C1) a1)) a2 (ExO (.ref C2) a2) l = none →
      rIxL K (.ref l) (.int k) (upd (upd (upd (upd H a0 (ExO (.ref C0) a0)) a1 (ExO (.ref C1) a1)) a2 (ExO (.ref C2) a2)) l (.lst [.ref a0, .ref a1, .ref a2])) Q := by
  intro a0 h0 a1 h1 a2 h2 l hl
  have s0 := same_new (o := ExO (.ref C0) a0) h0
  have s1 := same_new (o := ExO (.ref C1) a1) h1
  have s2 := same_new (o := ExO (.ref C2) a2) h2
  have s3 := same_new (o := HO.lst [.ref a0, .ref a1, .ref a2]) hl
  have S := ((s0.trans s1).trans s2).trans s3
  have e0 : ErrAt (upd H a0 (ExO (.ref C0) a0)) a0 C0 [] := .inl ⟨upd_same, rfl⟩
  have e1 : ErrAt (upd (upd H a0 (ExO (.ref C0) a0)) a1 (ExO (.ref C1) a1)) a1 C1 [] := .inl ⟨upd_same, rfl⟩
  have e2 : ErrAt (upd (upd (upd H a0 (ExO (.ref C0) a0)) a1 (ExO (.ref C1) a1)) a2 (ExO (.ref C2) a2)) a2 C2 [] := .inl ⟨upd_same, rfl⟩
  rcases (by omega : k = 0 ∨ k = 1 ∨ k = 2) with rfl | rfl | rfl
  · exact ⟨l, _, _, _, rfl, rfl, .of upd_same, at_of (j := 0) rfl rfl, q _ a0 S h0 (((e0.same s1).same s2).same s3)⟩
  · exact ⟨l, _, _, _, rfl, rfl, .of upd_same, at_of (j := 1) rfl rfl, q _ a1 S (s0.free h1) ((e1.same s2).same s3)⟩
  · exact ⟨l, _, _, _, rfl, rfl, .of upd_same, at_of (j := 2) rfl rfl, q _ a2 S ((s0.trans s1).free h2) (e2.same s3)⟩
theorem val_of {H : Hp} {C : Addr} {f : Str} {v : V} {Q : VK} (q : ∀ (H' : Hp) (e : Addr), Same H H' → H e = none → ErrAt H' e C [(f, v)] → Q (.ref e) H') : ∀ d a, H d = none → H a = none → d ≠ a → Q (.ref a) (upd (upd H d (.xd [(f, v)])) a (ExD C d a)) := fun d a hd ha n => by
  have s0 := same_new (o := HO.xd [(f, v)]) hd
  have ha' : upd H d (.xd [(f, v)]) a = none := by rw [upd_ne n.symm]; exact ha
  have s1 := same_new (o := ExD C d a) ha'
  exact q _ a (s0.trans s1) ha (.inr ⟨d, upd_same, s1 _ _ upd_same⟩)
theorem ok_made_one (T : Tx K mg) : FnOk P w K mg base CX0 3 T.f_made_one T.d_made_one p_made_one (spMadeOne T) := by
  refine T.F_made_one.ok sc_made_one (fun vs H Q E h => ?_) (fun cdv A outer s H vs Q E hr h => ?_)
  · obtain ⟨i, v, rfl, _⟩ := h
    rfl
  · obtain ⟨i, v, rfl, hi, q⟩ := h
    refine ⟨_, (pss_cons (ps_if (pt_cmpR op_lt (pv 0) pe_int (nomark _))
      (pss_one (ps_ret (pe_ix (ixL K) (pe_lst (pa_cons (pe_exc1 PySem.F.excBase_ValueError T.q_InvalidName T.C_InvalidName_at T.kC_InvalidName rfl (pv 1)) (pa_cons (pe_exc1 PySem.F.excBase_ValueError T.q_InvalidMachine T.C_InvalidMachine_at T.kC_InvalidMachine rfl (pv 1)) (pa_cons (pe_exc1 PySem.F.excBase_ValueError T.q_InvalidMove T.C_InvalidMove_at T.kC_InvalidMove rfl (pv 1)) pa_nil)))) (pv 0) (fun _ _ => rfl))))
      pss_nil)
    (pss_cons (ps_if (pt_cmpR op_lt (pv 0) pe_int (nomark _))
      (pss_one (ps_ret (pe_ix (ixL K) (pe_lst (pa_cons (pe_exc1 PySem.F.excBase_ValueError T.q_InvalidText T.C_InvalidText_at T.kC_InvalidText rfl (pv 1)) (pa_cons (pe_exc1 PySem.F.excBase_ValueError T.q_InvalidWord T.C_InvalidWord_at T.kC_InvalidWord rfl (pv 1)) (pa_cons (pe_exc1 PySem.F.excBase_ValueError T.q_InvalidOperation T.C_InvalidOperation_at T.kC_InvalidOperation rfl (pv 1)) pa_nil)))) (pe_op op_sub (pv 0) pe_int) (fun _ _ => rfl))))
      pss_nil)
    (pss_cons (ps_if (pt_cmpR op_eq (pv 0) pe_int (nomark _))
      (pss_one (ps_ret (pe_valParseError T.x_ParseError (hr.mono (Nat.le_refl _)) (by exact (pa_cons (pv 1) pa_nil)))))
      pss_nil)
    (pss_cons (ps_if (pt_cmpR op_eq (pv 0) pe_int (nomark _))
      (pss_one (ps_ret (pe_valInvalidNumber T.x_InvalidNumber (hr.mono (Nat.le_refl _)) (by exact (pa_cons (pv 1) pa_nil)))))
      pss_nil)
    (pss_cons (ps_if (pt_cmpR op_eq (pv 0) pe_int (nomark _))
      (pss_one (ps_ret (pe_valUnknownName T.x_UnknownName (hr.mono (Nat.le_refl _)) (by exact (pa_cons (pv 1) pa_nil)))))
      pss_nil)
    (pss_cons (ps_if (pt_cmpR op_eq (pv 0) pe_int (nomark _))
      (pss_one (ps_ret (pe_valTooMany T.x_TooMany (hr.mono (Nat.le_refl _)) (by exact (pa_cons (pv 1) pa_nil)))))
      pss_nil)
    (pss_cons (ps_if (pt_cmpR op_eq (pv 0) pe_int (nomark _))
      (pss_one (ps_ret (pe_valNothingToUndo T.x_NothingToUndo (hr.mono (Nat.le_refl _)) (by exact (pa_cons (pv 1) pa_nil)))))
      pss_nil)
    (pss_one (ps_ret (pe_ifExp (pt_cmpR op_eq (pv 0) pe_int (nomark _)) (pe_valBroken T.x_Broken (hr.mono (Nat.le_refl _)) (by exact (pa_cons (pv 1) pa_nil))) (pe_valLoud T.x_Loud (hr.mono (Nat.le_refl _)) (by exact (pa_cons (pv 1) pa_nil))))))))))))), ?_⟩
    refine ⟨_, rfl, _, _, rfl, rfl, _, rfl, ?_⟩
    refine ite2 (fun hc => ?_) (fun hc => ?_)
    · have hc : (i : Int) < 3 := of_decide_eq_true hc
      refine ⟨_, rfl, fun a0 h0 => ⟨_, rfl, fun a1 h1 => ⟨_, rfl, fun a2 h2 => ⟨by show 3 ≤ sizeLine; decide, fun l hl => ⟨_, rfl, ?_⟩⟩⟩⟩⟩
      refine three_of (k := i) (by omega) (fun H' e s n er => q H' e s n ?_) a0 h0 a1 h1 a2 h2 l hl
      rcases (by omega : i = 0 ∨ i = 1 ∨ i = 2) with rfl | rfl | rfl <;> exact er
    have c1 : ¬ (i : Int) < 3 := fun z => hc (decide_eq_true z)
    refine ⟨_, rfl, _, _, rfl, rfl, _, rfl, ?_⟩
    refine ite2 (fun hc => ?_) (fun hc => ?_)
    · have hc : (i : Int) < 6 := of_decide_eq_true hc
      refine ⟨_, rfl, fun a0 h0 => ⟨_, rfl, fun a1 h1 => ⟨_, rfl, fun a2 h2 => ⟨by show 3 ≤ sizeLine; decide, fun l hl => ⟨_, rfl, _, _, rfl, rfl, ?_⟩⟩⟩⟩⟩
      have e : (i : Int) - 3 = ((i - 3 : Nat) : Int) := by omega
      simp only [e]
      refine three_of (k := i - 3) (by omega) (fun H' e s n er => q H' e s n ?_) a0 h0 a1 h1 a2 h2 l hl
      rcases (by omega : i = 3 ∨ i = 4 ∨ i = 5) with rfl | rfl | rfl <;> exact er
    have c2 : ¬ (i : Int) < 6 := fun z => hc (decide_eq_true z)
    refine ⟨_, rfl, rfl, _, rfl, ?_⟩
    refine ite2 (fun hc => ?_) (fun n6 => ?_)
    · obtain rfl : i = 6 := vint (of_decide_eq_true hc)
      exact ⟨_, rfl, _, rfl, val_of fun H' e s n er => q H' e s n er⟩
    refine ⟨_, rfl, rfl, _, rfl, ?_⟩
    refine ite2 (fun hc => ?_) (fun n7 => ?_)
    · obtain rfl : i = 7 := vint (of_decide_eq_true hc)
      exact ⟨_, rfl, _, rfl, val_of fun H' e s n er => q H' e s n er⟩
    refine ⟨_, rfl, rfl, _, rfl, ?_⟩
    refine ite2 (fun hc => ?_) (fun n8 => ?_)
    · obtain rfl : i = 8 := vint (of_decide_eq_true hc)
      exact ⟨_, rfl, _, rfl, val_of fun H' e s n er => q H' e s n er⟩
    refine ⟨_, rfl, rfl, _, rfl, ?_⟩
    refine ite2 (fun hc => ?_) (fun n9 => ?_)
    · obtain rfl : i = 9 := vint (of_decide_eq_true hc)
      exact ⟨_, rfl, _, rfl, val_of fun H' e s n er => q H' e s n er⟩
    refine ⟨_, rfl, rfl, _, rfl, ?_⟩
    refine ite2 (fun hc => ?_) (fun n10 => ?_)
    · obtain rfl : i = 10 := vint (of_decide_eq_true hc)
      exact ⟨_, rfl, _, rfl, val_of fun H' e s n er => q H' e s n er⟩
    refine ⟨_, rfl, rfl, _, rfl, ?_⟩
    have e6 : i ≠ 6 := fun z => n6 (by rw [z]; exact decide_eq_true rfl)
    have e7 : i ≠ 7 := fun z => n7 (by rw [z]; exact decide_eq_true rfl)
    have e8 : i ≠ 8 := fun z => n8 (by rw [z]; exact decide_eq_true rfl)
    have e9 : i ≠ 9 := fun z => n9 (by rw [z]; exact decide_eq_true rfl)
    have e10 : i ≠ 10 := fun z => n10 (by rw [z]; exact decide_eq_true rfl)
    rcases (by omega : i = 11 ∨ i = 12) with rfl | rfl
    · exact ⟨_, rfl, _, rfl, val_of fun H' e s n er => q H' e s n er⟩
    · exact ⟨_, rfl, _, rfl, val_of fun H' e s n er => q H' e s n er⟩
end
end My

set_option Elab.async false
set_option linter.all false
set_option maxRecDepth 100000
set_option maxHeartbeats 4000000
namespace My
open PySem PySem.Spec PyProof.Rows L2
section
variable {P : Program} {w : World} {K : PySem.W.Frag} {mg : Str → Option Value} {base : Heap}
def spAnswers (T : Tx K mg) (f : Nat → List V) : Sp := fun vs H Q _ => ∃ (i : Nat) (v : V) (e : Addr), vs = [.ref e] ∧ i < 13 ∧ ErrN T.Cs H i v e ∧ ∀ (H' : Hp) (p : Addr), Same H H' → H p = none → H' p = some (.lst (f i)) → Q (.ref p) H'
/-- found + [..] -/
theorem cat_next {H : Hp} {l b : Addr} {xs zs : List V} {Q : VK} (h : H l = some (.lst xs)) (hb : H b = some (.lst zs)) (few : xs.length + zs.length ≤ 100) (q : ∀ p, H p = none → Q (.ref p) (upd H p (.lst (xs ++ zs)))) : rCat (.ref l) (.ref b) H Q :=
  ⟨l, b, xs, zs, rfl, rfl, h, hb, by rw [sizeLine_eq]; omega, q⟩
theorem ownF (T : Tx K mg) {i : Nat} (hi : i < 13) (j : Nat) (hj : j < 14) {C : Addr} (hC : T.Cs.getD j 0 = C) : PySem.W.kitOne K (.ref (T.Cs.getD i 0)) (.ref C) = some (sortB i j) := hC ▸ (tab_row T.tabs hi).2.1 j hj
theorem kinF (T : Tx K mg) {i : Nat} (hi : i < 13) (j : Nat) (hj : j < 8) {n : String} (hn : kinN j = n) : PySem.W.kitOne K (.ref (T.Cs.getD i 0)) (.type n) = some (kinB i j) := hn ▸ (tab_row T.tabs hi).2.2.1 j hj
theorem ok_sorts (T : Tx K mg) : FnOk P w K mg base CX0 1 T.f_sorts T.d_sorts p_sorts (spAnswers T sortsOf) := by
  refine T.F_sorts.ok sc_sorts (fun vs H Q E h => ?_) (fun cdv A outer s H vs Q E hr h => ?_)
  · obtain ⟨i, v, e, rfl, _⟩ := h
    rfl
  · obtain ⟨i, v, e, rfl, hi, er, q⟩ := h
    refine ⟨_, (pss_cons (ps_set (i := 1) sc_sorts.nd rfl (by first | exact Or.inl rfl | exact Or.inr rfl) (pe_lst (pa_cons (pe_callB (isiE K) (by rfl) T.isinstance (by decide +kernel) (pa_cons (pv 0) (pa_cons (pe_glob (v := .ref T.C_InvalidName) rfl T.C_InvalidName_at rfl) pa_nil))) (pa_cons (pe_callB (isiE K) (by rfl) T.isinstance (by decide +kernel) (pa_cons (pv 0) (pa_cons (pe_glob (v := .ref T.C_InvalidMachine) rfl T.C_InvalidMachine_at rfl) pa_nil))) (pa_cons (pe_callB (isiE K) (by rfl) T.isinstance (by decide +kernel) (pa_cons (pv 0) (pa_cons (pe_glob (v := .ref T.C_InvalidMove) rfl T.C_InvalidMove_at rfl) pa_nil))) (pa_cons (pe_callB (isiE K) (by rfl) T.isinstance (by decide +kernel) (pa_cons (pv 0) (pa_cons (pe_glob (v := .ref T.C_InvalidText) rfl T.C_InvalidText_at rfl) pa_nil))) pa_nil))))))
    (pss_cons (ps_set (i := 1) sc_sorts.nd rfl (by first | exact Or.inl rfl | exact Or.inr rfl) (pe_op op_cat (pv 1) (pe_lst (pa_cons (pe_callB (isiE K) (by rfl) T.isinstance (by decide +kernel) (pa_cons (pv 0) (pa_cons (pe_glob (v := .ref T.C_InvalidWord) rfl T.C_InvalidWord_at rfl) pa_nil))) (pa_cons (pe_callB (isiE K) (by rfl) T.isinstance (by decide +kernel) (pa_cons (pv 0) (pa_cons (pe_glob (v := .ref T.C_InvalidOperation) rfl T.C_InvalidOperation_at rfl) pa_nil))) (pa_cons (pe_callB (isiE K) (by rfl) T.isinstance (by decide +kernel) (pa_cons (pv 0) (pa_cons (pe_glob (v := .ref T.C_ParseError) rfl T.x_ParseError.gC rfl) pa_nil))) pa_nil))))))
    (pss_cons (ps_set (i := 1) sc_sorts.nd rfl (by first | exact Or.inl rfl | exact Or.inr rfl) (pe_op op_cat (pv 1) (pe_lst (pa_cons (pe_callB (isiE K) (by rfl) T.isinstance (by decide +kernel) (pa_cons (pv 0) (pa_cons (pe_glob (v := .ref T.C_InvalidNumber) rfl T.x_InvalidNumber.gC rfl) pa_nil))) (pa_cons (pe_callB (isiE K) (by rfl) T.isinstance (by decide +kernel) (pa_cons (pv 0) (pa_cons (pe_glob (v := .ref T.C_UnknownName) rfl T.x_UnknownName.gC rfl) pa_nil))) (pa_cons (pe_callB (isiE K) (by rfl) T.isinstance (by decide +kernel) (pa_cons (pv 0) (pa_cons (pe_glob (v := .ref T.C_TooMany) rfl T.x_TooMany.gC rfl) pa_nil))) pa_nil))))))
    (pss_one (ps_ret (pe_op op_cat (pv 1) (pe_lst (pa_cons (pe_callB (isiE K) (by rfl) T.isinstance (by decide +kernel) (pa_cons (pv 0) (pa_cons (pe_glob (v := .ref T.C_NothingToUndo) rfl T.x_NothingToUndo.gC rfl) pa_nil))) (pa_cons (pe_callB (isiE K) (by rfl) T.isinstance (by decide +kernel) (pa_cons (pv 0) (pa_cons (pe_glob (v := .ref T.C_Broken) rfl T.x_Broken.gC rfl) pa_nil))) (pa_cons (pe_callB (isiE K) (by rfl) T.isinstance (by decide +kernel) (pa_cons (pv 0) (pa_cons (pe_glob (v := .ref T.C_Loud) rfl T.x_Loud.gC rfl) pa_nil))) (pa_cons (pe_callB (isiE K) (by rfl) T.isinstance (by decide +kernel) (pa_cons (pv 0) (pa_cons (pe_glob (v := .ref T.C_MoverError) rfl T.C_MoverError_at rfl) pa_nil))) pa_nil))))))))))), ?_⟩
    refine ⟨_, rfl, e, _, _, _, _, _, rfl, .own _, er, tab_kit T.tabs hi, ownF T hi 0 (by decide) rfl, _, rfl, e, _, _, _, _, _, rfl, .own _, er, tab_kit T.tabs hi, ownF T hi 1 (by decide) rfl, _, rfl, e, _, _, _, _, _, rfl, .own _, er, tab_kit T.tabs hi, ownF T hi 2 (by decide) rfl, _, rfl, e, _, _, _, _, _, rfl, .own _, er, tab_kit T.tabs hi, ownF T hi 3 (by decide) rfl, by show 4 ≤ sizeLine; decide, fun l1 h1 => ?_⟩
    have s1 := same_new (o := HO.lst [.bl (sortB i 0), .bl (sortB i 1), .bl (sortB i 2), .bl (sortB i 3)]) h1
    have a1 : (upd H l1 (.lst [.bl (sortB i 0), .bl (sortB i 1), .bl (sortB i 2), .bl (sortB i 3)])) l1 = some (.lst [.bl (sortB i 0), .bl (sortB i 1), .bl (sortB i 2), .bl (sortB i 3)]) := upd_same
    have er := er.same s1
    generalize upd H l1 (.lst [.bl (sortB i 0), .bl (sortB i 1), .bl (sortB i 2), .bl (sortB i 3)]) = H1 at s1 a1 er
    refine ⟨_, rfl, _, rfl, e, _, _, _, _, _, rfl, .own _, er, tab_kit T.tabs hi, ownF T hi 4 (by decide) rfl, _, rfl, e, _, _, _, _, _, rfl, .own _, er, tab_kit T.tabs hi, ownF T hi 5 (by decide) rfl, _, rfl, e, _, _, _, _, _, rfl, .own _, er, tab_kit T.tabs hi, ownF T hi 6 (by decide) rfl, by show 3 ≤ sizeLine; decide, fun b2 h2 => ?_⟩
    have s2 := same_new (o := HO.lst [.bl (sortB i 4), .bl (sortB i 5), .bl (sortB i 6)]) h2
    refine cat_next (s2 _ _ a1) upd_same (Nat.le_of_ble_eq_true rfl) fun l2 h3 => ?_
    have s3 := same_new (o := HO.lst ([V.bl (sortB i 0), .bl (sortB i 1), .bl (sortB i 2), .bl (sortB i 3)] ++ [.bl (sortB i 4), .bl (sortB i 5), .bl (sortB i 6)])) h3
    have a3 := upd_same (H := upd H1 b2 (.lst [.bl (sortB i 4), .bl (sortB i 5), .bl (sortB i 6)])) (a := l2) (o := HO.lst ([V.bl (sortB i 0), .bl (sortB i 1), .bl (sortB i 2), .bl (sortB i 3)] ++ [.bl (sortB i 4), .bl (sortB i 5), .bl (sortB i 6)]))
    have s123 := (s1.trans s2).trans s3
    have er := er.same (s2.trans s3)
    generalize upd (upd H1 b2 (.lst [.bl (sortB i 4), .bl (sortB i 5), .bl (sortB i 6)])) l2 (HO.lst ([V.bl (sortB i 0), .bl (sortB i 1), .bl (sortB i 2), .bl (sortB i 3)] ++ [.bl (sortB i 4), .bl (sortB i 5), .bl (sortB i 6)])) = H2 at s123 a3 er
    refine ⟨_, rfl, _, rfl, e, _, _, _, _, _, rfl, .own _, er, tab_kit T.tabs hi, ownF T hi 7 (by decide) rfl, _, rfl, e, _, _, _, _, _, rfl, .own _, er, tab_kit T.tabs hi, ownF T hi 8 (by decide) rfl, _, rfl, e, _, _, _, _, _, rfl, .own _, er, tab_kit T.tabs hi, ownF T hi 9 (by decide) rfl, by show 3 ≤ sizeLine; decide, fun b3 h4 => ?_⟩
    have s4 := same_new (o := HO.lst [.bl (sortB i 7), .bl (sortB i 8), .bl (sortB i 9)]) h4
    refine cat_next (s4 _ _ a3) upd_same (Nat.le_of_ble_eq_true rfl) fun l3 h5 => ?_
    have s5 := same_new (o := HO.lst ([V.bl (sortB i 0), .bl (sortB i 1), .bl (sortB i 2), .bl (sortB i 3)] ++ [.bl (sortB i 4), .bl (sortB i 5), .bl (sortB i 6)] ++ [.bl (sortB i 7), .bl (sortB i 8), .bl (sortB i 9)])) h5
    have a5 := upd_same (H := upd H2 b3 (.lst [.bl (sortB i 7), .bl (sortB i 8), .bl (sortB i 9)])) (a := l3) (o := HO.lst ([V.bl (sortB i 0), .bl (sortB i 1), .bl (sortB i 2), .bl (sortB i 3)] ++ [.bl (sortB i 4), .bl (sortB i 5), .bl (sortB i 6)] ++ [.bl (sortB i 7), .bl (sortB i 8), .bl (sortB i 9)]))
    have s15 := (s123.trans s4).trans s5
    have er := er.same (s4.trans s5)
    generalize upd (upd H2 b3 (.lst [.bl (sortB i 7), .bl (sortB i 8), .bl (sortB i 9)])) l3 (HO.lst ([V.bl (sortB i 0), .bl (sortB i 1), .bl (sortB i 2), .bl (sortB i 3)] ++ [.bl (sortB i 4), .bl (sortB i 5), .bl (sortB i 6)] ++ [.bl (sortB i 7), .bl (sortB i 8), .bl (sortB i 9)])) = H3 at s15 a5 er
    refine ⟨_, rfl, _, rfl, e, _, _, _, _, _, rfl, .own _, er, tab_kit T.tabs hi, ownF T hi 10 (by decide) rfl, _, rfl, e, _, _, _, _, _, rfl, .own _, er, tab_kit T.tabs hi, ownF T hi 11 (by decide) rfl, _, rfl, e, _, _, _, _, _, rfl, .own _, er, tab_kit T.tabs hi, ownF T hi 12 (by decide) rfl, _, rfl, e, _, _, _, _, _, rfl, .own _, er, tab_kit T.tabs hi, ownF T hi 13 (by decide) rfl, by show 4 ≤ sizeLine; decide, fun b4 h6 => ?_⟩
    have s6 := same_new (o := HO.lst [.bl (sortB i 10), .bl (sortB i 11), .bl (sortB i 12), .bl (sortB i 13)]) h6
    refine cat_next (s6 _ _ a5) upd_same (Nat.le_of_ble_eq_true rfl) fun p hp => ?_
    exact q _ p ((s15.trans s6).trans (same_new hp)) ((s15.trans s6).free hp) upd_same
theorem ok_kin (T : Tx K mg) : FnOk P w K mg base CX0 1 T.f_kin T.d_kin p_kin (spAnswers T kinOf) := by
  refine T.F_kin.ok sc_kin (fun vs H Q E h => ?_) (fun cdv A outer s H vs Q E hr h => ?_)
  · obtain ⟨i, v, e, rfl, _⟩ := h
    rfl
  · obtain ⟨i, v, e, rfl, hi, er, q⟩ := h
    refine ⟨_, (pss_cons (ps_set (i := 1) sc_kin.nd rfl (by first | exact Or.inl rfl | exact Or.inr rfl) (pe_lst (pa_cons (pe_callB (isiE K) (by rfl) T.isinstance (by decide +kernel) (pa_cons (pv 0) (pa_cons (pe_bltn (v := .ty "ValueError") (by rfl) T.ValueError (by decide +kernel) rfl) pa_nil))) (pa_cons (pe_callB (isiE K) (by rfl) T.isinstance (by decide +kernel) (pa_cons (pv 0) (pa_cons (pe_bltn (v := .ty "LookupError") (by rfl) T.LookupError (by decide +kernel) rfl) pa_nil))) (pa_cons (pe_callB (isiE K) (by rfl) T.isinstance (by decide +kernel) (pa_cons (pv 0) (pa_cons (pe_bltn (v := .ty "IndexError") (by rfl) T.IndexError (by decide +kernel) rfl) pa_nil))) (pa_cons (pe_callB (isiE K) (by rfl) T.isinstance (by decide +kernel) (pa_cons (pv 0) (pa_cons (pe_bltn (v := .ty "KeyError") (by rfl) T.KeyError (by decide +kernel) rfl) pa_nil))) pa_nil))))))
    (pss_one (ps_ret (pe_op op_cat (pv 1) (pe_lst (pa_cons (pe_callB (isiE K) (by rfl) T.isinstance (by decide +kernel) (pa_cons (pv 0) (pa_cons (pe_bltn (v := .ty "ArithmeticError") (by rfl) T.ArithmeticError (by decide +kernel) rfl) pa_nil))) (pa_cons (pe_callB (isiE K) (by rfl) T.isinstance (by decide +kernel) (pa_cons (pv 0) (pa_cons (pe_bltn (v := .ty "OverflowError") (by rfl) T.OverflowError (by decide +kernel) rfl) pa_nil))) (pa_cons (pe_callB (isiE K) (by rfl) T.isinstance (by decide +kernel) (pa_cons (pv 0) (pa_cons (pe_bltn (v := .ty "RuntimeError") (by rfl) T.RuntimeError (by decide +kernel) rfl) pa_nil))) (pa_cons (pe_callB (isiE K) (by rfl) T.isinstance (by decide +kernel) (pa_cons (pv 0) (pa_cons (pe_bltn (v := .ty "TypeError") (by rfl) T.TypeError (by decide +kernel) rfl) pa_nil))) pa_nil))))))))), ?_⟩
    refine ⟨_, rfl, e, _, _, _, _, _, rfl, .ty _, er, tab_kit T.tabs hi, kinF T hi 0 (by decide) rfl, _, rfl, e, _, _, _, _, _, rfl, .ty _, er, tab_kit T.tabs hi, kinF T hi 1 (by decide) rfl, _, rfl, e, _, _, _, _, _, rfl, .ty _, er, tab_kit T.tabs hi, kinF T hi 2 (by decide) rfl, _, rfl, e, _, _, _, _, _, rfl, .ty _, er, tab_kit T.tabs hi, kinF T hi 3 (by decide) rfl, by show 4 ≤ sizeLine; decide, fun l1 h1 => ?_⟩
    have s1 := same_new (o := HO.lst [.bl (kinB i 0), .bl (kinB i 1), .bl (kinB i 2), .bl (kinB i 3)]) h1
    have a1 : (upd H l1 (.lst [.bl (kinB i 0), .bl (kinB i 1), .bl (kinB i 2), .bl (kinB i 3)])) l1 = some (.lst [.bl (kinB i 0), .bl (kinB i 1), .bl (kinB i 2), .bl (kinB i 3)]) := upd_same
    have er := er.same s1
    generalize upd H l1 (.lst [.bl (kinB i 0), .bl (kinB i 1), .bl (kinB i 2), .bl (kinB i 3)]) = H1 at s1 a1 er
    refine ⟨_, rfl, _, rfl, e, _, _, _, _, _, rfl, .ty _, er, tab_kit T.tabs hi, kinF T hi 4 (by decide) rfl, _, rfl, e, _, _, _, _, _, rfl, .ty _, er, tab_kit T.tabs hi, kinF T hi 5 (by decide) rfl, _, rfl, e, _, _, _, _, _, rfl, .ty _, er, tab_kit T.tabs hi, kinF T hi 6 (by decide) rfl, _, rfl, e, _, _, _, _, _, rfl, .ty _, er, tab_kit T.tabs hi, kinF T hi 7 (by decide) rfl, by show 4 ≤ sizeLine; decide, fun b2 h2 => ?_⟩
    have s2 := same_new (o := HO.lst [.bl (kinB i 4), .bl (kinB i 5), .bl (kinB i 6), .bl (kinB i 7)]) h2
    refine cat_next (s2 _ _ a1) upd_same (Nat.le_of_ble_eq_true rfl) fun p hp => ?_
    exact q _ p ((s1.trans s2).trans (same_new hp)) ((s1.trans s2).free hp) upd_same
end
end My

set_option Elab.async false
set_option linter.all false
set_option maxRecDepth 100000
set_option maxHeartbeats 4000000
namespace My
open PySem PySem.Spec PyProof.Rows L2
section
variable {P : Program} {w : World} {K : PySem.W.Frag} {mg : Str → Option Value} {base : Heap}
def spDue : Sp := fun vs H Q _ => ∃ i : Nat, vs = [.int i] ∧ i < 13 ∧ ∀ (H' : Hp) (p a b : Addr), Same H H' → H p = none → H' p = some (.lst [.ref a, .ref b]) → H' a = some (.lst (sortsOf i)) → H' b = some (.lst (kinOf i)) → Q (.ref p) H'
theorem ok_due (T : Tx K mg) : FnOk P w K mg base CX0 1 T.f_due T.d_due p_due spDue := by
  refine T.F_due.ok sc_due (fun vs H Q E h => ?_) (fun cdv A outer s H vs Q E hr h => ?_)
  · obtain ⟨i, rfl, _⟩ := h
    rfl
  · obtain ⟨i, rfl, hi, q⟩ := h
    refine ⟨_, (pss_cons (ps_set (i := 1) sc_due.nd rfl (by first | exact Or.inl rfl | exact Or.inr rfl) (pe_dget2 (L2.hu_of hr) (pe_disp (pps_cons pe_int (pe_tup (pa_cons pe_int (pa_cons pe_int pa_nil))) (pps_cons pe_int (pe_tup (pa_cons pe_int (pa_cons pe_int pa_nil))) (pps_cons pe_int (pe_tup (pa_cons pe_int (pa_cons pe_int pa_nil))) (pps_cons pe_int (pe_tup (pa_cons pe_int pa_nil)) (pps_cons pe_int (pe_tup (pa_cons pe_int pa_nil)) (pps_cons pe_int (pe_tup (pa_cons pe_int pa_nil)) pps_nil)))))) (by rfl) (by rfl) (fun z => by cases z) (by decide)) (pv 0) (pe_tup (pa_cons pe_int pa_nil)) ⟨by rfl, by rfl, by rfl, by rfl⟩))
    (pss_one (ps_ret (pe_lst (pa_cons (pe_op op_cat (pe_lc (own := [("_law_at", 2)]) (g := gName 2) (tt := tYes) rfl sc_due.nd (pi_range1 (by rfl) T.range (pa_cons pe_int pa_nil)) (blkOk_by (N := n_due) (sc := defScope s_due) (by decide +kernel)) (fun _ _ _ _ _ => pg_name (i := 2) sc_due.nd rfl (Or.inl rfl)) (fun _ _ _ _ _ => by exact pts_nil) (fun _ _ _ _ _ => by exact (pe_cmpR op_eq (pv 2) (pv 0) (nomark _)))) (pe_lst (pa_cons (pe_cmpR op_lt (pv 0) pe_int (nomark _)) pa_nil))) (pa_cons (pe_lc (own := [("_law_at", 2)]) (g := gName 2) (tt := tYes) rfl sc_due.nd (pi_range1 (by rfl) T.range (pa_cons pe_int pa_nil)) (blkOk_by (N := n_due) (sc := defScope s_due) (by decide +kernel)) (fun _ _ _ _ _ => pg_name (i := 2) sc_due.nd rfl (Or.inl rfl)) (fun _ _ _ _ _ => by exact pts_nil) (fun _ _ _ _ _ => by exact (pe_cmpR (inK K) (pv 2) (pv 1) (by rfl)))) pa_nil)))))), ?_⟩
    intro p hp
    refine ⟨by show 2 ≤ sizeLine; decide, fun t7 h7 => ⟨by show 2 ≤ sizeLine; decide, fun t8 h8 => ⟨by show 2 ≤ sizeLine; decide, fun t9 h9 => ⟨by show 1 ≤ sizeLine; decide, fun t10 h10 => ⟨by show 1 ≤ sizeLine; decide, fun t11 h11 => ⟨by show 1 ≤ sizeLine; decide, fun t12 h12 => ?_⟩⟩⟩⟩⟩⟩
    have s0 := same_new (o := HO.dK []) hp
    have s7 := same_new (o := HO.tup [V.int 1, .int 2]) h7
    have s8 := same_new (o := HO.tup [V.int 1, .int 3]) h8
    have s9 := same_new (o := HO.tup [V.int 4, .int 5]) h9
    have s10 := same_new (o := HO.tup [V.int 1]) h10
    have s11 := same_new (o := HO.tup [V.int 4]) h11
    have s12 := same_new (o := HO.tup [V.int 6]) h12
    have S7 := ((((s7.trans s8).trans s9).trans s10).trans s11).trans s12
    have ap := S7 _ _ (upd_same (H := H) (a := p) (o := HO.dK []))
    have a7 := ((((s8.trans s9).trans s10).trans s11).trans s12) _ _ (upd_same (a := t7) (o := HO.tup [V.int 1, .int 2]))
    have a8 := (((s9.trans s10).trans s11).trans s12) _ _ (upd_same (a := t8) (o := HO.tup [V.int 1, .int 3]))
    have a9 := ((s10.trans s11).trans s12) _ _ (upd_same (a := t9) (o := HO.tup [V.int 4, .int 5]))
    have a10 := (s11.trans s12) _ _ (upd_same (a := t10) (o := HO.tup [V.int 1]))
    have a11 := s12 _ _ (upd_same (a := t11) (o := HO.tup [V.int 4]))
    have a12 := upd_same (H := upd (upd (upd (upd (upd (upd H p (.dK [])) t7 (.tup [V.int 1, .int 2])) t8 (.tup [V.int 1, .int 3])) t9 (.tup [V.int 4, .int 5])) t10 (.tup [V.int 1])) t11 (.tup [V.int 4])) (a := t12) (o := HO.tup [V.int 6])
    have SS := s0.trans S7
    generalize upd (upd (upd (upd (upd (upd (upd H p (.dK [])) t7 (.tup [V.int 1, .int 2])) t8 (.tup [V.int 1, .int 3])) t9 (.tup [V.int 4, .int 5])) t10 (.tup [V.int 1])) t11 (.tup [V.int 4])) t12 (.tup [V.int 6]) = H1 at ap a7 a8 a9 a10 a11 a12 SS
    refine ⟨ap, [(.inl 7, .ref t7), (.inl 8, .ref t8), (.inl 9, .ref t9), (.inl 10, .ref t10), (.inl 11, .ref t11), (.inl 12, .ref t12)], rfl, by show 6 ≤ 15; decide, ?_⟩
    have em : mergeK [] [((.inl 7 : Key), V.ref t7), (.inl 8, .ref t8), (.inl 9, .ref t9), (.inl 10, .ref t10), (.inl 11, .ref t11), (.inl 12, .ref t12)] = [(.inl 7, .ref t7), (.inl 8, .ref t8), (.inl 9, .ref t9), (.inl 10, .ref t10), (.inl 11, .ref t11), (.inl 12, .ref t12)] := rfl
    rw [em]
    have S1 : Same H (upd H1 p (.dK [((.inl 7 : Key), V.ref t7), (.inl 8, .ref t8), (.inl 9, .ref t9), (.inl 10, .ref t10), (.inl 11, .ref t11), (.inl 12, .ref t12)])) := same_put SS hp
    have ne : ∀ t xs, H1 t = some (.tup xs) → t ≠ p := fun t xs e z => by rw [z, ap] at e; cases e
    have b7 := (upd_ne (o := HO.dK [((.inl 7 : Key), V.ref t7), (.inl 8, .ref t8), (.inl 9, .ref t9), (.inl 10, .ref t10), (.inl 11, .ref t11), (.inl 12, .ref t12)]) (ne _ _ a7)).trans a7
    have b8 := (upd_ne (o := HO.dK [((.inl 7 : Key), V.ref t7), (.inl 8, .ref t8), (.inl 9, .ref t9), (.inl 10, .ref t10), (.inl 11, .ref t11), (.inl 12, .ref t12)]) (ne _ _ a8)).trans a8
    have b9 := (upd_ne (o := HO.dK [((.inl 7 : Key), V.ref t7), (.inl 8, .ref t8), (.inl 9, .ref t9), (.inl 10, .ref t10), (.inl 11, .ref t11), (.inl 12, .ref t12)]) (ne _ _ a9)).trans a9
    have b10 := (upd_ne (o := HO.dK [((.inl 7 : Key), V.ref t7), (.inl 8, .ref t8), (.inl 9, .ref t9), (.inl 10, .ref t10), (.inl 11, .ref t11), (.inl 12, .ref t12)]) (ne _ _ a10)).trans a10
    have b11 := (upd_ne (o := HO.dK [((.inl 7 : Key), V.ref t7), (.inl 8, .ref t8), (.inl 9, .ref t9), (.inl 10, .ref t10), (.inl 11, .ref t11), (.inl 12, .ref t12)]) (ne _ _ a11)).trans a11
    have b12 := (upd_ne (o := HO.dK [((.inl 7 : Key), V.ref t7), (.inl 8, .ref t8), (.inl 9, .ref t9), (.inl 10, .ref t10), (.inl 11, .ref t11), (.inl 12, .ref t12)]) (ne _ _ a12)).trans a12
    have bp := upd_same (H := H1) (a := p) (o := HO.dK [((.inl 7 : Key), V.ref t7), (.inl 8, .ref t8), (.inl 9, .ref t9), (.inl 10, .ref t10), (.inl 11, .ref t11), (.inl 12, .ref t12)])
    generalize upd H1 p (.dK [((.inl 7 : Key), V.ref t7), (.inl 8, .ref t8), (.inl 9, .ref t9), (.inl 10, .ref t10), (.inl 11, .ref t11), (.inl 12, .ref t12)]) = H2 at S1 b7 b8 b9 b10 b11 b12 bp
    refine ⟨p, rfl, .inl ⟨_, .inl bp⟩, _, rfl, by show 1 ≤ sizeLine; decide, fun t0 h0 => ?_⟩
    have st := same_new (o := HO.tup [V.int 0]) h0
    have S2 := S1.trans st
    have b0 := upd_same (H := H2) (a := t0) (o := HO.tup [V.int 0])
    have got : ∃ tt, (valV [((.inl 7 : Key), V.ref t7), (.inl 8, .ref t8), (.inl 9, .ref t9), (.inl 10, .ref t10), (.inl 11, .ref t11), (.inl 12, .ref t12)] (.inl (i : Int))).getD (.ref t0) = .ref tt ∧ (upd H2 t0 (.tup [V.int 0])) tt = some (.tup ((someOf i).map fun (n : Nat) => V.int n)) := by
      rcases thirteen hi with rfl | rfl | rfl | rfl | rfl | rfl | rfl | rfl | rfl | rfl | rfl | rfl | rfl
      · exact ⟨t0, rfl, b0⟩
      · exact ⟨t0, rfl, b0⟩
      · exact ⟨t0, rfl, b0⟩
      · exact ⟨t0, rfl, b0⟩
      · exact ⟨t0, rfl, b0⟩
      · exact ⟨t0, rfl, b0⟩
      · exact ⟨t0, rfl, b0⟩
      · exact ⟨t7, rfl, st _ _ b7⟩
      · exact ⟨t8, rfl, st _ _ b8⟩
      · exact ⟨t9, rfl, st _ _ b9⟩
      · exact ⟨t10, rfl, st _ _ b10⟩
      · exact ⟨t11, rfl, st _ _ b11⟩
      · exact ⟨t12, rfl, st _ _ b12⟩
    refine ⟨_, DGet.k (k := .inl (i : Int)) (st _ _ bp), ?_⟩
    obtain ⟨tt, et, ht⟩ := got
    rw [et]
    generalize upd H2 t0 (.tup [V.int 0]) = H3 at S2 ht
    refine ⟨_, rfl, by decide, by decide, fun D hD => ?_⟩
    have hDH : H D = none := S2.free hD
    refine lc_range (Pv := fun j H' => H' D = some (.lst ((List.range j).map fun (k : Nat) => V.bl (decide (i = k)))) ∧ Same H3 H') ⟨upd_same, same_new hD⟩ ?_ ?_
    · rintro j H' hj ⟨hd, sm⟩
      refine ⟨wipe1 _ _ _, tyes_if ?_⟩
      refine ⟨_, rfl, _, rfl, rfl, _, hd, by rw [List.length_map, List.length_range, sizeLine_eq]; have : j < 13 := hj; omega, ?_, same_put sm hD⟩
      rw [upd_same, List.range_succ, List.map_append]
      have e : decide (V.int (0 + (j : Int)) = V.int i) = decide (i = j) := by
        by_cases h : i = j
        · subst h; simp
        · rw [decide_eq_false h, decide_eq_false]
          intro z
          injection z with z
          omega
      rw [e]
      rfl
    · rintro H4 ⟨hd, sm⟩
      have e13 : Int.toNat 13 = 13 := rfl
      simp only [e13] at hd
      have ht4 := sm _ _ ht
      have S4 := S2.trans sm
      refine ⟨_, rfl, _, _, rfl, rfl, by show 1 ≤ sizeLine; decide, fun b1 hb1 => ?_⟩
      dsimp only at hb1 ⊢
      have sb := same_new (o := HO.lst [V.bl (decide ((i : Int) < 7))]) hb1
      refine cat_next (sb _ _ hd) upd_same (Nat.le_of_ble_eq_true rfl) fun pa hpa => ?_
      have spa := same_new (o := HO.lst ((List.range 13).map (fun (k : Nat) => V.bl (decide (i = k))) ++ [V.bl (decide ((i : Int) < 7))])) hpa
      have ea : ((List.range 13).map (fun (k : Nat) => V.bl (decide (i = k))) ++ [V.bl (decide ((i : Int) < 7))]) = sortsOf i := by
        rcases thirteen hi with rfl | rfl | rfl | rfl | rfl | rfl | rfl | rfl | rfl | rfl | rfl | rfl | rfl <;> rfl
      have hA := upd_same (H := upd H4 b1 (.lst [V.bl (decide ((i : Int) < 7))])) (a := pa) (o := HO.lst ((List.range 13).map (fun (k : Nat) => V.bl (decide (i = k))) ++ [V.bl (decide ((i : Int) < 7))]))
      have S5 := (S4.trans sb).trans spa
      have ht5 := spa _ _ (sb _ _ ht4)
      have hpa0 : H pa = none := (S4.trans sb).free hpa
      rw [ea] at hA
      have hA : (upd (upd H4 b1 (.lst [V.bl (decide ((i : Int) < 7))])) pa (HO.lst ((List.range 13).map (fun (k : Nat) => V.bl (decide (i = k))) ++ [V.bl (decide ((i : Int) < 7))]))) pa = some (.lst (sortsOf i)) := by rw [ea]; exact hA
      generalize upd (upd H4 b1 (.lst [V.bl (decide ((i : Int) < 7))])) pa (HO.lst ((List.range 13).map (fun (k : Nat) => V.bl (decide (i = k))) ++ [V.bl (decide ((i : Int) < 7))])) = H5 at S5 ht5 hA
      refine ⟨_, rfl, by decide, by decide, fun D2 hD2 => ?_⟩
      refine lc_range (Pv := fun j H' => H' D2 = some (.lst ((List.range j).map fun (k : Nat) => V.bl (kinB i k))) ∧ Same H5 H') ⟨upd_same, same_new hD2⟩ ?_ ?_
      · rintro j H' hj ⟨hd2, sm2⟩
        refine ⟨wipe1 _ _ _, tyes_if ?_⟩
        refine ⟨_, rfl, _, rfl, tt, _, rfl, .inr (.of (sm2 _ _ ht5)), rfl, ?_, _, hd2, by rw [List.length_map, List.length_range, sizeLine_eq]; have : j < 8 := hj; omega, ?_, same_put sm2 hD2⟩
        · exact List.all_eq_true.mpr fun x hx => by
            obtain ⟨y, _, rfl⟩ := List.mem_map.mp hx
            rfl
        · rw [upd_same, List.range_succ, List.map_append]
          have e : inV (.int (0 + (j : Int))) ((someOf i).map fun (n : Nat) => V.int n) = kinB i j := by
            have hj : j < 8 := hj
            rcases thirteen hi with rfl | rfl | rfl | rfl | rfl | rfl | rfl | rfl | rfl | rfl | rfl | rfl | rfl <;>
              rcases (by omega : j = 0 ∨ j = 1 ∨ j = 2 ∨ j = 3 ∨ j = 4 ∨ j = 5 ∨ j = 6 ∨ j = 7) with rfl | rfl | rfl | rfl | rfl | rfl | rfl | rfl <;> decide +kernel
          show some (HO.lst (_ ++ [V.bl (inV (.int (0 + (j : Int))) ((someOf i).map fun (n : Nat) => V.int n))])) = _
          rw [e]
          rfl
      · rintro H6 ⟨hd2, sm2⟩
        refine ⟨by show 2 ≤ sizeLine; decide, fun r hr => ?_⟩
        have sr := same_new (o := HO.lst [V.ref pa, .ref D2]) hr
        exact q _ r pa D2 ((S5.trans sm2).trans sr) ((S5.trans sm2).free hr) upd_same (sr _ _ (sm2 _ _ hA)) (sr _ _ hd2)
end
end My

set_option Elab.async false
set_option linter.all false
set_option maxRecDepth 100000
set_option maxHeartbeats 4000000
namespace My
open PySem PySem.Spec PyProof.Rows L2
section
variable {P : Program} {w : World} {K : PySem.W.Frag} {mg : Str → Option Value} {base : Heap}
/-- the text of the one field of such an exception -/
def spStr (K : PySem.W.Frag) (C : Addr) (f : Str) : Sp := fun vs H Q _ => ∃ (a d : Addr) (v : V) (t : PyData), vs = [.ref a] ∧ H a = some (ExD C d a) ∧ H d = some (.xd [(f, v)]) ∧ Says K H v t ∧ Q (.str t.shown) H
theorem ok_InvalidNumber_str (T : Tx K mg) : FnG P w K mg base CX0 1 T.s_InvalidNumber T.ds_InvalidNumber p_InvalidNumber_str (spStr K T.C_InvalidNumber "value") := by
  refine fun_g0 T.S_InvalidNumber sc_InvalidNumber_str (fun vs H Q E h => ?_) (fun cdv A outer s H vs Q E hgd hr h => ?_)
  · obtain ⟨a, d, v, t, rfl, _⟩ := h
    rfl
  · obtain ⟨a, d, v, t, rfl, ea, ed, sy, q⟩ := h
    refine ⟨_, (pss_one (ps_ret (pe_callB (reprV K hgd hr.units) (by rfl) T.repr (by decide +kernel) (pa_cons (pe_exAt T.kit_InvalidNumber T.x_InvalidNumber.hdC T.x_InvalidNumber.noN (pv 0)) pa_nil)))), ?_⟩
    exact ⟨_, rfl, a, d, v, rfl, ea, ed, rReprV_of sy q⟩
theorem ok_UnknownName_str (T : Tx K mg) : FnG P w K mg base CX0 1 T.s_UnknownName T.ds_UnknownName p_UnknownName_str (spStr K T.C_UnknownName "name") := by
  refine fun_g0 T.S_UnknownName sc_UnknownName_str (fun vs H Q E h => ?_) (fun cdv A outer s H vs Q E hgd hr h => ?_)
  · obtain ⟨a, d, v, t, rfl, _⟩ := h
    rfl
  · obtain ⟨a, d, v, t, rfl, ea, ed, sy, q⟩ := h
    refine ⟨_, (pss_one (ps_ret (pe_callB (reprV K hgd hr.units) (by rfl) T.repr (by decide +kernel) (pa_cons (pe_exAt T.kit_UnknownName T.x_UnknownName.hdC T.x_UnknownName.noN (pv 0)) pa_nil)))), ?_⟩
    exact ⟨_, rfl, a, d, v, rfl, ea, ed, rReprV_of sy q⟩
def keptT (i : Nat) (d : PyData) : Str := if i < 6 then "" else if i = 7 ∨ i = 8 then d.shown ++ " " ++ d.shown else d.shown
def spKept (T : Tx K mg) : Sp := fun vs H Q _ => ∃ (i : Nat) (v : V) (e : Addr) (t : PyData), vs = [.int i, .ref e] ∧ i < 13 ∧ ErrN T.Cs H i v e ∧ Says K H v t ∧ Q (.str (keptT i t)) H
def spDueKept (K : PySem.W.Frag) : Sp := fun vs H Q _ => ∃ (i : Nat) (v : V) (t : PyData), vs = [.int i, v] ∧ i < 13 ∧ Says K H v t ∧ ∀ H', Same H H' → Q (.str (keptT i t)) H'
theorem ErrN.field {T : Tx K mg} {H : Hp} {i : Nat} {v : V} {e C : Addr} {f : Str} (h : ErrN T.Cs H i v e) (hi : 6 ≤ i) (hC : T.Cs.getD i 0 = C) (hf : fieldOf i = f) : ∃ d, H e = some (ExD C d e) ∧ H d = some (.xd [(f, v)]) := by
  subst hC hf
  rcases h with ⟨_, q⟩ | ⟨d, h1, h2⟩
  · unfold fieldsOf at q
    rw [if_neg (by omega)] at q
    cases q
  · refine ⟨d, h1, ?_⟩
    unfold fieldsOf at h2
    rw [if_neg (by omega)] at h2
    exact h2
theorem app_len (x y : Str) : (x ++ y).length = x.length + y.length := by
  have len_tl : ∀ z : Str, z.length = (TL.tl z).length := fun z => by simp [Str.length, TL.tl]
  rw [len_tl, len_tl, len_tl]
  show (TL.tl (x ++ y)).length = _
  rw [TL.tl_append, List.length_append]
theorem Says.big {K : PySem.W.Frag} {H : Hp} {v : V} {t : PyData} (s : Says K H v t) : t.shown.length ≤ sizeLine := by
  have := s.len
  rw [sizeLine_eq]
  omega
theorem few1 {K : PySem.W.Frag} {H : Hp} {v : V} {t : PyData} (s : Says K H v t) : t.shown.length + (Str.ofString " ").length ≤ sizeLine := by
  have := s.len
  rw [sizeLine_eq]
  show t.shown.length + 1 ≤ 16777216
  omega
theorem few2 {K : PySem.W.Frag} {H : Hp} {v : V} {t : PyData} (s : Says K H v t) : (t.shown ++ Str.ofString " ").length + t.shown.length ≤ sizeLine := by
  have := s.len
  rw [sizeLine_eq, app_len]
  show t.shown.length + 1 + t.shown.length ≤ 16777216
  omega
theorem ok_kept (T : Tx K mg) : FnG P w K mg base CX0 4 T.f_kept T.d_kept p_kept (spKept T) := by
  refine fun_g0 T.F_kept sc_kept (fun vs H Q E h => ?_) (fun cdv A outer s H vs Q E hgd hr h => ?_)
  · obtain ⟨i, v, e, t, rfl, _⟩ := h
    rfl
  · obtain ⟨i, v, e, t, rfl, hi, er, sy, q⟩ := h
    refine ⟨_, (pss_cons (ps_if (pt_cmpR op_lt (pv 0) pe_int (nomark _))
      (pss_one (ps_ret pe_str))
      pss_nil)
    (pss_cons (ps_if (pt_cmpR op_eq (pv 0) pe_int (nomark _))
      (pss_one (ps_ret (pe_callB (reprV K hgd hr.units) (by rfl) T.repr (by decide +kernel) (pa_cons (pe_exAt T.kit_ParseError T.x_ParseError.hdC T.x_ParseError.noN (pv 1)) pa_nil))))
      pss_nil)
    (pss_cons (ps_if (pt_cmpR op_eq (pv 0) pe_int (nomark _))
      (pss_one (ps_ret (pe_op op_add_str (pe_op op_add_str (pe_callB (reprV K hgd hr.units) (by rfl) T.repr (by decide +kernel) (pa_cons (pe_exAt T.kit_InvalidNumber T.x_InvalidNumber.hdC T.x_InvalidNumber.noN (pv 1)) pa_nil)) pe_str) (pe_callTy (strE T.fs_InvalidNumber T.isF_InvalidNumber (ok_InvalidNumber_str T) hgd (hr.mono (by decide)) T.bb_InvalidNumber pass0) (by rfl) T.str (by decide +kernel) (pa_cons (pv 1) pa_nil)))))
      pss_nil)
    (pss_cons (ps_if (pt_cmpR op_eq (pv 0) pe_int (nomark _))
      (pss_one (ps_ret (pe_op op_add_str (pe_op op_add_str (pe_callB (reprV K hgd hr.units) (by rfl) T.repr (by decide +kernel) (pa_cons (pe_exAt T.kit_UnknownName T.x_UnknownName.hdC T.x_UnknownName.noN (pv 1)) pa_nil)) pe_str) (pe_callTy (strE T.fs_UnknownName T.isF_UnknownName (ok_UnknownName_str T) hgd (hr.mono (by decide)) T.bb_UnknownName pass0) (by rfl) T.str (by decide +kernel) (pa_cons (pv 1) pa_nil)))))
      pss_nil)
    (pss_cons (ps_if (pt_cmpR op_eq (pv 0) pe_int (nomark _))
      (pss_one (ps_ret (pe_callB (reprV K hgd hr.units) (by rfl) T.repr (by decide +kernel) (pa_cons (pe_exAt T.kit_TooMany T.x_TooMany.hdC T.x_TooMany.noN (pv 1)) pa_nil))))
      pss_nil)
    (pss_cons (ps_if (pt_cmpR op_eq (pv 0) pe_int (nomark _))
      (pss_one (ps_ret (pe_callB (reprV K hgd hr.units) (by rfl) T.repr (by decide +kernel) (pa_cons (pe_exAt T.kit_NothingToUndo T.x_NothingToUndo.hdC T.x_NothingToUndo.noN (pv 1)) pa_nil))))
      pss_nil)
    (pss_one (ps_ret (pe_ifExp (pt_cmpR op_eq (pv 0) pe_int (nomark _)) (pe_callB (reprV K hgd hr.units) (by rfl) T.repr (by decide +kernel) (pa_cons (pe_exAt T.kit_Broken T.x_Broken.hdC T.x_Broken.noN (pv 1)) pa_nil)) (pe_callB (reprV K hgd hr.units) (by rfl) T.repr (by decide +kernel) (pa_cons (pe_exAt T.kit_Loud T.x_Loud.hdC T.x_Loud.noN (pv 1)) pa_nil))))))))))), ?_⟩
    refine ⟨_, rfl, _, _, rfl, rfl, _, rfl, ?_⟩
    refine ite2 (fun hc => ?_) (fun hc => ?_)
    · have hc : (i : Int) < 6 := of_decide_eq_true hc
      have e1 : keptT i t = Str.ofString "" := if_pos (by omega)
      rw [e1] at q
      exact q
    have c2 : ¬ (i : Int) < 6 := fun z => hc (decide_eq_true z)
    refine ⟨_, rfl, rfl, _, rfl, ?_⟩
    refine ite2 (fun hc => ?_) (fun n6 => ?_)
    · obtain rfl : i = 6 := vint (of_decide_eq_true hc)
      obtain ⟨d, h1, h2⟩ := er.field (by decide) rfl rfl
      exact ⟨_, rfl, e, d, v, rfl, h1, h2, rReprV_of sy q⟩
    refine ⟨_, rfl, rfl, _, rfl, ?_⟩
    refine ite2 (fun hc => ?_) (fun n7 => ?_)
    · obtain rfl : i = 7 := vint (of_decide_eq_true hc)
      obtain ⟨d, h1, h2⟩ := er.field (by decide) rfl rfl
      exact ⟨_, rfl, e, d, v, rfl, h1, h2, v, t, rfl, sy.dp _ (Same.refl _), sy.sh, sy.nd, sy.dep, sy.big, _, _, rfl, rfl, few1 sy, _, rfl, e, _, rfl, .inr ⟨d, h1, h2⟩, e, d, v, t, rfl, h1, h2, sy, _, rfl, _, _, rfl, rfl, few2 sy, q⟩
    refine ⟨_, rfl, rfl, _, rfl, ?_⟩
    refine ite2 (fun hc => ?_) (fun n8 => ?_)
    · obtain rfl : i = 8 := vint (of_decide_eq_true hc)
      obtain ⟨d, h1, h2⟩ := er.field (by decide) rfl rfl
      exact ⟨_, rfl, e, d, v, rfl, h1, h2, v, t, rfl, sy.dp _ (Same.refl _), sy.sh, sy.nd, sy.dep, sy.big, _, _, rfl, rfl, few1 sy, _, rfl, e, _, rfl, .inr ⟨d, h1, h2⟩, e, d, v, t, rfl, h1, h2, sy, _, rfl, _, _, rfl, rfl, few2 sy, q⟩
    refine ⟨_, rfl, rfl, _, rfl, ?_⟩
    refine ite2 (fun hc => ?_) (fun n9 => ?_)
    · obtain rfl : i = 9 := vint (of_decide_eq_true hc)
      obtain ⟨d, h1, h2⟩ := er.field (by decide) rfl rfl
      exact ⟨_, rfl, e, d, v, rfl, h1, h2, rReprV_of sy q⟩
    refine ⟨_, rfl, rfl, _, rfl, ?_⟩
    refine ite2 (fun hc => ?_) (fun n10 => ?_)
    · obtain rfl : i = 10 := vint (of_decide_eq_true hc)
      obtain ⟨d, h1, h2⟩ := er.field (by decide) rfl rfl
      exact ⟨_, rfl, e, d, v, rfl, h1, h2, rReprV_of sy q⟩
    refine ⟨_, rfl, rfl, _, rfl, ?_⟩
    have e6 : i ≠ 6 := fun z => n6 (by rw [z]; exact decide_eq_true rfl)
    have e7 : i ≠ 7 := fun z => n7 (by rw [z]; exact decide_eq_true rfl)
    have e8 : i ≠ 8 := fun z => n8 (by rw [z]; exact decide_eq_true rfl)
    have e9 : i ≠ 9 := fun z => n9 (by rw [z]; exact decide_eq_true rfl)
    have e10 : i ≠ 10 := fun z => n10 (by rw [z]; exact decide_eq_true rfl)
    rcases (by omega : i = 11 ∨ i = 12) with rfl | rfl
    · obtain ⟨d, h1, h2⟩ := er.field (by decide) rfl rfl
      exact ⟨_, rfl, e, d, v, rfl, h1, h2, rReprV_of sy q⟩
    · obtain ⟨d, h1, h2⟩ := er.field (by decide) rfl rfl
      exact ⟨_, rfl, e, d, v, rfl, h1, h2, rReprV_of sy q⟩
theorem ok_due_kept (T : Tx K mg) : FnG P w K mg base CX0 1 T.f_due_kept T.d_due_kept p_due_kept (spDueKept K) := by
  refine fun_g0 T.F_due_kept sc_due_kept (fun vs H Q E h => ?_) (fun cdv A outer s H vs Q E hgd hr h => ?_)
  · obtain ⟨i, v, t, rfl, _⟩ := h
    rfl
  · obtain ⟨i, v, t, rfl, hi, sy, q⟩ := h
    refine ⟨_, (pss_cons (ps_if (pt_cmpR op_lt (pv 0) pe_int (nomark _))
      (pss_one (ps_ret pe_str))
      pss_nil)
    (pss_one (ps_ret (pe_ifExp (pt_cmpR (inK K) (pv 0) (pe_tup (pa_cons pe_int (pa_cons pe_int pa_nil))) (by rfl)) (pe_op op_add_str (pe_op op_add_str (pe_callB (reprV K hgd hr.units) (by rfl) T.repr (by decide +kernel) (pa_cons (pv 1) pa_nil)) pe_str) (pe_callB (reprV K hgd hr.units) (by rfl) T.repr (by decide +kernel) (pa_cons (pv 1) pa_nil))) (pe_callB (reprV K hgd hr.units) (by rfl) T.repr (by decide +kernel) (pa_cons (pv 1) pa_nil)))))), ?_⟩
    refine ⟨_, rfl, _, _, rfl, rfl, _, rfl, ?_⟩
    refine ite2 (fun hc => ?_) (fun hc => ?_)
    · have hc : (i : Int) < 6 := of_decide_eq_true hc
      have e1 : keptT i t = Str.ofString "" := if_pos (by omega)
      have q := q H (Same.refl H)
      rw [e1] at q
      exact q
    have c2 : ¬ (i : Int) < 6 := fun z => hc (decide_eq_true z)
    refine ⟨_, rfl, by show 2 ≤ sizeLine; decide, fun tt htt => ?_⟩
    have st := same_new (o := HO.tup [V.int 7, .int 8]) htt
    have sy := sy.same st
    have q := q _ st
    refine ⟨tt, _, rfl, .inr (.of upd_same), rfl, rfl, _, rfl, ?_⟩
    have e2 : inV (.int (i : Int)) [V.int 7, V.int 8] = decide (i = 7 ∨ i = 8) := by
      rcases thirteen hi with rfl | rfl | rfl | rfl | rfl | rfl | rfl | rfl | rfl | rfl | rfl | rfl | rfl <;> rfl
    show if inV (.int (i : Int)) [V.int 7, V.int 8] = true then _ else _
    rw [e2]
    refine ite2 (fun hc => ?_) (fun hc => ?_)
    · have hc := of_decide_eq_true hc
      have e1 : keptT i t = t.shown ++ Str.ofString " " ++ t.shown := (if_neg (by omega)).trans (if_pos hc)
      rw [e1] at q
      exact ⟨_, rfl, v, t, rfl, sy.dp _ (Same.refl _), sy.sh, sy.nd, sy.dep, sy.big, _, _, rfl, rfl, few1 sy, _, rfl, v, t, rfl, sy.dp _ (Same.refl _), sy.sh, sy.nd, sy.dep, sy.big, _, _, rfl, rfl, few2 sy, q⟩
    · have hc : ¬ (i = 7 ∨ i = 8) := fun z => hc (decide_eq_true z)
      have e1 : keptT i t = t.shown := (if_neg (by omega)).trans (if_neg hc)
      rw [e1] at q
      exact ⟨_, rfl, rReprV_of sy q⟩
end
end My

set_option Elab.async false
set_option linter.all false
set_option maxRecDepth 100000
set_option maxHeartbeats 4000000
namespace My
open PySem PySem.Spec PyProof.Rows L2
section
variable {P : Program} {w : World} {K : PySem.W.Frag} {mg : Str → Option Value} {base : Heap}
theorem ok_names (T : Tx K mg) : FnOk P w K mg base CX0 3 T.f_names T.d_names p_names spNames := by
  refine T.F_names.ok sc_names (fun vs H Q E h => ?_) (fun cdv A outer s H vs Q E hr h => ?_)
  · obtain ⟨u, n, rfl, _⟩ := h
    rfl
  · obtain ⟨u, n, rfl, hu, h1, h2, q⟩ := h
    refine ⟨_, (pss_one (ps_ret (pe_slice (slL K) (pe_call (ok_shuffled T) (hr.mono (by decide)) rfl T.m_shuffled T.F_shuffled.kp T.b_shuffled .nil pass0 (pa_cons (pv 0) (pa_cons (pe_lst (pa_cons pe_str (pa_cons pe_str (pa_cons pe_str (pa_cons pe_str (pa_cons pe_str (pa_cons pe_str (pa_cons pe_str (pa_cons pe_str (pa_cons pe_str (pa_cons pe_str (pa_cons pe_str (pa_cons pe_str pa_nil))))))))))))) pa_nil))) po_none (po_some (pv 1))))), ?_⟩
    refine ⟨_, rfl, by show 12 ≤ sizeLine; decide, fun W hW => ?_⟩
    have sW := same_new (o := HO.lst (NAMES.map V.str)) hW
    refine ⟨u, W, NAMES.map V.str, rfl, (Drew.of hu sW).1, hu.ne hW, .of upd_same, by decide, fun H' p ys hd hp hy pm => ?_⟩
    obtain ⟨ns, rfl, pm2⟩ := perm_back unS (fun _ => rfl) pm
    refine ⟨_, rfl, _, rfl, p, _, rfl, .of hy, fun t ht => ?_⟩
    have d1 : Drew u H H' := (Drew.of hu sW).trans hd
    rw [cut_to]
    have nl : ns.length = 12 := pm2.length_eq
    exact q _ t (ns.take n) (d1.new ht) (d1.free ht) upd_same ((pm2.nodup_iff.mpr names_nodup).sublist (List.take_sublist _ _)) (fun z hz => pm2.mem_iff.mp (List.mem_of_mem_take hz)) (by rw [List.length_take]; omega)
/-- the texts that errors are made with -/
def TEXTS : List Str := ["", "a message", "two words", "road", "rule", "it's", "a", "b", "c", "d", "e", "f", "g", "go", "up", "zz", "turner", "zzzzzzzz"]
/-- a value that an error is made with -/
def ValOk (u : Addr) (H : Hp) (v : V) : Prop := (∃ z ∈ TEXTS, v = .str z) ∨ (∃ n : Int, v = .int n ∧ (n = -7 ∨ (0 ≤ n ∧ n < 10 ^ 61))) ∨ v = .non ∨ v = .bl true ∨ (∃ a, v = .ref a ∧ H a = some (.tup [.int 1, .str "a"])) ∨ (∃ a, v = .ref a ∧ a ≠ u ∧ H a = some (.lst [.str "a"]))
theorem ValOk.drew {u : Addr} {H H' : Hp} {v : V} (h : ValOk u H v) (hu : UrnOk H u) (d : Drew u H H') : ValOk u H' v := by
  rcases h with h | h | h | h | ⟨a, e, h⟩ | ⟨a, e, n, h⟩
  · exact .inl h
  · exact .inr (.inl h)
  · exact .inr (.inr (.inl h))
  · exact .inr (.inr (.inr (.inl h)))
  · exact .inr (.inr (.inr (.inr (.inl ⟨a, e, d.2 _ _ (hu.ne' h) h⟩))))
  · exact .inr (.inr (.inr (.inr (.inr ⟨a, e, n, d.2 _ _ n h⟩))))
theorem text_says {z : Str} (h : z ∈ TEXTS) : (PyData.str z).showable = true ∧ (PyData.str z).hasDict = false ∧ (PyData.str z).depth ≤ 8 ∧ (PyData.str z).shown.length ≤ 1000 := by
  have h : z = "" ∨ z = "a message" ∨ z = "two words" ∨ z = "road" ∨ z = "rule" ∨ z = "it's" ∨ z = "a" ∨ z = "b" ∨ z = "c" ∨ z = "d" ∨ z = "e" ∨ z = "f" ∨ z = "g" ∨ z = "go" ∨ z = "up" ∨ z = "zz" ∨ z = "turner" ∨ z = "zzzzzzzz" := by simpa only [TEXTS, List.mem_cons, List.not_mem_nil, or_false] using h
  rcases h with rfl | rfl | rfl | rfl | rfl | rfl | rfl | rfl | rfl | rfl | rfl | rfl | rfl | rfl | rfl | rfl | rfl | rfl <;> refine ⟨?_, ?_, ?_, ?_⟩ <;> decide +kernel
theorem int_says {n : Int} (h : n = -7 ∨ (0 ≤ n ∧ n < 10 ^ 61)) : (PyData.int n).showable = true ∧ (PyData.int n).hasDict = false ∧ (PyData.int n).depth ≤ 8 ∧ (PyData.int n).shown.length ≤ 1000 := by
  rcases h with rfl | ⟨h0, h1⟩
  · refine ⟨?_, ?_, ?_, ?_⟩ <;> decide +kernel
  · have e : n.natAbs < 2 ^ 1900 := by
      have : (10 : Int) ^ 61 < 2 ^ 1900 := by decide +kernel
      omega
    refine ⟨?_, ?_, ?_, ?_⟩
    · simp only [PyData.showable]
      refine decide_eq_true ?_
      by_cases hz : n.natAbs = 0
      · rw [hz]; decide
      · exact Nat.lt_of_lt_of_le ((Nat.log2_lt hz).mpr e) (by decide)
    · unfold PyData.hasDict; rfl
    · unfold PyData.depth; decide
    · simp only [PyData.shown]
      exact Nat.le_trans (toString_length_le h0 (k := 61) (by decide) h1) (by decide)
theorem ValOk.says {K : PySem.W.Frag} {u : Addr} {H : Hp} {v : V} (h : ValOk u H v) : ∃ t, Says K H v t := by
  rcases h with ⟨z, h, rfl⟩ | ⟨n, rfl, h⟩ | rfl | rfl | ⟨a, rfl, h⟩ | ⟨a, rfl, n, h⟩
  · obtain ⟨h1, h2, h3, h4⟩ := text_says h
    exact ⟨.str z, fun _ _ => .str z, h1, h2, h3, h4⟩
  · obtain ⟨h1, h2, h3, h4⟩ := int_says h
    exact ⟨.int n, fun _ _ => .int n, h1, h2, h3, h4⟩
  · exact ⟨.none, fun _ _ => .non, by decide +kernel, by decide +kernel, by decide +kernel, by decide +kernel⟩
  · exact ⟨.bool true, fun _ _ => .bl true, by decide +kernel, by decide +kernel, by decide +kernel, by decide +kernel⟩
  · exact ⟨.tuple [.int 1, .str "a"], fun H' s => .tup (.of (s _ _ h)) (.cons (.int 1) (.cons (.str "a") .nil)), by decide +kernel, by decide +kernel, by decide +kernel, by decide +kernel⟩
  · exact ⟨.list [.str "a"], fun H' s => .lst (.of (s _ _ h)) (.cons (.str "a") .nil), by decide +kernel, by decide +kernel, by decide +kernel, by decide +kernel⟩
theorem names_texts {z : Str} (h : z ∈ NAMES) : z ∈ TEXTS := by
  have h : z = "a" ∨ z = "b" ∨ z = "c" ∨ z = "d" ∨ z = "e" ∨ z = "f" ∨ z = "g" ∨ z = "go" ∨ z = "up" ∨ z = "zz" ∨ z = "turner" ∨ z = "zzzzzzzz" := by simpa only [NAMES, List.mem_cons, List.not_mem_nil, or_false] using h
  rcases h with rfl | rfl | rfl | rfl | rfl | rfl | rfl | rfl | rfl | rfl | rfl | rfl <;> decide +kernel
def spValueFor : Sp := fun vs H Q _ => ∃ (u : Addr) (i : Nat), vs = [.ref u, .int i] ∧ UrnOk H u ∧ i < 13 ∧ ∀ (H' : Hp) (v : V), Drew u H H' → (∀ b o, H b = some o → ValOk b H' v) → Q v H'
theorem ok_value_for (T : Tx K mg) : FnOk P w K mg base CX0 4 T.f_value_for T.d_value_for p_value_for spValueFor := by
  refine T.F_value_for.ok sc_value_for (fun vs H Q E h => ?_) (fun cdv A outer s H vs Q E hr h => ?_)
  · obtain ⟨u, i, rfl, _⟩ := h
    rfl
  · obtain ⟨u, i, rfl, hu, hi, q⟩ := h
    refine ⟨_, (pss_cons (ps_if (pt_cmpR (inK K) (pv 1) (pe_tup (pa_cons pe_int (pa_cons pe_int (pa_cons pe_int pa_nil)))) (by rfl))
      (pss_one (ps_ret (pe_call (ok_one_of T) (hr.mono (by decide)) rfl T.m_one_of T.F_one_of.kp T.b_one_of .nil pass0 (pa_cons (pv 0) (pa_cons (pe_lst (pa_cons pe_int (pa_cons pe_int (pa_cons pe_int (pa_cons pe_int (pa_cons pe_int (pa_cons (pe_call (ok_dip T) (hr.mono (by decide)) rfl T.m_dip T.F_dip.kp T.b_dip .nil pass0 (pa_cons (pv 0) (pa_cons (pe_op op_powB pe_int pe_int) pa_nil))) pa_nil))))))) pa_nil)))))
      pss_nil)
    (pss_cons (ps_if (pt_cmpR (inK K) (pv 1) (pe_tup (pa_cons pe_int (pa_cons pe_int pa_nil))) (by rfl))
      (pss_one (ps_ret (pe_call (ok_one_of T) (hr.mono (by decide)) rfl T.m_one_of T.F_one_of.kp T.b_one_of .nil pass0 (pa_cons (pv 0) (pa_cons (pe_lst (pa_cons pe_non (pa_cons pe_bl (pa_cons pe_int (pa_cons (pe_un un_neg pe_int) (pa_cons pe_str (pa_cons pe_str (pa_cons pe_str (pa_cons (pe_tup (pa_cons pe_int (pa_cons pe_str pa_nil))) (pa_cons (pe_lst (pa_cons pe_str pa_nil)) (pa_cons (pe_op op_add (pe_op op_powB pe_int pe_int) (pe_call (ok_dip T) (hr.mono (by decide)) rfl T.m_dip T.F_dip.kp T.b_dip .nil pass0 (pa_cons (pv 0) (pa_cons pe_int pa_nil)))) pa_nil))))))))))) pa_nil)))))
      pss_nil)
    (pss_cons (ps_if (pt_cmpR op_gt (pv 1) pe_int (nomark _))
      (pss_one (ps_ret (pe_call (ok_one_of T) (hr.mono (by decide)) rfl T.m_one_of T.F_one_of.kp T.b_one_of .nil pass0 (pa_cons (pv 0) (pa_cons (pe_call (ok_names T) (hr.mono (by decide)) rfl T.m_names T.F_names.kp T.b_names .nil pass0 (pa_cons (pv 0) (pa_cons pe_int pa_nil))) pa_nil)))))
      pss_nil)
    (pss_one (ps_ret (pe_call (ok_one_of T) (hr.mono (by decide)) rfl T.m_one_of T.F_one_of.kp T.b_one_of .nil pass0 (pa_cons (pv 0) (pa_cons (pe_lst (pa_cons pe_str (pa_cons pe_str (pa_cons pe_str (pa_cons pe_str (pa_cons pe_str pa_nil)))))) pa_nil)))))))), ?_⟩
    refine ⟨_, rfl, by show 3 ≤ sizeLine; decide, fun t1 h1 => ⟨t1, _, rfl, .inr (.of upd_same), rfl, rfl, _, rfl, ?_⟩⟩
    have s1 := same_new (o := HO.tup [V.int 6, .int 9, .int 10]) h1
    have d1 := Drew.of hu s1
    have e1 : inV (.int (i : Int)) [V.int 6, V.int 9, V.int 10] = decide (i = 6 ∨ i = 9 ∨ i = 10) := by
      rcases thirteen hi with rfl | rfl | rfl | rfl | rfl | rfl | rfl | rfl | rfl | rfl | rfl | rfl | rfl <;> rfl
    show if inV (.int (i : Int)) [V.int 6, V.int 9, V.int 10] = true then _ else _
    rw [e1]
    generalize upd H t1 (.tup [.int 6, .int 9, .int 10]) = H1 at s1 d1
    refine ite2 (fun hc => ?_) (fun hc => ?_)
    · refine ⟨_, rfl, _, rfl, _, _, rfl, rfl, ⟨by decide, by decide +kernel⟩, u, _, rfl, d1.1, by show (0 : Int) < 10 ^ (12 : Int).toNat; decide, by decide +kernel, fun H2 r d2 r0 r1 => ⟨by show 6 ≤ sizeLine; decide, fun l hl => ?_⟩⟩
      have d3 := (d1.trans d2).new (o := HO.lst [V.int 0, .int 1, .int 8, .int 60, .int 2000, .int r]) hl
      refine ⟨u, d3.1, .inl ⟨l, _, rfl, (d1.trans d2).1.ne hl, .of upd_same, by show 0 < 6; decide, by show 6 ≤ 1000000; decide, fun H4 x d4 hx => q H4 x (d3.trans d4) ?_⟩⟩
      have r1 : r < 10 ^ 12 := r1
      have hx : x = .int 0 ∨ x = .int 1 ∨ x = .int 8 ∨ x = .int 60 ∨ x = .int 2000 ∨ x = .int r := by simpa only [List.mem_cons, List.not_mem_nil, or_false] using hx
      rcases hx with rfl | rfl | rfl | rfl | rfl | rfl <;> exact fun _ _ _ => .inr (.inl ⟨_, rfl, .inr ⟨by omega, by omega⟩⟩)
    refine ⟨_, rfl, by show 2 ≤ sizeLine; decide, fun t2 h2 => ⟨t2, _, rfl, .inr (.of upd_same), rfl, rfl, _, rfl, ?_⟩⟩
    have d2 := d1.new (o := HO.tup [V.int 7, .int 8]) h2
    have e2 : inV (.int (i : Int)) [V.int 7, V.int 8] = decide (i = 7 ∨ i = 8) := by
      rcases thirteen hi with rfl | rfl | rfl | rfl | rfl | rfl | rfl | rfl | rfl | rfl | rfl | rfl | rfl <;> rfl
    show if inV (.int (i : Int)) [V.int 7, V.int 8] = true then _ else _
    rw [e2]
    generalize upd H1 t2 (.tup [.int 7, .int 8]) = H2 at d2
    refine ite2 (fun hc => ?_) (fun hc => ?_)
    · refine ⟨_, rfl, _, rfl, by show 2 ≤ sizeLine; decide, fun a8 h8 => ⟨by show 1 ≤ sizeLine; decide, fun b9 h9 => ?_⟩⟩
      have d3 := d2.new (o := HO.tup [V.int 1, .str "a"]) h8
      have d4 := d3.new (o := HO.lst [V.str "a"]) h9
      have k8 := (same_new (o := HO.lst [V.str "a"]) h9) _ _ (upd_same (H := H2) (a := a8) (o := HO.tup [V.int 1, .str "a"]))
      have k9 := upd_same (H := upd H2 a8 (.tup [.int 1, .str "a"])) (a := b9) (o := HO.lst [V.str "a"])
      have n9 := d3.1.ne h9
      generalize upd (upd H2 a8 (.tup [.int 1, .str "a"])) b9 (.lst [.str "a"]) = H4 at d4 k8 k9
      refine ⟨_, _, rfl, rfl, ⟨by decide, by decide +kernel⟩, _, rfl, u, 99, rfl, d4.1, by decide, by decide +kernel, fun H5 r d5 r0 r1 => ⟨_, _, rfl, rfl, by show 10 ≤ sizeLine; decide, fun l hl => ?_⟩⟩
      have k8' := d5.2 _ _ (d4.1.ne' k8) k8
      have k9' := d5.2 _ _ n9 k9
      have d6 := (d4.trans d5).new (o := HO.lst [V.non, .bl true, .int 0, .int (-7), .str "", .str "road", .str "it's", .ref a8, .ref b9, .int (10 ^ (60 : Int).toNat + r)]) hl
      refine ⟨u, d6.1, .inl ⟨l, _, rfl, (d4.trans d5).1.ne hl, .of upd_same, by show 0 < 10; decide, by show 10 ≤ 1000000; decide, fun H7 x d7 hx => q H7 x (d6.trans d7) ?_⟩⟩
      have sl := same_new (o := HO.lst [V.non, .bl true, .int 0, .int (-7), .str "", .str "road", .str "it's", .ref a8, .ref b9, .int (10 ^ (60 : Int).toNat + r)]) hl
      have hx : x = .non ∨ x = .bl true ∨ x = .int 0 ∨ x = .int (-7) ∨ x = .str "" ∨ x = .str "road" ∨ x = .str "it's" ∨ x = .ref a8 ∨ x = .ref b9 ∨ x = .int (10 ^ (60 : Int).toNat + r) := by simpa only [List.mem_cons, List.not_mem_nil, or_false] using hx
      intro bb oo hbb
      have nb : b9 ≠ bb := (ne_of_none hbb (d3.free h9)).symm
      rcases hx with rfl | rfl | rfl | rfl | rfl | rfl | rfl | rfl | rfl | rfl
      · exact .inr (.inr (.inl rfl))
      · exact .inr (.inr (.inr (.inl rfl)))
      · exact .inr (.inl ⟨_, rfl, .inr ⟨by decide, by decide⟩⟩)
      · exact .inr (.inl ⟨_, rfl, .inl rfl⟩)
      · exact .inl ⟨_, by decide +kernel, rfl⟩
      · exact .inl ⟨_, by decide +kernel, rfl⟩
      · exact .inl ⟨_, by decide +kernel, rfl⟩
      · exact .inr (.inr (.inr (.inr (.inl ⟨a8, rfl, d7.2 _ _ (d6.1.ne' (sl _ _ k8')) (sl _ _ k8')⟩))))
      · exact .inr (.inr (.inr (.inr (.inr ⟨b9, rfl, nb, d7.2 _ _ n9 (sl _ _ k9')⟩))))
      · refine .inr (.inl ⟨_, rfl, .inr ?_⟩)
        have e : (10 : Int) ^ (60 : Int).toNat = 10 ^ 60 := rfl
        rw [e]
        have e3 : (10 : Int) ^ 60 + 99 < 10 ^ 61 := by decide +kernel
        have e4 : (0 : Int) ≤ 10 ^ 60 := by decide +kernel
        omega
    refine ⟨_, rfl, _, _, rfl, rfl, _, rfl, ?_⟩
    refine ite2 (fun hc => ?_) (fun hc => ?_)
    · refine ⟨_, rfl, _, rfl, u, 8, rfl, d2.1, by decide, by decide, fun H3 p ns d3 hp hpl nd hin hl => ?_⟩
      refine ⟨u, d3.1, .inl ⟨p, _, rfl, d2.1.ne hp, .of hpl, by rw [List.length_map, hl]; decide, by rw [List.length_map, hl]; decide, fun H4 x d4 hx => q H4 x ((d2.trans d3).trans d4) ?_⟩⟩
      obtain ⟨z, hz, rfl⟩ := List.mem_map.mp hx
      exact fun _ _ _ => .inl ⟨z, names_texts (hin z hz), rfl⟩
    · refine ⟨_, rfl, by show 5 ≤ sizeLine; decide, fun l hl => ?_⟩
      have d3 := d2.new (o := HO.lst [V.str "", .str "a message", .str "two words", .str "road", .str "rule"]) hl
      refine ⟨u, d3.1, .inl ⟨l, _, rfl, d2.1.ne hl, .of upd_same, by show 0 < 5; decide, by show 5 ≤ 1000000; decide, fun H4 x d4 hx => q H4 x (d3.trans d4) ?_⟩⟩
      have hx : x = .str "" ∨ x = .str "a message" ∨ x = .str "two words" ∨ x = .str "road" ∨ x = .str "rule" := by simpa only [List.mem_cons, List.not_mem_nil, or_false] using hx
      rcases hx with rfl | rfl | rfl | rfl | rfl <;> exact fun _ _ _ => .inl ⟨_, by decide +kernel, rfl⟩
end
end My

set_option Elab.async false
set_option linter.all false
set_option maxRecDepth 100000
set_option maxHeartbeats 4000000
namespace My
open PySem PySem.Spec PyProof.Rows L2
section
variable {P : Program} {w : World} {K : PySem.W.Frag} {mg : Str → Option Value} {base : Heap}
/-- one of the errors that keep something is raised -/
def spThrown (T : Tx K mg) : Sp := fun vs H _ E => ∃ (i : Nat) (v : V), vs = [.int i, v] ∧ 6 ≤ i ∧ i < 13 ∧ ∀ d, H d = none → E (.ref (T.Cs.getD i 0)) (some d) (upd H d (.xd (fieldsOf i v)))
theorem ok_thrown (T : Tx K mg) : FnOk P w K mg base (L2.CX P w) 3 T.f_thrown T.d_thrown p_thrown (spThrown T) := by
  refine T.F_thrown.okX sc_thrown (fun vs H Q E h => ?_) (fun cdv A outer s H vs Q E hr h => ?_)
  · obtain ⟨i, v, rfl, _⟩ := h
    rfl
  · obtain ⟨i, v, rfl, h6, hi, q⟩ := h
    refine ⟨_, (pss_cons (ps_if (pt_cmpR op_eq (pv 0) pe_int (nomark _))
      (pss_one (ps_raiseParseError rfl T.x_ParseError (hr.mono (Nat.le_refl _)) (takes_of rfl rfl rfl rfl) (by exact (pa_cons (pv 1) pa_nil))))
      pss_nil)
    (pss_cons (ps_if (pt_cmpR op_eq (pv 0) pe_int (nomark _))
      (pss_one (ps_raiseInvalidNumber rfl T.x_InvalidNumber (hr.mono (Nat.le_refl _)) (takes_of rfl rfl rfl rfl) (by exact (pa_cons (pv 1) pa_nil))))
      pss_nil)
    (pss_cons (ps_if (pt_cmpR op_eq (pv 0) pe_int (nomark _))
      (pss_one (ps_raiseUnknownName rfl T.x_UnknownName (hr.mono (Nat.le_refl _)) (takes_of rfl rfl rfl rfl) (by exact (pa_cons (pv 1) pa_nil))))
      pss_nil)
    (pss_cons (ps_if (pt_cmpR op_eq (pv 0) pe_int (nomark _))
      (pss_one (ps_raiseTooMany rfl T.x_TooMany (hr.mono (Nat.le_refl _)) (takes_of rfl rfl rfl rfl) (by exact (pa_cons (pv 1) pa_nil))))
      pss_nil)
    (pss_cons (ps_if (pt_cmpR op_eq (pv 0) pe_int (nomark _))
      (pss_one (ps_raiseNothingToUndo rfl T.x_NothingToUndo (hr.mono (Nat.le_refl _)) (takes_of rfl rfl rfl rfl) (by exact (pa_cons (pv 1) pa_nil))))
      pss_nil)
    (pss_cons (ps_if (pt_cmpR op_eq (pv 0) pe_int (nomark _))
      (pss_one (ps_raiseBroken rfl T.x_Broken (hr.mono (Nat.le_refl _)) (takes_of rfl rfl rfl rfl) (by exact (pa_cons (pv 1) pa_nil))))
      pss_nil)
    (pss_one (ps_raiseLoud rfl T.x_Loud (hr.mono (Nat.le_refl _)) (takes_of rfl rfl rfl rfl) (by exact (pa_cons (pv 1) pa_nil)))))))))), ?_⟩
    refine ⟨_, rfl, rfl, _, rfl, ?_⟩
    refine ite2 (fun hc => ?_) (fun n6 => ?_)
    · obtain rfl : i = 6 := vint (of_decide_eq_true hc)
      exact ⟨_, rfl, v, rfl, fun d hd => q d hd⟩
    refine ⟨_, rfl, rfl, _, rfl, ?_⟩
    refine ite2 (fun hc => ?_) (fun n7 => ?_)
    · obtain rfl : i = 7 := vint (of_decide_eq_true hc)
      exact ⟨_, rfl, v, rfl, fun d hd => q d hd⟩
    refine ⟨_, rfl, rfl, _, rfl, ?_⟩
    refine ite2 (fun hc => ?_) (fun n8 => ?_)
    · obtain rfl : i = 8 := vint (of_decide_eq_true hc)
      exact ⟨_, rfl, v, rfl, fun d hd => q d hd⟩
    refine ⟨_, rfl, rfl, _, rfl, ?_⟩
    refine ite2 (fun hc => ?_) (fun n9 => ?_)
    · obtain rfl : i = 9 := vint (of_decide_eq_true hc)
      exact ⟨_, rfl, v, rfl, fun d hd => q d hd⟩
    refine ⟨_, rfl, rfl, _, rfl, ?_⟩
    refine ite2 (fun hc => ?_) (fun n10 => ?_)
    · obtain rfl : i = 10 := vint (of_decide_eq_true hc)
      exact ⟨_, rfl, v, rfl, fun d hd => q d hd⟩
    refine ⟨_, rfl, rfl, _, rfl, ?_⟩
    refine ite2 (fun hc => ?_) (fun n11 => ?_)
    · obtain rfl : i = 11 := vint (of_decide_eq_true hc)
      exact ⟨_, rfl, v, rfl, fun d hd => q d hd⟩
    have e6 : i ≠ 6 := fun z => n6 (by rw [z]; exact decide_eq_true rfl)
    have e7 : i ≠ 7 := fun z => n7 (by rw [z]; exact decide_eq_true rfl)
    have e8 : i ≠ 8 := fun z => n8 (by rw [z]; exact decide_eq_true rfl)
    have e9 : i ≠ 9 := fun z => n9 (by rw [z]; exact decide_eq_true rfl)
    have e10 : i ≠ 10 := fun z => n10 (by rw [z]; exact decide_eq_true rfl)
    have e11 : i ≠ 11 := fun z => n11 (by rw [z]; exact decide_eq_true rfl)
    obtain rfl : i = 12 := by omega
    exact ⟨_, rfl, v, rfl, fun d hd => q d hd⟩
theorem excF (T : Tx K mg) {i : Nat} (hi : i < 13) (j : Nat) (hj : j < 14) {C : Addr} (hC : T.Cs.getD j 0 = C) : PySem.W.exmOne K (.ref (T.Cs.getD i 0)) (.ref C) = some (sortB i j) := hC ▸ (tab_row T.tabs hi).2.2.2 j hj
def spCaught : Sp := fun vs H Q _ => ∃ (i : Nat) (v : V), vs = [.int i, v] ∧ 6 ≤ i ∧ i < 13 ∧ ∀ H', Same H H' → Q (.int i) H'
theorem ok_caught (T : Tx K mg) : FnOk P w K mg base CX0 4 T.f_caught T.d_caught p_caught spCaught := by
  refine T.F_caught.ok sc_caught (fun vs H Q E h => ?_) (fun cdv A outer s H vs Q E hr h => ?_)
  · obtain ⟨i, v, rfl, _⟩ := h
    rfl
  · obtain ⟨i, v, rfl, h6, hi, q⟩ := h
    refine ⟨_, pss_cons (ps_try_many (tb := fun W => tDrop (tCallSD (spThrown T) [] (WE W) (tCons (tVar 0) (tCons (tVar 1) tNil)))) (Wout := fun _ _ _ _ => False) rfl rfl L2.takes0
      (fun W pn xe tk _ => pss_one (ps_expr (pe_callSD (ok_thrown T) (hr.mono (by decide)) rfl T.m_thrown T.F_thrown.kp T.b_thrown .nil (fun σ => passAt tk σ) (pa_cons (pv 0) (pa_cons (pv 1) pa_nil)))))
      (HdsOk.cons (c := .ref T.C_MoverError) ⟨rfl, by decide, .inl T.C_MoverError_at⟩ (fun a oe cls d pn _ _ => pss_one (ps_ret pe_int)) (HdsOk.cons (c := .ref T.C_InvalidNumber) ⟨rfl, by decide, .inl T.x_InvalidNumber.gC⟩ (fun a oe cls d pn _ _ => pss_one (ps_ret pe_int)) (HdsOk.cons (c := .ref T.C_UnknownName) ⟨rfl, by decide, .inl T.x_UnknownName.gC⟩ (fun a oe cls d pn _ _ => pss_one (ps_ret pe_int)) (HdsOk.cons (c := .ref T.C_TooMany) ⟨rfl, by decide, .inl T.x_TooMany.gC⟩ (fun a oe cls d pn _ _ => pss_one (ps_ret pe_int)) (HdsOk.cons (c := .ref T.C_NothingToUndo) ⟨rfl, by decide, .inl T.x_NothingToUndo.gC⟩ (fun a oe cls d pn _ _ => pss_one (ps_ret pe_int)) (HdsOk.cons (c := .ref T.C_Broken) ⟨rfl, by decide, .inl T.x_Broken.gC⟩ (fun a oe cls d pn _ _ => pss_one (ps_ret pe_int)) (HdsOk.cons (c := .ref T.C_Loud) ⟨rfl, by decide, .inl T.x_Loud.gC⟩ (fun a oe cls d pn _ _ => pss_one (ps_ret pe_int)) HdsOk.nil)))))))) (pss_one (ps_ret pe_int)), ?_⟩
    rcases (by omega : i = 6 ∨ i = 7 ∨ i = 8 ∨ i = 9 ∨ i = 10 ∨ i = 11 ∨ i = 12) with rfl | rfl | rfl | rfl | rfl | rfl | rfl
    · exact ⟨_, rfl, _, rfl, 6, v, rfl, by decide, by decide, fun d hd => ⟨true, excF T hi 13 (by decide) rfl, fun _ a ha => q _ (same_new hd), fun z => Bool.noConfusion z⟩⟩
    · exact ⟨_, rfl, _, rfl, 7, v, rfl, by decide, by decide, fun d hd => ⟨false, excF T hi 13 (by decide) rfl, fun z => Bool.noConfusion z, fun _ => ⟨true, excF T hi 7 (by decide) rfl, fun _ a ha => q _ (same_new hd), fun z => Bool.noConfusion z⟩⟩⟩
    · exact ⟨_, rfl, _, rfl, 8, v, rfl, by decide, by decide, fun d hd => ⟨false, excF T hi 13 (by decide) rfl, fun z => Bool.noConfusion z, fun _ => ⟨false, excF T hi 7 (by decide) rfl, fun z => Bool.noConfusion z, fun _ => ⟨true, excF T hi 8 (by decide) rfl, fun _ a ha => q _ (same_new hd), fun z => Bool.noConfusion z⟩⟩⟩⟩
    · exact ⟨_, rfl, _, rfl, 9, v, rfl, by decide, by decide, fun d hd => ⟨false, excF T hi 13 (by decide) rfl, fun z => Bool.noConfusion z, fun _ => ⟨false, excF T hi 7 (by decide) rfl, fun z => Bool.noConfusion z, fun _ => ⟨false, excF T hi 8 (by decide) rfl, fun z => Bool.noConfusion z, fun _ => ⟨true, excF T hi 9 (by decide) rfl, fun _ a ha => q _ (same_new hd), fun z => Bool.noConfusion z⟩⟩⟩⟩⟩
    · exact ⟨_, rfl, _, rfl, 10, v, rfl, by decide, by decide, fun d hd => ⟨false, excF T hi 13 (by decide) rfl, fun z => Bool.noConfusion z, fun _ => ⟨false, excF T hi 7 (by decide) rfl, fun z => Bool.noConfusion z, fun _ => ⟨false, excF T hi 8 (by decide) rfl, fun z => Bool.noConfusion z, fun _ => ⟨false, excF T hi 9 (by decide) rfl, fun z => Bool.noConfusion z, fun _ => ⟨true, excF T hi 10 (by decide) rfl, fun _ a ha => q _ (same_new hd), fun z => Bool.noConfusion z⟩⟩⟩⟩⟩⟩
    · exact ⟨_, rfl, _, rfl, 11, v, rfl, by decide, by decide, fun d hd => ⟨false, excF T hi 13 (by decide) rfl, fun z => Bool.noConfusion z, fun _ => ⟨false, excF T hi 7 (by decide) rfl, fun z => Bool.noConfusion z, fun _ => ⟨false, excF T hi 8 (by decide) rfl, fun z => Bool.noConfusion z, fun _ => ⟨false, excF T hi 9 (by decide) rfl, fun z => Bool.noConfusion z, fun _ => ⟨false, excF T hi 10 (by decide) rfl, fun z => Bool.noConfusion z, fun _ => ⟨true, excF T hi 11 (by decide) rfl, fun _ a ha => q _ (same_new hd), fun z => Bool.noConfusion z⟩⟩⟩⟩⟩⟩⟩
    · exact ⟨_, rfl, _, rfl, 12, v, rfl, by decide, by decide, fun d hd => ⟨false, excF T hi 13 (by decide) rfl, fun z => Bool.noConfusion z, fun _ => ⟨false, excF T hi 7 (by decide) rfl, fun z => Bool.noConfusion z, fun _ => ⟨false, excF T hi 8 (by decide) rfl, fun z => Bool.noConfusion z, fun _ => ⟨false, excF T hi 9 (by decide) rfl, fun z => Bool.noConfusion z, fun _ => ⟨false, excF T hi 10 (by decide) rfl, fun z => Bool.noConfusion z, fun _ => ⟨false, excF T hi 11 (by decide) rfl, fun z => Bool.noConfusion z, fun _ => ⟨true, excF T hi 12 (by decide) rfl, fun _ a ha => q _ (same_new hd), fun z => Bool.noConfusion z⟩⟩⟩⟩⟩⟩⟩⟩
end
end My

set_option Elab.async false
set_option linter.all false
set_option maxRecDepth 100000
set_option maxHeartbeats 4000000
namespace My
open PySem PySem.Spec PyProof.Rows L2
section
variable {P : Program} {w : World} {K : PySem.W.Frag} {mg : Str → Option Value} {base : Heap}
def spLaw (K : PySem.W.Frag) : Sp := fun vs H Q _ => ∃ (a : Addr) (ns : List Int), vs = [.ref a] ∧ SqL K H a (ns.map V.int) ∧ ns.length ≤ 63 ∧ ∀ H', Q (.bl true) H'
/-- an entry of the list: a number, a value and the error made with it -/
def EntryAt (Cs : List Addr) (u L : Addr) (H : Hp) (w : V) : Prop := ∃ (p : Addr) (i : Nat) (v : V) (e : Addr), w = .ref p ∧ H p = some (.tup [.int i, v, .ref e]) ∧ i < 13 ∧ ErrN Cs H i v e ∧ ValOk u H v ∧ ValOk L H v
theorem ErrN.kept {Cs : List Addr} {u L : Addr} {H H' : Hp} {i : Nat} {v : V} {e : Addr} {us ls : List V} (h : ErrN Cs H i v e) (hu : H u = some (.lst us)) (hL : H L = some (.lst ls)) (k : ∀ b o, b ≠ u → b ≠ L → H b = some o → H' b = some o) : ErrN Cs H' i v e := by
  have ap : ∀ b o, H b = some o → (∀ l, o ≠ .lst l) → H' b = some o := fun b o q nl => k b o (fun z => by rw [z, hu] at q; exact nl _ (Option.some.inj q).symm) (fun z => by rw [z, hL] at q; exact nl _ (Option.some.inj q).symm) q
  rcases h with ⟨h, q⟩ | ⟨d, h, q⟩
  · exact .inl ⟨ap _ _ h (fun l z => by cases z), q⟩
  · exact .inr ⟨d, ap _ _ h (fun l z => by cases z), ap _ _ q (fun l z => by cases z)⟩
theorem EntryAt.kept {Cs : List Addr} {u L : Addr} {H H' : Hp} {w : V} {us ls : List V} (h : EntryAt Cs u L H w) (hu : H u = some (.lst us)) (hL : H L = some (.lst ls)) (k : ∀ b o, b ≠ u → b ≠ L → H b = some o → H' b = some o) : EntryAt Cs u L H' w := by
  obtain ⟨p, i, v, e, rfl, hp, hi, er, v1, v2⟩ := h
  have ap : ∀ b o, H b = some o → (∀ l, o ≠ .lst l) → H' b = some o := fun b o q nl => k b o (fun z => by rw [z, hu] at q; exact nl _ (Option.some.inj q).symm) (fun z => by rw [z, hL] at q; exact nl _ (Option.some.inj q).symm) q
  refine ⟨p, i, v, e, rfl, ap _ _ hp (fun l z => by cases z), hi, er.kept hu hL k, ?_, ?_⟩
  · rcases v1 with h | h | h | h | ⟨a, e, h⟩ | ⟨a, rfl, n, h⟩
    · exact .inl h
    · exact .inr (.inl h)
    · exact .inr (.inr (.inl h))
    · exact .inr (.inr (.inr (.inl h)))
    · exact .inr (.inr (.inr (.inr (.inl ⟨a, e, ap _ _ h (fun l z => by cases z)⟩))))
    · rcases v2 with ⟨z, _, q⟩ | ⟨z, q, _⟩ | q | q | ⟨a', q, h'⟩ | ⟨a', q, n', h'⟩
      · cases q
      · cases q
      · cases q
      · cases q
      · cases q
        rw [h] at h'
        cases h'
      · cases q
        exact .inr (.inr (.inr (.inr (.inr ⟨a, rfl, n, k _ _ n n' h⟩))))
  · rcases v2 with h | h | h | h | ⟨a, e, h⟩ | ⟨a, rfl, n, h⟩
    · exact .inl h
    · exact .inr (.inl h)
    · exact .inr (.inr (.inl h))
    · exact .inr (.inr (.inr (.inl h)))
    · exact .inr (.inr (.inr (.inr (.inl ⟨a, e, ap _ _ h (fun l z => by cases z)⟩))))
    · rcases v1 with ⟨z, _, q⟩ | ⟨z, q, _⟩ | q | q | ⟨a', q, h'⟩ | ⟨a', q, n', h'⟩
      · cases q
      · cases q
      · cases q
      · cases q
      · cases q
        rw [h] at h'
        cases h'
      · cases q
        exact .inr (.inr (.inr (.inr (.inr ⟨a, rfl, n, k _ _ n' n h⟩))))
theorem ValOk.same {u : Addr} {H H' : Hp} {v : V} (h : ValOk u H v) (s : Same H H') : ValOk u H' v := by
  rcases h with h | h | h | h | ⟨a, e, h⟩ | ⟨a, e, n, h⟩
  · exact .inl h
  · exact .inr (.inl h)
  · exact .inr (.inr (.inl h))
  · exact .inr (.inr (.inr (.inl h)))
  · exact .inr (.inr (.inr (.inr (.inl ⟨a, e, s _ _ h⟩))))
  · exact .inr (.inr (.inr (.inr (.inr ⟨a, e, n, s _ _ h⟩))))
theorem Dp_sorts {K : PySem.W.Frag} {H : Hp} {p : Addr} {i : Nat} (h : H p = some (.lst (sortsOf i))) : Dp K H (.ref p) (pd ((List.range 14).map (sortB i))) := Dp_bools (by rw [h]; unfold sortsOf bd; rw [List.map_map]; rfl)
theorem Dp_kins {K : PySem.W.Frag} {H : Hp} {p : Addr} {i : Nat} (h : H p = some (.lst (kinOf i))) : Dp K H (.ref p) (pd ((List.range 8).map (kinB i))) := Dp_bools (by rw [h]; unfold kinOf bd; rw [List.map_map]; rfl)
def dueD (i : Nat) : PyData := .list [pd ((List.range 14).map (sortB i)), pd ((List.range 8).map (kinB i))]
theorem due_facts {i : Nat} (hi : i < 13) : SeqAt.shaped (dueD i) = true ∧ PyData.eqv (dueD i) (dueD i) = true := by
  rcases thirteen hi with rfl | rfl | rfl | rfl | rfl | rfl | rfl | rfl | rfl | rfl | rfl | rfl | rfl <;> constructor <;> decide +kernel
theorem ok_law (T : Tx K mg) : FnG P w K mg base CX0 9 T.f_law T.d_law p_law (spLaw K) := by
  refine fun_g0 T.F_law sc_law (fun vs H Q E h => ?_) (fun cdv A outer s H vs Q E hgd hr h => ?_)
  · obtain ⟨a, ns, rfl, _⟩ := h
    rfl
  · obtain ⟨a, ns, rfl, hS, hl, q⟩ := h
    refine ⟨_, (pss_cons (ps_for PassesOwn.never rfl (pi_range1 (by rfl) T.range (pa_cons (pe_callB (call_max2 rfl) (by rfl) T.max (by decide +kernel) (pa_cons pe_int (pa_cons (pe_callB (call_min2 rfl) (by rfl) T.min (by decide +kernel) (pa_cons pe_int (pa_cons (pe_callB (lenS K) (by rfl) T.len (by decide +kernel) (pa_cons (pv 0) pa_nil)) pa_nil))) pa_nil))) pa_nil)) (pg_name (i := 1) sc_law.nd rfl (by first | exact Or.inl rfl | exact Or.inr rfl))
    (pss_cons (ps_par (i := 2) (j := 3) (by rfl) sc_law.nd rfl rfl (by decide) rfl rfl (pa_cons (pe_call (ok_urn T) (hr.mono (by decide)) rfl T.m_urn T.F_urn.kp T.b_urn .nil pass0 (pa_cons (pv 0) (pa_cons (pv 1) pa_nil))) (pa_cons (pe_lst pa_nil) pa_nil)) (by first | rfl | kernel_rfl))
    (pss_cons (ps_for PassesOwn.never rfl (piL K (pe_call (ok_shuffled T) (hr.mono (by decide)) rfl T.m_shuffled T.F_shuffled.kp T.b_shuffled .nil pass0 (pa_cons (pv 2) (pa_cons (pe_listRg rfl rfl T.list (prg_1 rfl T.range pe_int)) pa_nil)))) (pg_name (i := 4) sc_law.nd rfl (by first | exact Or.inl rfl | exact Or.inr rfl))
    (pss_cons (ps_set (i := 5) sc_law.nd rfl (by first | exact Or.inl rfl | exact Or.inr rfl) (pe_call (ok_value_for T) (hr.mono (by decide)) rfl T.m_value_for T.F_value_for.kp T.b_value_for .nil pass0 (pa_cons (pv 2) (pa_cons (pv 4) pa_nil))))
    (pss_cons (ps_expr (bmK K PySem.F.plainAttrs_list PySem.F.slot_list_append PySem.F.type_list_append mt_append (by exact (pv 3)) (by exact (pa_cons (pe_tup (pa_cons (pv 4) (pa_cons (pv 5) (pa_cons (pe_call (ok_made_one T) (hr.mono (by decide)) rfl T.m_made_one T.F_made_one.kp T.b_made_one .nil pass0 (pa_cons (pv 4) (pa_cons (pv 5) pa_nil))) pa_nil)))) pa_nil))))
    (pss_one (ps_if (PW.pt (pw_and (pt_cmpR op_gt (pv 4) pe_int (nomark _)) (pw_and1 (pt_cmpR op_ne (pe_call (ok_caught T) (hr.mono (by decide)) rfl T.m_caught T.F_caught.kp T.b_caught .nil pass0 (pa_cons (pv 4) (pa_cons (pv 5) pa_nil))) (pv 4) (nomark _)))))
      (pss_one (ps_ret pe_bl))
      pss_nil)))))
    (pss_one (ps_for PassesOwn.never rfl (piL K (pv 3)) (pg_tup (by rfl) (pgs_cons (pg_name (i := 4) sc_law.nd rfl (by first | exact Or.inl rfl | exact Or.inr rfl)) (pgs_cons (pg_name (i := 5) sc_law.nd rfl (by first | exact Or.inl rfl | exact Or.inr rfl)) (pgs_cons (pg_name (i := 6) sc_law.nd rfl (by first | exact Or.inl rfl | exact Or.inr rfl)) pgs_nil))))
    (pss_one (ps_if (PW.pt (pw_or (pt_cmpR (neK K hr.units) (pe_lst (pa_cons (pe_call (ok_sorts T) (hr.mono (by decide)) rfl T.m_sorts T.F_sorts.kp T.b_sorts .nil pass0 (pa_cons (pv 6) pa_nil)) (pa_cons (pe_call (ok_kin T) (hr.mono (by decide)) rfl T.m_kin T.F_kin.kp T.b_kin .nil pass0 (pa_cons (pv 6) pa_nil)) pa_nil))) (pe_call (ok_due T) (hr.mono (by decide)) rfl T.m_due T.F_due.kp T.b_due .nil pass0 (pa_cons (pv 4) pa_nil)) (nomark _)) (pw_or1 (pt_cmpR op_ne (pe_callG (ok_kept T) hgd (hr.mono (by decide)) rfl T.m_kept T.F_kept.kp T.b_kept pass0 (pa_cons (pv 4) (pa_cons (pv 6) pa_nil))) (pe_callG (ok_due_kept T) hgd (hr.mono (by decide)) rfl T.m_due_kept T.F_due_kept.kp T.b_due_kept pass0 (pa_cons (pv 4) (pa_cons (pv 5) pa_nil))) (nomark _)))))
      (pss_one (ps_ret pe_bl))
      pss_nil)))))))
    (pss_one (ps_ret pe_bl))), ?_⟩
    refine ⟨_, rfl, a, _, rfl, .inl hS, _, _, rfl, _, _, rfl, _, rfl, ?_, ?_, ?_⟩
    rotate_left
    rotate_left
    · refine for_range (Pv := fun _ σ H' => (∃ v1 v2 v3 v4 v5 v6, σ = [some (.ref a), v1, v2, v3, v4, v5, v6]) ∧ SqL K H' a (ns.map V.int)) ⟨⟨_, _, _, _, _, _, rfl⟩, hS⟩ ?_ ?_
      · rintro k σ H0 hk ⟨⟨v1, v2, v3, v4, v5, v6, rfl⟩, hS0⟩
        refine ⟨_, rfl, _, rfl, a, ns, _, rfl, hS0, by omega, fun Hu u su hu0 hu => ?_⟩
        refine ⟨by show 0 ≤ sizeLine; decide, fun L hL => ⟨_, _, rfl, ?_⟩⟩
        have sL := same_new (o := HO.lst []) hL
        have nLu : L ≠ u := hu.ne hL
        obtain ⟨us0, hus0, ug0⟩ := hu
        have huL : UrnOk (upd Hu L (.lst [])) u := ⟨us0, sL _ _ hus0, ug0⟩
        have aL : (upd Hu L (.lst [])) L = some (.lst []) := upd_same
        have hS1 : SqL K (upd Hu L (.lst [])) a (ns.map V.int) := (su.trans sL).seq hS0
        have hH1 : ∀ b o, H0 b = some o → (upd Hu L (.lst [])) b = some o := fun b o e => sL b o (su b o e)
        generalize upd Hu L (.lst []) = H1 at huL aL hS1 hH1
        refine ⟨_, rfl, 13, rfl, ⟨by decide, by decide, by decide, by decide, by decide⟩, fun W hW => ?_⟩
        have sW := same_new (o := HO.lst (rgV 0 13)) hW
        refine ⟨u, W, rgV 0 13, rfl, (Drew.of huL sW).1, huL.ne hW, .of upd_same, by rw [rgV_length]; decide, fun H2 p ys d2 hp0 hp pm => ?_⟩
        have d12 : Drew u H1 H2 := (Drew.of huL sW).trans d2
        have aL2 : H2 L = some (.lst []) := d12.2 _ _ nLu aL
        have pu : p ≠ u := (Drew.of huL sW).1.ne hp0
        have pL : p ≠ L := fun z => by rw [z, sW _ _ aL] at hp0; cases hp0
        have all13 : ∀ y ∈ ys, ∃ i : Nat, y = .int i ∧ i < 13 := fun y hy => by
          obtain ⟨i, hi, rfl⟩ := List.mem_map.mp (pm.mem_iff.mp hy)
          have hi := List.mem_range.mp hi
          refine ⟨i, ?_, hi⟩
          show V.int (0 + (i : Int)) = _
          rw [Int.zero_add]
        have ny : ys.length = 13 := by rw [pm.length_eq, rgV_length]; rfl
        refine ⟨p, rfl, ⟨ys, SqL.of hp⟩, ?_⟩
        have S2 : Same H0 H2 := fun b o e => d12.2 b o (ne_of_none e hu0) (hH1 b o e)
        refine for_list (xs := ys) (Pv := fun j σ H' => (∃ v4 v5 v6, σ = [some (.ref a), some (.int (0 + (k : Int))), some (.ref u), some (.ref L), v4, v5, v6]) ∧ UrnOk H' u ∧ Same H0 H' ∧ H' p = some (.lst ys) ∧ ∃ ws, H' L = some (.lst ws) ∧ ws.length = j ∧ ∀ w ∈ ws, EntryAt T.Cs u L H' w) ⟨⟨_, _, _, rfl⟩, d12.1, S2, hp, [], aL2, rfl, fun w hw => absurd hw List.not_mem_nil⟩ ?_ ?_ ?_
        · rintro j σ H' hj ⟨_, _, _, h, _⟩
          exact .of h
        · rintro j x σ H' hj ⟨⟨v4, v5, v6, rfl⟩, hu', S', hp', ws, hL', hw, es⟩
          have hj13 : j < 13 := ny ▸ (List.getElem?_eq_some_iff.mp hj).1
          obtain ⟨i, rfl, hi⟩ := all13 x (List.mem_of_getElem? hj)
          refine ⟨_, rfl, _, rfl, u, i, rfl, hu', hi, fun H3 v d3 ok3 => ?_⟩
          obtain ⟨us', hus', ug'⟩ := hu'
          have hL3 := d3.2 _ _ nLu hL'
          have okU := ok3 u _ hus'
          have okL := ok3 L _ hL'
          refine ⟨_, rfl, .inl ⟨rfl, _, .of hL3⟩, _, rfl, _, rfl, _, rfl, _, rfl, i, v, rfl, hi, fun H4 e s4 he0 er => ⟨by show 3 ≤ sizeLine; decide, fun t ht => ?_⟩⟩
          have s5 := same_new (o := HO.tup [.int i, v, .ref e]) ht
          have hL5 := s5 _ _ (s4 _ _ hL3)
          refine ⟨L, ws, .ref t, rfl, rfl, hL5, by rw [sizeLine_eq]; omega, ?_⟩
          have hu5 : (upd H4 t (.tup [.int i, v, .ref e])) u = some (.lst _) := s5 _ _ (s4 _ _ (d3.1.choose_spec.1))
          have nt : t ≠ L := fun z => by rw [z, s4 _ _ hL3] at ht; cases ht
          have kk : ∀ b o, b ≠ u → b ≠ L → H' b = some o → (upd (upd H4 t (.tup [.int i, v, .ref e])) L (.lst (ws ++ [.ref t]))) b = some o := fun b o bu bL q => by
            rw [upd_ne bL]
            exact s5 _ _ (s4 _ _ (d3.2 _ _ bu q))
          have k5 : ∀ b o, b ≠ u → b ≠ L → (upd H4 t (.tup [.int i, v, .ref e])) b = some o → (upd (upd H4 t (.tup [.int i, v, .ref e])) L (.lst (ws ++ [.ref t]))) b = some o := fun b o _ bL q => by
            rw [upd_ne bL]
            exact q
          have en : EntryAt T.Cs u L (upd H4 t (.tup [.int i, v, .ref e])) (.ref t) := ⟨t, i, v, e, rfl, upd_same, hi, er.same s5, okU.same (s4.trans s5), okL.same (s4.trans s5)⟩
          have es5 : ∀ w ∈ ws ++ [V.ref t], EntryAt T.Cs u L (upd (upd H4 t (.tup [.int i, v, .ref e])) L (.lst (ws ++ [.ref t]))) w := fun w hw => by
            rcases List.mem_append.mp hw with hw | hw
            · exact (es w hw).kept hus' hL' kk
            · rw [List.mem_singleton.mp hw]
              exact en.kept hu5 hL5 k5
          have hu6 : UrnOk (upd (upd H4 t (.tup [.int i, v, .ref e])) L (.lst (ws ++ [.ref t]))) u := ⟨_, by rw [upd_ne nLu.symm]; exact hu5, d3.1.choose_spec.2⟩
          have S6 : Same H0 (upd (upd H4 t (.tup [.int i, v, .ref e])) L (.lst (ws ++ [.ref t]))) := fun b o q => kk b o (ne_of_none q hu0) (ne_of_none (su _ _ q) hL) (S' b o q)
          have hp6 := kk _ _ pu pL hp'
          have hL6 := upd_same (H := upd H4 t (.tup [.int i, v, .ref e])) (a := L) (o := HO.lst (ws ++ [.ref t]))
          generalize upd (upd H4 t (.tup [.int i, v, .ref e])) L (.lst (ws ++ [.ref t])) = H6 at es5 hu6 S6 hp6 hL6
          have lw : (ws ++ [V.ref t]).length = j + 1 := by rw [List.length_append, hw]; rfl
          refine ⟨_, rfl, _, _, rfl, rfl, _, rfl, ?_⟩
          refine ite2 (fun hc => ?_) (fun hc => ?_)
          · have hc : (5 : Int) < (i : Int) := of_decide_eq_true hc
            refine ⟨_, rfl, _, rfl, i, v, rfl, by omega, hi, fun H7 s7 => ⟨_, rfl, rfl, _, rfl, ?_⟩⟩
            show if (!decide (V.int (i : Int) = V.int (i : Int))) = true then _ else _
            rw [if_neg (by simp)]
            obtain ⟨us6, hus6, ug6⟩ := hu6
            exact ⟨⟨_, _, _, rfl⟩, ⟨us6, s7 _ _ hus6, ug6⟩, S6.trans s7, s7 _ _ hp6, _, s7 _ _ hL6, lw, fun w hw => (es5 w hw).kept hus6 hL6 fun b o _ _ q => s7 b o q⟩
          · exact ⟨⟨_, _, _, rfl⟩, hu6, S6, hp6, _, hL6, lw, es5⟩
        · rintro σ H' ⟨⟨v4, v5, v6, rfl⟩, hu', S', hp', ws, hL', hw, es⟩
          obtain ⟨us', hus', ug'⟩ := hu'
          refine ⟨_, rfl, L, rfl, ⟨_, .of hL'⟩, ?_⟩
          refine for_list (xs := ws) (Pv := fun _ σ H2' => (∃ v4 v5 v6, σ = [some (.ref a), some (.int (0 + (k : Int))), some (.ref u), some (.ref L), v4, v5, v6]) ∧ Same H0 H2' ∧ Same H' H2') ⟨⟨_, _, _, rfl⟩, S', Same.refl H'⟩ ?_ ?_ ?_
          · rintro j σ H3 hj ⟨_, _, s3⟩
            exact .of (s3 _ _ hL')
          · rintro j x σ H3 hj ⟨⟨v4, v5, v6, rfl⟩, S3, s3⟩
            obtain ⟨pw, i, v, e, rfl, hpw, hi, er, w1, w2⟩ := (es x (List.mem_of_getElem? hj)).kept hus' hL' fun b o _ _ q => s3 b o q
            obtain ⟨dt, sy⟩ := w1.says (K := K)
            refine ⟨pw, [.int i, v, .ref e], rfl, .of hpw, rfl, ?_⟩
            obtain ⟨f1, f2⟩ := due_facts hi
            refine ⟨_, _, rfl, _, _, rfl, _, _, rfl, rfl, ?_⟩
            refine ⟨_, rfl, i, v, e, rfl, hi, er, fun Ha pa sa ha0 ha => ⟨_, rfl, i, v, e, rfl, hi, er.same sa, fun Hb pb sb hb0 hb => ⟨by show 2 ≤ sizeLine; decide, fun l hl => ?_⟩⟩⟩
            have sl := same_new (o := HO.lst [V.ref pa, .ref pb]) hl
            have hla := upd_same (H := Hb) (a := l) (o := HO.lst [V.ref pa, .ref pb])
            have ha' := sl _ _ (sb _ _ ha)
            have hb' := sl _ _ hb
            have S4 := (sa.trans sb).trans sl
            generalize upd Hb l (.lst [.ref pa, .ref pb]) = Hc at sl hla ha' hb' S4
            refine ⟨_, rfl, i, rfl, hi, fun Hd p2 a2 b2 sd hp0 hp2 ha2 hb2 => ?_⟩
            refine ⟨dueD i, dueD i, .lst (.of (sd _ _ hla)) (.cons (Dp_sorts (sd _ _ ha')) (.cons (Dp_kins (sd _ _ hb')) .nil)), .lst (.of hp2) (.cons (Dp_sorts ha2) (.cons (Dp_kins hb2) .nil)), f1, f1, ?_⟩
            rw [f2]
            have S5 := S4.trans sd
            refine ⟨_, rfl, ?_⟩
            show if (!true) = true then _ else _
            rw [if_neg (by decide)]
            refine ⟨_, rfl, _, rfl, i, v, e, dt, rfl, hi, er.same S5, sy.same S5, ?_⟩
            refine ⟨_, rfl, _, rfl, i, v, dt, rfl, hi, sy.same S5, fun He se => ?_⟩
            refine ⟨rfl, _, rfl, ?_⟩
            show if (!decide (V.str (keptT i dt) = V.str (keptT i dt))) = true then _ else _
            rw [if_neg (by simp)]
            exact ⟨⟨_, _, _, rfl⟩, S3.trans (S5.trans se), s3.trans (S5.trans se)⟩
          · rintro σ H3 ⟨⟨v4, v5, v6, rfl⟩, S3, s3⟩
            exact ⟨⟨_, _, _, _, _, _, rfl⟩, S3.seq hS0⟩
      · intro σ H0 _
        exact q H0
    · show -2 ^ 62 ≤ (if (if ((((ns.map V.int).length : Nat) : Int)) < 2 then (((ns.map V.int).length : Nat) : Int) else 2) > 1 then (if ((((ns.map V.int).length : Nat) : Int)) < 2 then (((ns.map V.int).length : Nat) : Int) else 2) else 1)
      rw [List.length_map]
      split <;> split <;> omega
    · show (if (if ((((ns.map V.int).length : Nat) : Int)) < 2 then (((ns.map V.int).length : Nat) : Int) else 2) > 1 then (if ((((ns.map V.int).length : Nat) : Int)) < 2 then (((ns.map V.int).length : Nat) : Int) else 2) else 1) < 2 ^ 62
      rw [List.length_map]
      split <;> split <;> omega
end
end My

set_option Elab.async false
set_option linter.all false
set_option maxRecDepth 100000
set_option maxHeartbeats 4000000
namespace My
open PySem PySem.Spec PyProof.Rows L2 LamX
/-! ### the call of the law from the outside: nothing is under way -/
section
variable {P : Program} {w : World} {K : PySem.W.Frag} {mg mb : Str → Option Value}
def lsO (us : List Value) : Obj := { cls := .type "list", data := .seq us.toArray }
/-- tracked: the script, unless the written part has it -/
def firstH (K : PySem.W.Frag) (a : Addr) (us : List Value) (xs : List V) : Hp := fun b => if b = a ∧ K.lookup a = none then some (.frz (lsO us) (.lst xs)) else none
theorem first_some {a b : Addr} {us : List Value} {xs : List V} {u : HO} (h : firstH K a us xs b = some u) : b = a ∧ K.lookup a = none ∧ u = .frz (lsO us) (.lst xs) := by
  unfold firstH at h
  split at h
  · next e => exact ⟨e.1, e.2, (Option.some.inj h).symm⟩
  · cases h
theorem law_end {fa a : Addr} {s : Shared} {us : List Value} {ns : List Int} {fd : FuncData} {ps : List Str} {lv : Nat} (k0 : K.In s.heap) (gns : s.heap.Ns mainGlobals mg) (bns : s.heap.Ns builtinsNs mb) (boot : ∀ x : Str, x ≠ "__name__" → mb x = bootBuiltins x) (nl : s.heap.NoLimit) (ng : s.gens = #[])
    (sa : s.heap.get? a = some (lsO us)) (hi : IntsAre us ns) (short : ns.length ≤ 63)
    (F : ∀ base, FnG P w K mg base CX0 lv fa fd ps (spLaw K)) (room : Room lv callerA) (gd : callerA.guards = some []) (bd : Binds K fd ps []) (one : ps.length = 1) :
    codeAny (model P w) callerA (.call (.ref fa) ⟨[.ref a], []⟩) (fun r t => r = .ok (.ret (.bool true)) ∧ OldK s.heap t.heap ∧ t.os = s.os ∧ AllBare t.gens) s := by
  have frees : ∀ {b : Addr} {o : Obj}, s.heap.get? b = some o → (∀ x n, o.data ≠ .seq x n) → firstH K a us (ns.map V.int) b = none := fun {b o} e n1 => by
    cases q : firstH K a us (ns.map V.int) b with
    | none => rfl
    | some u =>
      obtain ⟨rfl, _⟩ := first_some q
      exact (n1 us.toArray _ (by rw [Option.some.inj (e.symm.trans sa)]; rfl)).elim
  have low : ∀ {b : Addr} {o : Obj}, s.heap.get? b = some o → (∀ x n, o.data ≠ .seq x n) → (hidT s.heap (firstH K a us (ns.map V.int))).get? b = some o := fun e n1 => hidT_get e (frees e n1)
  have spaces : ∀ {b : Addr} {m : Str → Option Value}, s.heap.Ns b m → (hidT s.heap (firstH K a us (ns.map V.int))).Ns b m := fun {b m} z => by
    obtain ⟨o, es, ep, e, d, rest⟩ := z
    exact ⟨o, es, ep, low e (fun x n z => by rw [d] at z; cases z), d, rest⟩
  have inK : K.In (hidT s.heap (firstH K a us (ns.map V.int))) := fun b o e => hidT_get (k0 b o e) (by
    cases q : firstH K a us (ns.map V.int) b with
    | none => rfl
    | some u =>
      obtain ⟨rfl, z, _⟩ := first_some q
      rw [z] at e; cases e)
  have md : L2.Mod K mg (hidT s.heap (firstH K a us (ns.map V.int))) := by
    obtain ⟨lm, l1, l2⟩ := nl
    exact ⟨inK, spaces gns, ⟨mb, spaces bns, boot⟩, ⟨lm, spaces l1, l2⟩⟩
  have rel := vals_ints hi
  have ok : HOk P w (firstH K a us (ns.map V.int)) s.heap := fun b u q => by
    obtain ⟨rfl, _, rfl⟩ := first_some q
    exact ⟨sa, by rw [List.length_map, sizeLine_eq]; omega, us, _, rel, sa⟩
  have env : Env0 P w K mg (hidT s.heap (firstH K a us (ns.map V.int))) callerA [] s (firstH K a us (ns.map V.int)) :=
    { frames := rfl, mod := md, bs := fun _ _ => of_hidT, bsz := Nat.le_of_eq (hidT_size _ _), funs := trivial, frf := fun b hb => (List.not_mem_nil hb).elim, hok := ok, bare := .of_eq ng }
  have sq : SqL K (firstH K a us (ns.map V.int)) a (ns.map V.int) := by
    cases q : K.lookup a with
    | none => exact .inl (.inr ⟨lsO us, if_pos ⟨rfl, q⟩⟩)
    | some o =>
      have e := (k0 a o q).symm.trans sa
      rw [Option.some.inj e] at q
      exact .inr ⟨_, us.toArray, _, q, rfl, rfl, rfl, by rw [List.size_toArray, hi.length, sizeLine_eq]; omega, by simpa using rel⟩
  refine codeAny_mono ((F _).runs callerA [] s _ ⟨[.ref a], []⟩ [.ref a] [.ref a] (fun v _ => v = .bl true) E0 gd room env (bd s [.ref a] k0 (by rw [one]; rfl)) (.cons rfl .nil) ⟨a, ns, rfl, sq, short, fun _ => rfl⟩) fun r t z => ?_
  match r, z with
  | .error _, z => exact False.elim z
  | .ok .next, z => exact False.elim z
  | .ok .brk, z => exact False.elim z
  | .ok .cont, z => exact False.elim z
  | .ok (.ret u), z =>
    obtain ⟨v, H', os, bare, un, ok', rv, e⟩ := z
    have e : v = .bl true := e
    subst e
    have eu : u = Value.bool true := rv
    have stay : ∀ b o, s.heap.get? b = some o → t.heap.get? b = some o := fun b o e => by
      cases q : firstH K a us (ns.map V.int) b with
      | none => exact un.keep b o e q (fun z => (List.not_mem_nil z).elim) (fun z => (List.not_mem_nil z).elim)
      | some y =>
        obtain ⟨z, _, ey⟩ := first_some q
        rw [ey] at q
        obtain ⟨e1, _⟩ := ok' b _ (un.frzs b _ _ q)
        obtain ⟨e2, _⟩ := ok b _ q
        exact (Option.some.inj (e.symm.trans e2)) ▸ e1
    exact ⟨by rw [eu], ⟨fun b o e => .inl (stay b o e), fun b o e => ⟨o, stay b o e⟩⟩, os, bare⟩
end
/-- an error class names itself behind except -/
theorem exm_own {K : PySem.W.Frag} {C : Addr} (e : PySem.W.subIn K (.ref C) (.type "BaseException") = some true) (i : PySem.W.isClsIn K C = true) (t : PySem.W.typeIn K (.ref C) = some (.type "type")) (s : PySem.W.subIn K (.ref C) (.ref C) = some true) :
    PySem.W.exmOne K (.ref C) (.ref C) = some true := by
  have i' : (PySem.W.clsIn K C).isSome = true := i
  have a1 : (PySem.W.subIn K (.ref C) (.type "BaseException") == some true) = true := by rw [e] <;> rfl
  have a2 : ((PySem.W.clsIn K C).isSome && PySem.W.typeIn K (.ref C) == some (.type "type")) = true := by rw [i', t] <;> rfl
  exact (if_pos a1).trans ((if_pos a2).trans s)
def LawIs (K : PySem.W.Frag) (mg : Str → Option Value) (fa : Addr) : Prop := ∃ T : Tx K mg, T.f_law = fa
theorem the_walk {l : PySem.W.OpenLaw} {q : Program} {loose : List Str} {XP : (Str → Option Value) → Heap → Prop} {YP : World → Heap → Prop} {d : DefRec} {K : Params → PySem.W.Frag} (hn : l.most = some 63) (hdf : d.params.defaults = []) (hd : d.name = "law")
    (hY : ∀ (w : World) (h : Heap), YP w h → (K w.params).In h)
    (F : ∀ (w : World) (mg : Str → Option Value) (fa : Addr) (h : Heap), (K w.params).In h → h.Ns mainGlobals mg → mg "law" = some (.ref fa) → LawIs (K w.params) mg fa) :
    PySem.W.WalkO q loose XP YP l.row.toRowW d [] (fun f vs => PySem.call f vs) := by
  refine Att.attach_callB hn hdf fun w s₀ s mg mb fa o pm cd doc a us ns G Y ho hdat hcd hmg hobj hints hlen hbits hg => ?_
  have k0 := hY w _ Y
  rw [hd] at hmg
  obtain ⟨T, rfl⟩ := F w mg fa _ k0 G.T.g hmg
  exact law_end k0 G.T.g G.T.b G.T.builtins G.T.nolimit hg hobj hints hlen (fun base => ok_law T) ⟨rfl, by decide, by decide⟩ rfl T.b_law rfl
theorem all_mk {K : PySem.W.Frag} {h : Heap} {mg : Str → Option Value} {fa : Addr} (X : K.In h) (G : h.Ns mainGlobals mg) (hfa : mg "law" = some (.ref fa))
    {C_ParseError i_ParseError : Addr} {nm_ParseError qn_ParseError : Str} {N_ParseError : Addr} {bs_ParseError : List Value} {sn_ParseError : List Str} {sub_ParseError : List Value} {ab_ParseError : Bool} {col_ParseError : Option Bool} {dd_ParseError : Option Addr} {m0_ParseError m1_ParseError m2_ParseError m3_ParseError m5_ParseError : Option Value} {oc_ParseError dc_ParseError pm_ParseError cd_ParseError ct_ParseError : Value} {od_ParseError an_ParseError : Option Addr} {sl_ParseError : Array (Option Value)} {p1_ParseError p2_ParseError q1_ParseError q2_ParseError q3_ParseError q4_ParseError : Pos}
    {C_InvalidNumber i_InvalidNumber : Addr} {nm_InvalidNumber qn_InvalidNumber : Str} {N_InvalidNumber : Addr} {bs_InvalidNumber : List Value} {sn_InvalidNumber : List Str} {sub_InvalidNumber : List Value} {ab_InvalidNumber : Bool} {col_InvalidNumber : Option Bool} {dd_InvalidNumber : Option Addr} {m0_InvalidNumber m1_InvalidNumber m2_InvalidNumber m3_InvalidNumber m5_InvalidNumber : Option Value} {oc_InvalidNumber dc_InvalidNumber pm_InvalidNumber cd_InvalidNumber ct_InvalidNumber : Value} {od_InvalidNumber an_InvalidNumber : Option Addr} {sl_InvalidNumber : Array (Option Value)} {p1_InvalidNumber p2_InvalidNumber q1_InvalidNumber q2_InvalidNumber q3_InvalidNumber q4_InvalidNumber : Pos}
    {C_UnknownName i_UnknownName : Addr} {nm_UnknownName qn_UnknownName : Str} {N_UnknownName : Addr} {bs_UnknownName : List Value} {sn_UnknownName : List Str} {sub_UnknownName : List Value} {ab_UnknownName : Bool} {col_UnknownName : Option Bool} {dd_UnknownName : Option Addr} {m0_UnknownName m1_UnknownName m2_UnknownName m3_UnknownName m5_UnknownName : Option Value} {oc_UnknownName dc_UnknownName pm_UnknownName cd_UnknownName ct_UnknownName : Value} {od_UnknownName an_UnknownName : Option Addr} {sl_UnknownName : Array (Option Value)} {p1_UnknownName p2_UnknownName q1_UnknownName q2_UnknownName q3_UnknownName q4_UnknownName : Pos}
    {C_TooMany i_TooMany : Addr} {nm_TooMany qn_TooMany : Str} {N_TooMany : Addr} {bs_TooMany : List Value} {sn_TooMany : List Str} {sub_TooMany : List Value} {ab_TooMany : Bool} {col_TooMany : Option Bool} {dd_TooMany : Option Addr} {m0_TooMany m1_TooMany m2_TooMany m3_TooMany m5_TooMany : Option Value} {oc_TooMany dc_TooMany pm_TooMany cd_TooMany ct_TooMany : Value} {od_TooMany an_TooMany : Option Addr} {sl_TooMany : Array (Option Value)} {p1_TooMany p2_TooMany q1_TooMany q2_TooMany q3_TooMany q4_TooMany : Pos}
    {C_NothingToUndo i_NothingToUndo : Addr} {nm_NothingToUndo qn_NothingToUndo : Str} {N_NothingToUndo : Addr} {bs_NothingToUndo : List Value} {sn_NothingToUndo : List Str} {sub_NothingToUndo : List Value} {ab_NothingToUndo : Bool} {col_NothingToUndo : Option Bool} {dd_NothingToUndo : Option Addr} {m0_NothingToUndo m1_NothingToUndo m2_NothingToUndo m3_NothingToUndo m5_NothingToUndo : Option Value} {oc_NothingToUndo dc_NothingToUndo pm_NothingToUndo cd_NothingToUndo ct_NothingToUndo : Value} {od_NothingToUndo an_NothingToUndo : Option Addr} {sl_NothingToUndo : Array (Option Value)} {p1_NothingToUndo p2_NothingToUndo q1_NothingToUndo q2_NothingToUndo q3_NothingToUndo q4_NothingToUndo : Pos}
    {C_Broken i_Broken : Addr} {nm_Broken qn_Broken : Str} {N_Broken : Addr} {bs_Broken : List Value} {sn_Broken : List Str} {sub_Broken : List Value} {ab_Broken : Bool} {col_Broken : Option Bool} {dd_Broken : Option Addr} {m0_Broken m1_Broken m2_Broken m3_Broken m5_Broken : Option Value} {oc_Broken dc_Broken pm_Broken cd_Broken ct_Broken : Value} {od_Broken an_Broken : Option Addr} {sl_Broken : Array (Option Value)} {p1_Broken p2_Broken q1_Broken q2_Broken q3_Broken q4_Broken : Pos}
    {C_Loud i_Loud : Addr} {nm_Loud qn_Loud : Str} {N_Loud : Addr} {bs_Loud : List Value} {sn_Loud : List Str} {sub_Loud : List Value} {ab_Loud : Bool} {col_Loud : Option Bool} {dd_Loud : Option Addr} {m0_Loud m1_Loud m2_Loud m3_Loud m5_Loud : Option Value} {oc_Loud dc_Loud pm_Loud cd_Loud ct_Loud : Value} {od_Loud an_Loud : Option Addr} {sl_Loud : Array (Option Value)} {p1_Loud p2_Loud q1_Loud q2_Loud q3_Loud q4_Loud : Pos}
    {C_MoverError : Addr}
    {C_InvalidName : Addr}
    {C_InvalidMachine : Addr}
    {C_InvalidMove : Addr}
    {C_InvalidText : Addr}
    {C_InvalidWord : Addr}
    {C_InvalidOperation : Addr}
    {s_InvalidNumber : Addr} {ocs_InvalidNumber kVs_InvalidNumber dcs_InvalidNumber pms_InvalidNumber cts_InvalidNumber cds_InvalidNumber : Value} {ods_InvalidNumber ans_InvalidNumber : Option Addr} {sls_InvalidNumber : Array (Option Value)}
    {s_UnknownName : Addr} {ocs_UnknownName kVs_UnknownName dcs_UnknownName pms_UnknownName cts_UnknownName cds_UnknownName : Value} {ods_UnknownName ans_UnknownName : Option Addr} {sls_UnknownName : Array (Option Value)}
    {f_urn : Addr} {oc_urn kV_urn dc_urn pm_urn ct_urn : Value} {od_urn an_urn : Option Addr} {sl_urn : Array (Option Value)} {cd_urn : Value}
    {f_dip : Addr} {oc_dip kV_dip dc_dip pm_dip ct_dip : Value} {od_dip an_dip : Option Addr} {sl_dip : Array (Option Value)} {cd_dip : Value}
    {f_one_of : Addr} {oc_one_of kV_one_of dc_one_of pm_one_of ct_one_of : Value} {od_one_of an_one_of : Option Addr} {sl_one_of : Array (Option Value)} {cd_one_of : Value}
    {f_shuffled : Addr} {oc_shuffled kV_shuffled dc_shuffled pm_shuffled ct_shuffled : Value} {od_shuffled an_shuffled : Option Addr} {sl_shuffled : Array (Option Value)} {cd_shuffled : Value}
    {f_names : Addr} {oc_names kV_names dc_names pm_names ct_names : Value} {od_names an_names : Option Addr} {sl_names : Array (Option Value)} {cd_names : Value}
    {f_made_one : Addr} {oc_made_one kV_made_one dc_made_one pm_made_one ct_made_one : Value} {od_made_one an_made_one : Option Addr} {sl_made_one : Array (Option Value)} {cd_made_one : Value}
    {f_sorts : Addr} {oc_sorts kV_sorts dc_sorts pm_sorts ct_sorts : Value} {od_sorts an_sorts : Option Addr} {sl_sorts : Array (Option Value)} {cd_sorts : Value}
    {f_kin : Addr} {oc_kin kV_kin dc_kin pm_kin ct_kin : Value} {od_kin an_kin : Option Addr} {sl_kin : Array (Option Value)} {cd_kin : Value}
    {f_due : Addr} {oc_due kV_due dc_due pm_due ct_due : Value} {od_due an_due : Option Addr} {sl_due : Array (Option Value)} {cd_due : Value}
    {f_kept : Addr} {oc_kept kV_kept dc_kept pm_kept ct_kept : Value} {od_kept an_kept : Option Addr} {sl_kept : Array (Option Value)} {cd_kept : Value}
    {f_due_kept : Addr} {oc_due_kept kV_due_kept dc_due_kept pm_due_kept ct_due_kept : Value} {od_due_kept an_due_kept : Option Addr} {sl_due_kept : Array (Option Value)} {cd_due_kept : Value}
    {f_value_for : Addr} {oc_value_for kV_value_for dc_value_for pm_value_for ct_value_for : Value} {od_value_for an_value_for : Option Addr} {sl_value_for : Array (Option Value)} {cd_value_for : Value}
    {f_thrown : Addr} {oc_thrown kV_thrown dc_thrown pm_thrown ct_thrown : Value} {od_thrown an_thrown : Option Addr} {sl_thrown : Array (Option Value)} {cd_thrown : Value}
    {f_caught : Addr} {oc_caught kV_caught dc_caught pm_caught ct_caught : Value} {od_caught an_caught : Option Addr} {sl_caught : Array (Option Value)} {cd_caught : Value}
    {f_law : Addr} {oc_law kV_law dc_law pm_law ct_law : Value} {od_law an_law : Option Addr} {sl_law : Array (Option Value)} {cd_law : Value}
    (aC_ParseError : PySem.W.nsIn K mainGlobals "ParseError" = some (some (.ref C_ParseError)))
    (xC_ParseError : K.lookup C_ParseError = some (excClassObj nm_ParseError qn_ParseError C_ParseError N_ParseError bs_ParseError [.ref C_MoverError, .type "ValueError", .type "Exception", .type "BaseException", .type "object"] true sn_ParseError sub_ParseError ab_ParseError col_ParseError dd_ParseError m0_ParseError m1_ParseError m2_ParseError m3_ParseError m5_ParseError "ValueError.__new__"))
    (sa_ParseError : PySem.W.findIn K (.ref C_ParseError) "__setattr__" = some (some (.builtin "object.__setattr__")))
    (ga_ParseError : PySem.W.findIn K (.ref C_ParseError) "__getattribute__" = some (some (.builtin "BaseException.__getattribute__")))
    (gg_ParseError : PySem.W.findIn K (.ref C_ParseError) "__getattr__" = some none)
    (nv_ParseError : PySem.W.findIn K (.ref C_ParseError) "index" = some none)
    (in_ParseError : PySem.W.findIn K (.ref C_ParseError) "__init__" = some (some (.ref i_ParseError)))
    (ti_ParseError : PySem.W.typeIn K (.ref i_ParseError) = some (.type "function"))
    (li_ParseError : K.lookup i_ParseError = some ⟨oc_ParseError, od_ParseError, .func (PySem.W.fnOf "__init__" "ParseError.__init__" (ExParseError.iA p1_ParseError p2_ParseError) (ExParseError.iB q1_ParseError q2_ParseError q3_ParseError q4_ParseError) ExParseError.iS .none .none dc_ParseError pm_ParseError an_ParseError cd_ParseError ct_ParseError), sl_ParseError⟩)
    (ci_ParseError : PySem.W.codeIn K cd_ParseError "ParseError.__init__" = true)
    (kC_ParseError : PySem.W.keepIn K (.ref C_ParseError) = true)
    (eC_ParseError : PySem.W.subIn K (.ref C_ParseError) (.type "BaseException") = some true)
    (tC_ParseError : PySem.W.typeIn K (.ref C_ParseError) = some (.type "type"))
    (hC_ParseError : PySem.W.hasDictIn K C_ParseError = true)
    (ic_ParseError : PySem.W.isClsIn K C_ParseError = true)
    (sC_ParseError : PySem.W.subIn K (.ref C_ParseError) (.ref C_ParseError) = some true)
    (aC_InvalidNumber : PySem.W.nsIn K mainGlobals "InvalidNumber" = some (some (.ref C_InvalidNumber)))
    (xC_InvalidNumber : K.lookup C_InvalidNumber = some (excClassObj nm_InvalidNumber qn_InvalidNumber C_InvalidNumber N_InvalidNumber bs_InvalidNumber [.type "IndexError", .type "LookupError", .type "Exception", .type "BaseException", .type "object"] true sn_InvalidNumber sub_InvalidNumber ab_InvalidNumber col_InvalidNumber dd_InvalidNumber m0_InvalidNumber m1_InvalidNumber m2_InvalidNumber m3_InvalidNumber m5_InvalidNumber "IndexError.__new__"))
    (sa_InvalidNumber : PySem.W.findIn K (.ref C_InvalidNumber) "__setattr__" = some (some (.builtin "object.__setattr__")))
    (ga_InvalidNumber : PySem.W.findIn K (.ref C_InvalidNumber) "__getattribute__" = some (some (.builtin "BaseException.__getattribute__")))
    (gg_InvalidNumber : PySem.W.findIn K (.ref C_InvalidNumber) "__getattr__" = some none)
    (nv_InvalidNumber : PySem.W.findIn K (.ref C_InvalidNumber) "value" = some none)
    (in_InvalidNumber : PySem.W.findIn K (.ref C_InvalidNumber) "__init__" = some (some (.ref i_InvalidNumber)))
    (ti_InvalidNumber : PySem.W.typeIn K (.ref i_InvalidNumber) = some (.type "function"))
    (li_InvalidNumber : K.lookup i_InvalidNumber = some ⟨oc_InvalidNumber, od_InvalidNumber, .func (PySem.W.fnOf "__init__" "InvalidNumber.__init__" (ExInvalidNumber.iA p1_InvalidNumber p2_InvalidNumber) (ExInvalidNumber.iB q1_InvalidNumber q2_InvalidNumber q3_InvalidNumber q4_InvalidNumber) ExInvalidNumber.iS .none .none dc_InvalidNumber pm_InvalidNumber an_InvalidNumber cd_InvalidNumber ct_InvalidNumber), sl_InvalidNumber⟩)
    (ci_InvalidNumber : PySem.W.codeIn K cd_InvalidNumber "InvalidNumber.__init__" = true)
    (kC_InvalidNumber : PySem.W.keepIn K (.ref C_InvalidNumber) = true)
    (eC_InvalidNumber : PySem.W.subIn K (.ref C_InvalidNumber) (.type "BaseException") = some true)
    (tC_InvalidNumber : PySem.W.typeIn K (.ref C_InvalidNumber) = some (.type "type"))
    (hC_InvalidNumber : PySem.W.hasDictIn K C_InvalidNumber = true)
    (ic_InvalidNumber : PySem.W.isClsIn K C_InvalidNumber = true)
    (sC_InvalidNumber : PySem.W.subIn K (.ref C_InvalidNumber) (.ref C_InvalidNumber) = some true)
    (aC_UnknownName : PySem.W.nsIn K mainGlobals "UnknownName" = some (some (.ref C_UnknownName)))
    (xC_UnknownName : K.lookup C_UnknownName = some (excClassObj nm_UnknownName qn_UnknownName C_UnknownName N_UnknownName bs_UnknownName [.type "KeyError", .type "LookupError", .type "Exception", .type "BaseException", .type "object"] true sn_UnknownName sub_UnknownName ab_UnknownName col_UnknownName dd_UnknownName m0_UnknownName m1_UnknownName m2_UnknownName m3_UnknownName m5_UnknownName "LookupError.__new__"))
    (sa_UnknownName : PySem.W.findIn K (.ref C_UnknownName) "__setattr__" = some (some (.builtin "object.__setattr__")))
    (ga_UnknownName : PySem.W.findIn K (.ref C_UnknownName) "__getattribute__" = some (some (.builtin "BaseException.__getattribute__")))
    (gg_UnknownName : PySem.W.findIn K (.ref C_UnknownName) "__getattr__" = some none)
    (nv_UnknownName : PySem.W.findIn K (.ref C_UnknownName) "name" = some none)
    (in_UnknownName : PySem.W.findIn K (.ref C_UnknownName) "__init__" = some (some (.ref i_UnknownName)))
    (ti_UnknownName : PySem.W.typeIn K (.ref i_UnknownName) = some (.type "function"))
    (li_UnknownName : K.lookup i_UnknownName = some ⟨oc_UnknownName, od_UnknownName, .func (PySem.W.fnOf "__init__" "UnknownName.__init__" (ExUnknownName.iA p1_UnknownName p2_UnknownName) (ExUnknownName.iB q1_UnknownName q2_UnknownName q3_UnknownName q4_UnknownName) ExUnknownName.iS .none .none dc_UnknownName pm_UnknownName an_UnknownName cd_UnknownName ct_UnknownName), sl_UnknownName⟩)
    (ci_UnknownName : PySem.W.codeIn K cd_UnknownName "UnknownName.__init__" = true)
    (kC_UnknownName : PySem.W.keepIn K (.ref C_UnknownName) = true)
    (eC_UnknownName : PySem.W.subIn K (.ref C_UnknownName) (.type "BaseException") = some true)
    (tC_UnknownName : PySem.W.typeIn K (.ref C_UnknownName) = some (.type "type"))
    (hC_UnknownName : PySem.W.hasDictIn K C_UnknownName = true)
    (ic_UnknownName : PySem.W.isClsIn K C_UnknownName = true)
    (sC_UnknownName : PySem.W.subIn K (.ref C_UnknownName) (.ref C_UnknownName) = some true)
    (aC_TooMany : PySem.W.nsIn K mainGlobals "TooMany" = some (some (.ref C_TooMany)))
    (xC_TooMany : K.lookup C_TooMany = some (excClassObj nm_TooMany qn_TooMany C_TooMany N_TooMany bs_TooMany [.type "OverflowError", .type "ArithmeticError", .type "Exception", .type "BaseException", .type "object"] true sn_TooMany sub_TooMany ab_TooMany col_TooMany dd_TooMany m0_TooMany m1_TooMany m2_TooMany m3_TooMany m5_TooMany "OverflowError.__new__"))
    (sa_TooMany : PySem.W.findIn K (.ref C_TooMany) "__setattr__" = some (some (.builtin "object.__setattr__")))
    (ga_TooMany : PySem.W.findIn K (.ref C_TooMany) "__getattribute__" = some (some (.builtin "BaseException.__getattribute__")))
    (gg_TooMany : PySem.W.findIn K (.ref C_TooMany) "__getattr__" = some none)
    (nv_TooMany : PySem.W.findIn K (.ref C_TooMany) "limit" = some none)
    (in_TooMany : PySem.W.findIn K (.ref C_TooMany) "__init__" = some (some (.ref i_TooMany)))
    (ti_TooMany : PySem.W.typeIn K (.ref i_TooMany) = some (.type "function"))
    (li_TooMany : K.lookup i_TooMany = some ⟨oc_TooMany, od_TooMany, .func (PySem.W.fnOf "__init__" "TooMany.__init__" (ExTooMany.iA p1_TooMany p2_TooMany) (ExTooMany.iB q1_TooMany q2_TooMany q3_TooMany q4_TooMany) ExTooMany.iS .none .none dc_TooMany pm_TooMany an_TooMany cd_TooMany ct_TooMany), sl_TooMany⟩)
    (ci_TooMany : PySem.W.codeIn K cd_TooMany "TooMany.__init__" = true)
    (kC_TooMany : PySem.W.keepIn K (.ref C_TooMany) = true)
    (eC_TooMany : PySem.W.subIn K (.ref C_TooMany) (.type "BaseException") = some true)
    (tC_TooMany : PySem.W.typeIn K (.ref C_TooMany) = some (.type "type"))
    (hC_TooMany : PySem.W.hasDictIn K C_TooMany = true)
    (ic_TooMany : PySem.W.isClsIn K C_TooMany = true)
    (sC_TooMany : PySem.W.subIn K (.ref C_TooMany) (.ref C_TooMany) = some true)
    (aC_NothingToUndo : PySem.W.nsIn K mainGlobals "NothingToUndo" = some (some (.ref C_NothingToUndo)))
    (xC_NothingToUndo : K.lookup C_NothingToUndo = some (excClassObj nm_NothingToUndo qn_NothingToUndo C_NothingToUndo N_NothingToUndo bs_NothingToUndo [.type "LookupError", .type "Exception", .type "BaseException", .type "object"] true sn_NothingToUndo sub_NothingToUndo ab_NothingToUndo col_NothingToUndo dd_NothingToUndo m0_NothingToUndo m1_NothingToUndo m2_NothingToUndo m3_NothingToUndo m5_NothingToUndo "LookupError.__new__"))
    (sa_NothingToUndo : PySem.W.findIn K (.ref C_NothingToUndo) "__setattr__" = some (some (.builtin "object.__setattr__")))
    (ga_NothingToUndo : PySem.W.findIn K (.ref C_NothingToUndo) "__getattribute__" = some (some (.builtin "BaseException.__getattribute__")))
    (gg_NothingToUndo : PySem.W.findIn K (.ref C_NothingToUndo) "__getattr__" = some none)
    (nv_NothingToUndo : PySem.W.findIn K (.ref C_NothingToUndo) "many" = some none)
    (in_NothingToUndo : PySem.W.findIn K (.ref C_NothingToUndo) "__init__" = some (some (.ref i_NothingToUndo)))
    (ti_NothingToUndo : PySem.W.typeIn K (.ref i_NothingToUndo) = some (.type "function"))
    (li_NothingToUndo : K.lookup i_NothingToUndo = some ⟨oc_NothingToUndo, od_NothingToUndo, .func (PySem.W.fnOf "__init__" "NothingToUndo.__init__" (ExNothingToUndo.iA p1_NothingToUndo p2_NothingToUndo) (ExNothingToUndo.iB q1_NothingToUndo q2_NothingToUndo q3_NothingToUndo q4_NothingToUndo) ExNothingToUndo.iS .none .none dc_NothingToUndo pm_NothingToUndo an_NothingToUndo cd_NothingToUndo ct_NothingToUndo), sl_NothingToUndo⟩)
    (ci_NothingToUndo : PySem.W.codeIn K cd_NothingToUndo "NothingToUndo.__init__" = true)
    (kC_NothingToUndo : PySem.W.keepIn K (.ref C_NothingToUndo) = true)
    (eC_NothingToUndo : PySem.W.subIn K (.ref C_NothingToUndo) (.type "BaseException") = some true)
    (tC_NothingToUndo : PySem.W.typeIn K (.ref C_NothingToUndo) = some (.type "type"))
    (hC_NothingToUndo : PySem.W.hasDictIn K C_NothingToUndo = true)
    (ic_NothingToUndo : PySem.W.isClsIn K C_NothingToUndo = true)
    (sC_NothingToUndo : PySem.W.subIn K (.ref C_NothingToUndo) (.ref C_NothingToUndo) = some true)
    (aC_Broken : PySem.W.nsIn K mainGlobals "Broken" = some (some (.ref C_Broken)))
    (xC_Broken : K.lookup C_Broken = some (excClassObj nm_Broken qn_Broken C_Broken N_Broken bs_Broken [.type "ArithmeticError", .type "Exception", .type "BaseException", .type "object"] true sn_Broken sub_Broken ab_Broken col_Broken dd_Broken m0_Broken m1_Broken m2_Broken m3_Broken m5_Broken "ArithmeticError.__new__"))
    (sa_Broken : PySem.W.findIn K (.ref C_Broken) "__setattr__" = some (some (.builtin "object.__setattr__")))
    (ga_Broken : PySem.W.findIn K (.ref C_Broken) "__getattribute__" = some (some (.builtin "BaseException.__getattribute__")))
    (gg_Broken : PySem.W.findIn K (.ref C_Broken) "__getattr__" = some none)
    (nv_Broken : PySem.W.findIn K (.ref C_Broken) "label" = some none)
    (in_Broken : PySem.W.findIn K (.ref C_Broken) "__init__" = some (some (.ref i_Broken)))
    (ti_Broken : PySem.W.typeIn K (.ref i_Broken) = some (.type "function"))
    (li_Broken : K.lookup i_Broken = some ⟨oc_Broken, od_Broken, .func (PySem.W.fnOf "__init__" "Broken.__init__" (ExBroken.iA p1_Broken p2_Broken) (ExBroken.iB q1_Broken q2_Broken q3_Broken q4_Broken) ExBroken.iS .none .none dc_Broken pm_Broken an_Broken cd_Broken ct_Broken), sl_Broken⟩)
    (ci_Broken : PySem.W.codeIn K cd_Broken "Broken.__init__" = true)
    (kC_Broken : PySem.W.keepIn K (.ref C_Broken) = true)
    (eC_Broken : PySem.W.subIn K (.ref C_Broken) (.type "BaseException") = some true)
    (tC_Broken : PySem.W.typeIn K (.ref C_Broken) = some (.type "type"))
    (hC_Broken : PySem.W.hasDictIn K C_Broken = true)
    (ic_Broken : PySem.W.isClsIn K C_Broken = true)
    (sC_Broken : PySem.W.subIn K (.ref C_Broken) (.ref C_Broken) = some true)
    (aC_Loud : PySem.W.nsIn K mainGlobals "Loud" = some (some (.ref C_Loud)))
    (xC_Loud : K.lookup C_Loud = some (excClassObj nm_Loud qn_Loud C_Loud N_Loud bs_Loud [.type "RuntimeError", .type "Exception", .type "BaseException", .type "object"] true sn_Loud sub_Loud ab_Loud col_Loud dd_Loud m0_Loud m1_Loud m2_Loud m3_Loud m5_Loud "RuntimeError.__new__"))
    (sa_Loud : PySem.W.findIn K (.ref C_Loud) "__setattr__" = some (some (.builtin "object.__setattr__")))
    (ga_Loud : PySem.W.findIn K (.ref C_Loud) "__getattribute__" = some (some (.builtin "BaseException.__getattribute__")))
    (gg_Loud : PySem.W.findIn K (.ref C_Loud) "__getattr__" = some none)
    (nv_Loud : PySem.W.findIn K (.ref C_Loud) "state" = some none)
    (in_Loud : PySem.W.findIn K (.ref C_Loud) "__init__" = some (some (.ref i_Loud)))
    (ti_Loud : PySem.W.typeIn K (.ref i_Loud) = some (.type "function"))
    (li_Loud : K.lookup i_Loud = some ⟨oc_Loud, od_Loud, .func (PySem.W.fnOf "__init__" "Loud.__init__" (ExLoud.iA p1_Loud p2_Loud) (ExLoud.iB q1_Loud q2_Loud q3_Loud q4_Loud) ExLoud.iS .none .none dc_Loud pm_Loud an_Loud cd_Loud ct_Loud), sl_Loud⟩)
    (ci_Loud : PySem.W.codeIn K cd_Loud "Loud.__init__" = true)
    (kC_Loud : PySem.W.keepIn K (.ref C_Loud) = true)
    (eC_Loud : PySem.W.subIn K (.ref C_Loud) (.type "BaseException") = some true)
    (tC_Loud : PySem.W.typeIn K (.ref C_Loud) = some (.type "type"))
    (hC_Loud : PySem.W.hasDictIn K C_Loud = true)
    (ic_Loud : PySem.W.isClsIn K C_Loud = true)
    (sC_Loud : PySem.W.subIn K (.ref C_Loud) (.ref C_Loud) = some true)
    (aC_MoverError : PySem.W.nsIn K mainGlobals "MoverError" = some (some (.ref C_MoverError)))
    (aC_InvalidName : PySem.W.nsIn K mainGlobals "InvalidName" = some (some (.ref C_InvalidName)))
    (q_InvalidName : PySem.W.excIn K C_InvalidName bmV "ValueError.__new__" = true)
    (kC_InvalidName : PySem.W.keepIn K (.ref C_InvalidName) = true)
    (aC_InvalidMachine : PySem.W.nsIn K mainGlobals "InvalidMachine" = some (some (.ref C_InvalidMachine)))
    (q_InvalidMachine : PySem.W.excIn K C_InvalidMachine bmV "ValueError.__new__" = true)
    (kC_InvalidMachine : PySem.W.keepIn K (.ref C_InvalidMachine) = true)
    (aC_InvalidMove : PySem.W.nsIn K mainGlobals "InvalidMove" = some (some (.ref C_InvalidMove)))
    (q_InvalidMove : PySem.W.excIn K C_InvalidMove bmV "ValueError.__new__" = true)
    (kC_InvalidMove : PySem.W.keepIn K (.ref C_InvalidMove) = true)
    (aC_InvalidText : PySem.W.nsIn K mainGlobals "InvalidText" = some (some (.ref C_InvalidText)))
    (q_InvalidText : PySem.W.excIn K C_InvalidText bmV "ValueError.__new__" = true)
    (kC_InvalidText : PySem.W.keepIn K (.ref C_InvalidText) = true)
    (aC_InvalidWord : PySem.W.nsIn K mainGlobals "InvalidWord" = some (some (.ref C_InvalidWord)))
    (q_InvalidWord : PySem.W.excIn K C_InvalidWord bmV "ValueError.__new__" = true)
    (kC_InvalidWord : PySem.W.keepIn K (.ref C_InvalidWord) = true)
    (aC_InvalidOperation : PySem.W.nsIn K mainGlobals "InvalidOperation" = some (some (.ref C_InvalidOperation)))
    (q_InvalidOperation : PySem.W.excIn K C_InvalidOperation bmV "ValueError.__new__" = true)
    (kC_InvalidOperation : PySem.W.keepIn K (.ref C_InvalidOperation) = true)
    (tab : sortTab K [C_InvalidName, C_InvalidMachine, C_InvalidMove, C_InvalidText, C_InvalidWord, C_InvalidOperation, C_ParseError, C_InvalidNumber, C_UnknownName, C_TooMany, C_NothingToUndo, C_Broken, C_Loud, C_MoverError] = true)
    (fs_InvalidNumber : PySem.W.findIn K (.ref C_InvalidNumber) "__str__" = some (some (.ref s_InvalidNumber)))
    (ls_InvalidNumber : K.lookup s_InvalidNumber = some ⟨ocs_InvalidNumber, ods_InvalidNumber, .func (PySem.W.fnOf "__str__" "InvalidNumber.__str__" (defArgs s_InvalidNumber_str) (defBody s_InvalidNumber_str) (defScope s_InvalidNumber_str) .none kVs_InvalidNumber dcs_InvalidNumber pms_InvalidNumber ans_InvalidNumber cds_InvalidNumber cts_InvalidNumber), sls_InvalidNumber⟩)
    (cs_InvalidNumber : PySem.W.codeIn K cds_InvalidNumber "InvalidNumber.__str__" = true)
    (ks_InvalidNumber : PySem.W.keepIn K (.ref s_InvalidNumber) = true)
    (isF_InvalidNumber : PySem.W.isFn K (.ref s_InvalidNumber) = true)
    (fs_UnknownName : PySem.W.findIn K (.ref C_UnknownName) "__str__" = some (some (.ref s_UnknownName)))
    (ls_UnknownName : K.lookup s_UnknownName = some ⟨ocs_UnknownName, ods_UnknownName, .func (PySem.W.fnOf "__str__" "UnknownName.__str__" (defArgs s_UnknownName_str) (defBody s_UnknownName_str) (defScope s_UnknownName_str) .none kVs_UnknownName dcs_UnknownName pms_UnknownName ans_UnknownName cds_UnknownName cts_UnknownName), sls_UnknownName⟩)
    (cs_UnknownName : PySem.W.codeIn K cds_UnknownName "UnknownName.__str__" = true)
    (ks_UnknownName : PySem.W.keepIn K (.ref s_UnknownName) = true)
    (isF_UnknownName : PySem.W.isFn K (.ref s_UnknownName) = true)
    (z_ValueError : PySem.W.nsIn K mainGlobals "ValueError" = some none)
    (z_IndexError : PySem.W.nsIn K mainGlobals "IndexError" = some none)
    (z_KeyError : PySem.W.nsIn K mainGlobals "KeyError" = some none)
    (z_OverflowError : PySem.W.nsIn K mainGlobals "OverflowError" = some none)
    (z_LookupError : PySem.W.nsIn K mainGlobals "LookupError" = some none)
    (z_ArithmeticError : PySem.W.nsIn K mainGlobals "ArithmeticError" = some none)
    (z_RuntimeError : PySem.W.nsIn K mainGlobals "RuntimeError" = some none)
    (z_list : PySem.W.nsIn K mainGlobals "list" = some none)
    (z_range : PySem.W.nsIn K mainGlobals "range" = some none)
    (z_repr : PySem.W.nsIn K mainGlobals "repr" = some none)
    (z_int : PySem.W.nsIn K mainGlobals "int" = some none)
    (z_max : PySem.W.nsIn K mainGlobals "max" = some none)
    (z_isinstance : PySem.W.nsIn K mainGlobals "isinstance" = some none)
    (z_len : PySem.W.nsIn K mainGlobals "len" = some none)
    (z_abs : PySem.W.nsIn K mainGlobals "abs" = some none)
    (z_TypeError : PySem.W.nsIn K mainGlobals "TypeError" = some none)
    (z_str : PySem.W.nsIn K mainGlobals "str" = some none)
    (z_min : PySem.W.nsIn K mainGlobals "min" = some none)
    (z_sum : PySem.W.nsIn K mainGlobals "sum" = some none)
    (a_urn : PySem.W.nsIn K mainGlobals "_law_urn" = some (some (.ref f_urn)))
    (l_urn : K.lookup f_urn = some ⟨oc_urn, od_urn, .func (PySem.W.fnOf "_law_urn" "_law_urn" (defArgs s_urn) (defBody s_urn) (defScope s_urn) .none kV_urn dc_urn pm_urn an_urn cd_urn ct_urn), sl_urn⟩)
    (c_urn : PySem.W.codeIn K cd_urn "_law_urn" = true)
    (k_urn : PySem.W.keepIn K (.ref f_urn) = true)
    (a_dip : PySem.W.nsIn K mainGlobals "_law_dip" = some (some (.ref f_dip)))
    (l_dip : K.lookup f_dip = some ⟨oc_dip, od_dip, .func (PySem.W.fnOf "_law_dip" "_law_dip" (defArgs s_dip) (defBody s_dip) (defScope s_dip) .none kV_dip dc_dip pm_dip an_dip cd_dip ct_dip), sl_dip⟩)
    (c_dip : PySem.W.codeIn K cd_dip "_law_dip" = true)
    (k_dip : PySem.W.keepIn K (.ref f_dip) = true)
    (a_one_of : PySem.W.nsIn K mainGlobals "_law_one_of" = some (some (.ref f_one_of)))
    (l_one_of : K.lookup f_one_of = some ⟨oc_one_of, od_one_of, .func (PySem.W.fnOf "_law_one_of" "_law_one_of" (defArgs s_one_of) (defBody s_one_of) (defScope s_one_of) .none kV_one_of dc_one_of pm_one_of an_one_of cd_one_of ct_one_of), sl_one_of⟩)
    (c_one_of : PySem.W.codeIn K cd_one_of "_law_one_of" = true)
    (k_one_of : PySem.W.keepIn K (.ref f_one_of) = true)
    (a_shuffled : PySem.W.nsIn K mainGlobals "_law_shuffled" = some (some (.ref f_shuffled)))
    (l_shuffled : K.lookup f_shuffled = some ⟨oc_shuffled, od_shuffled, .func (PySem.W.fnOf "_law_shuffled" "_law_shuffled" (defArgs s_shuffled) (defBody s_shuffled) (defScope s_shuffled) .none kV_shuffled dc_shuffled pm_shuffled an_shuffled cd_shuffled ct_shuffled), sl_shuffled⟩)
    (c_shuffled : PySem.W.codeIn K cd_shuffled "_law_shuffled" = true)
    (k_shuffled : PySem.W.keepIn K (.ref f_shuffled) = true)
    (a_names : PySem.W.nsIn K mainGlobals "_law_names" = some (some (.ref f_names)))
    (l_names : K.lookup f_names = some ⟨oc_names, od_names, .func (PySem.W.fnOf "_law_names" "_law_names" (defArgs s_names) (defBody s_names) (defScope s_names) .none kV_names dc_names pm_names an_names cd_names ct_names), sl_names⟩)
    (c_names : PySem.W.codeIn K cd_names "_law_names" = true)
    (k_names : PySem.W.keepIn K (.ref f_names) = true)
    (a_made_one : PySem.W.nsIn K mainGlobals "_law_made_one" = some (some (.ref f_made_one)))
    (l_made_one : K.lookup f_made_one = some ⟨oc_made_one, od_made_one, .func (PySem.W.fnOf "_law_made_one" "_law_made_one" (defArgs s_made_one) (defBody s_made_one) (defScope s_made_one) .none kV_made_one dc_made_one pm_made_one an_made_one cd_made_one ct_made_one), sl_made_one⟩)
    (c_made_one : PySem.W.codeIn K cd_made_one "_law_made_one" = true)
    (k_made_one : PySem.W.keepIn K (.ref f_made_one) = true)
    (a_sorts : PySem.W.nsIn K mainGlobals "_law_sorts" = some (some (.ref f_sorts)))
    (l_sorts : K.lookup f_sorts = some ⟨oc_sorts, od_sorts, .func (PySem.W.fnOf "_law_sorts" "_law_sorts" (defArgs s_sorts) (defBody s_sorts) (defScope s_sorts) .none kV_sorts dc_sorts pm_sorts an_sorts cd_sorts ct_sorts), sl_sorts⟩)
    (c_sorts : PySem.W.codeIn K cd_sorts "_law_sorts" = true)
    (k_sorts : PySem.W.keepIn K (.ref f_sorts) = true)
    (a_kin : PySem.W.nsIn K mainGlobals "_law_kin" = some (some (.ref f_kin)))
    (l_kin : K.lookup f_kin = some ⟨oc_kin, od_kin, .func (PySem.W.fnOf "_law_kin" "_law_kin" (defArgs s_kin) (defBody s_kin) (defScope s_kin) .none kV_kin dc_kin pm_kin an_kin cd_kin ct_kin), sl_kin⟩)
    (c_kin : PySem.W.codeIn K cd_kin "_law_kin" = true)
    (k_kin : PySem.W.keepIn K (.ref f_kin) = true)
    (a_due : PySem.W.nsIn K mainGlobals "_law_due" = some (some (.ref f_due)))
    (l_due : K.lookup f_due = some ⟨oc_due, od_due, .func (PySem.W.fnOf "_law_due" "_law_due" (defArgs s_due) (defBody s_due) (defScope s_due) .none kV_due dc_due pm_due an_due cd_due ct_due), sl_due⟩)
    (c_due : PySem.W.codeIn K cd_due "_law_due" = true)
    (k_due : PySem.W.keepIn K (.ref f_due) = true)
    (a_kept : PySem.W.nsIn K mainGlobals "_law_kept" = some (some (.ref f_kept)))
    (l_kept : K.lookup f_kept = some ⟨oc_kept, od_kept, .func (PySem.W.fnOf "_law_kept" "_law_kept" (defArgs s_kept) (defBody s_kept) (defScope s_kept) .none kV_kept dc_kept pm_kept an_kept cd_kept ct_kept), sl_kept⟩)
    (c_kept : PySem.W.codeIn K cd_kept "_law_kept" = true)
    (k_kept : PySem.W.keepIn K (.ref f_kept) = true)
    (a_due_kept : PySem.W.nsIn K mainGlobals "_law_due_kept" = some (some (.ref f_due_kept)))
    (l_due_kept : K.lookup f_due_kept = some ⟨oc_due_kept, od_due_kept, .func (PySem.W.fnOf "_law_due_kept" "_law_due_kept" (defArgs s_due_kept) (defBody s_due_kept) (defScope s_due_kept) .none kV_due_kept dc_due_kept pm_due_kept an_due_kept cd_due_kept ct_due_kept), sl_due_kept⟩)
    (c_due_kept : PySem.W.codeIn K cd_due_kept "_law_due_kept" = true)
    (k_due_kept : PySem.W.keepIn K (.ref f_due_kept) = true)
    (a_value_for : PySem.W.nsIn K mainGlobals "_law_value_for" = some (some (.ref f_value_for)))
    (l_value_for : K.lookup f_value_for = some ⟨oc_value_for, od_value_for, .func (PySem.W.fnOf "_law_value_for" "_law_value_for" (defArgs s_value_for) (defBody s_value_for) (defScope s_value_for) .none kV_value_for dc_value_for pm_value_for an_value_for cd_value_for ct_value_for), sl_value_for⟩)
    (c_value_for : PySem.W.codeIn K cd_value_for "_law_value_for" = true)
    (k_value_for : PySem.W.keepIn K (.ref f_value_for) = true)
    (a_thrown : PySem.W.nsIn K mainGlobals "_law_thrown" = some (some (.ref f_thrown)))
    (l_thrown : K.lookup f_thrown = some ⟨oc_thrown, od_thrown, .func (PySem.W.fnOf "_law_thrown" "_law_thrown" (defArgs s_thrown) (defBody s_thrown) (defScope s_thrown) .none kV_thrown dc_thrown pm_thrown an_thrown cd_thrown ct_thrown), sl_thrown⟩)
    (c_thrown : PySem.W.codeIn K cd_thrown "_law_thrown" = true)
    (k_thrown : PySem.W.keepIn K (.ref f_thrown) = true)
    (a_caught : PySem.W.nsIn K mainGlobals "_law_caught" = some (some (.ref f_caught)))
    (l_caught : K.lookup f_caught = some ⟨oc_caught, od_caught, .func (PySem.W.fnOf "_law_caught" "_law_caught" (defArgs s_caught) (defBody s_caught) (defScope s_caught) .none kV_caught dc_caught pm_caught an_caught cd_caught ct_caught), sl_caught⟩)
    (c_caught : PySem.W.codeIn K cd_caught "_law_caught" = true)
    (k_caught : PySem.W.keepIn K (.ref f_caught) = true)
    (a_law : PySem.W.nsIn K mainGlobals "law" = some (some (.ref f_law)))
    (l_law : K.lookup f_law = some ⟨oc_law, od_law, .func (PySem.W.fnOf "law" "law" (defArgs s_law) (defBody s_law) (defScope s_law) .none kV_law dc_law pm_law an_law cd_law ct_law), sl_law⟩)
    (c_law : PySem.W.codeIn K cd_law "law" = true)
    (k_law : PySem.W.keepIn K (.ref f_law) = true) :
    LawIs K mg fa := by
  have e := hfa.symm.trans (PySem.W.mg_of X G a_law)
  obtain rfl : f_law = fa := by cases e; rfl
  have F_urn := fun_mk (st := s_urn) l_urn c_urn k_urn
  have b_urn := F_urn.binds (ps := p_urn) fun _ _ _ _ _ _ us hl => match us, hl with | [_, _], _ => rfl
  have F_dip := fun_mk (st := s_dip) l_dip c_dip k_dip
  have b_dip := F_dip.binds (ps := p_dip) fun _ _ _ _ _ _ us hl => match us, hl with | [_, _], _ => rfl
  have F_one_of := fun_mk (st := s_one_of) l_one_of c_one_of k_one_of
  have b_one_of := F_one_of.binds (ps := p_one_of) fun _ _ _ _ _ _ us hl => match us, hl with | [_, _], _ => rfl
  have F_shuffled := fun_mk (st := s_shuffled) l_shuffled c_shuffled k_shuffled
  have b_shuffled := F_shuffled.binds (ps := p_shuffled) fun _ _ _ _ _ _ us hl => match us, hl with | [_, _], _ => rfl
  have F_names := fun_mk (st := s_names) l_names c_names k_names
  have b_names := F_names.binds (ps := p_names) fun _ _ _ _ _ _ us hl => match us, hl with | [_, _], _ => rfl
  have F_made_one := fun_mk (st := s_made_one) l_made_one c_made_one k_made_one
  have b_made_one := F_made_one.binds (ps := p_made_one) fun _ _ _ _ _ _ us hl => match us, hl with | [_, _], _ => rfl
  have F_sorts := fun_mk (st := s_sorts) l_sorts c_sorts k_sorts
  have b_sorts := F_sorts.binds (ps := p_sorts) fun _ _ _ _ _ _ us hl => match us, hl with | [_], _ => rfl
  have F_kin := fun_mk (st := s_kin) l_kin c_kin k_kin
  have b_kin := F_kin.binds (ps := p_kin) fun _ _ _ _ _ _ us hl => match us, hl with | [_], _ => rfl
  have F_due := fun_mk (st := s_due) l_due c_due k_due
  have b_due := F_due.binds (ps := p_due) fun _ _ _ _ _ _ us hl => match us, hl with | [_], _ => rfl
  have F_kept := fun_mk (st := s_kept) l_kept c_kept k_kept
  have b_kept := F_kept.binds (ps := p_kept) fun _ _ _ _ _ _ us hl => match us, hl with | [_, _], _ => rfl
  have F_due_kept := fun_mk (st := s_due_kept) l_due_kept c_due_kept k_due_kept
  have b_due_kept := F_due_kept.binds (ps := p_due_kept) fun _ _ _ _ _ _ us hl => match us, hl with | [_, _], _ => rfl
  have F_value_for := fun_mk (st := s_value_for) l_value_for c_value_for k_value_for
  have b_value_for := F_value_for.binds (ps := p_value_for) fun _ _ _ _ _ _ us hl => match us, hl with | [_, _], _ => rfl
  have F_thrown := fun_mk (st := s_thrown) l_thrown c_thrown k_thrown
  have b_thrown := F_thrown.binds (ps := p_thrown) fun _ _ _ _ _ _ us hl => match us, hl with | [_, _], _ => rfl
  have F_caught := fun_mk (st := s_caught) l_caught c_caught k_caught
  have b_caught := F_caught.binds (ps := p_caught) fun _ _ _ _ _ _ us hl => match us, hl with | [_, _], _ => rfl
  have F_law := fun_mk (st := s_law) l_law c_law k_law
  have b_law := F_law.binds (ps := p_law) fun _ _ _ _ _ _ us hl => match us, hl with | [_], _ => rfl
  have S_InvalidNumber := fun_mk (st := s_InvalidNumber_str) ls_InvalidNumber cs_InvalidNumber ks_InvalidNumber
  have bb_InvalidNumber := S_InvalidNumber.binds (ps := p_InvalidNumber_str) fun _ _ _ _ _ _ us hl => match us, hl with | [_], _ => rfl
  have S_UnknownName := fun_mk (st := s_UnknownName_str) ls_UnknownName cs_UnknownName ks_UnknownName
  have bb_UnknownName := S_UnknownName.binds (ps := p_UnknownName_str) fun _ _ _ _ _ _ us hl => match us, hl with | [_], _ => rfl
  exact ⟨{ C_ParseError := C_ParseError, i_ParseError := i_ParseError, x_ParseError := { gC := PySem.W.mg_of X G aC_ParseError, cls := ⟨nm_ParseError, qn_ParseError, N_ParseError, bs_ParseError, _, sn_ParseError, sub_ParseError, ab_ParseError, col_ParseError, dd_ParseError, m0_ParseError, m1_ParseError, m2_ParseError, m3_ParseError, m5_ParseError, xC_ParseError, by first | decide +kernel | rfl⟩, sa := sa_ParseError, ga := ga_ParseError, gg := gg_ParseError, noN := nv_ParseError, iC := in_ParseError, tC := ti_ParseError, kC := kC_ParseError, exC := eC_ParseError, tyC := tC_ParseError, hdC := hC_ParseError, te := exm_own eC_ParseError ic_ParseError tC_ParseError sC_ParseError, fn := ⟨_, _, _, _, _, _, _, _, _, _, _, _, _, _, li_ParseError, ci_ParseError⟩ }, C_InvalidNumber := C_InvalidNumber, i_InvalidNumber := i_InvalidNumber, x_InvalidNumber := { gC := PySem.W.mg_of X G aC_InvalidNumber, cls := ⟨nm_InvalidNumber, qn_InvalidNumber, N_InvalidNumber, bs_InvalidNumber, _, sn_InvalidNumber, sub_InvalidNumber, ab_InvalidNumber, col_InvalidNumber, dd_InvalidNumber, m0_InvalidNumber, m1_InvalidNumber, m2_InvalidNumber, m3_InvalidNumber, m5_InvalidNumber, xC_InvalidNumber, by first | decide +kernel | rfl⟩, sa := sa_InvalidNumber, ga := ga_InvalidNumber, gg := gg_InvalidNumber, noN := nv_InvalidNumber, iC := in_InvalidNumber, tC := ti_InvalidNumber, kC := kC_InvalidNumber, exC := eC_InvalidNumber, tyC := tC_InvalidNumber, hdC := hC_InvalidNumber, te := exm_own eC_InvalidNumber ic_InvalidNumber tC_InvalidNumber sC_InvalidNumber, fn := ⟨_, _, _, _, _, _, _, _, _, _, _, _, _, _, li_InvalidNumber, ci_InvalidNumber⟩ }, C_UnknownName := C_UnknownName, i_UnknownName := i_UnknownName, x_UnknownName := { gC := PySem.W.mg_of X G aC_UnknownName, cls := ⟨nm_UnknownName, qn_UnknownName, N_UnknownName, bs_UnknownName, _, sn_UnknownName, sub_UnknownName, ab_UnknownName, col_UnknownName, dd_UnknownName, m0_UnknownName, m1_UnknownName, m2_UnknownName, m3_UnknownName, m5_UnknownName, xC_UnknownName, by first | decide +kernel | rfl⟩, sa := sa_UnknownName, ga := ga_UnknownName, gg := gg_UnknownName, noN := nv_UnknownName, iC := in_UnknownName, tC := ti_UnknownName, kC := kC_UnknownName, exC := eC_UnknownName, tyC := tC_UnknownName, hdC := hC_UnknownName, te := exm_own eC_UnknownName ic_UnknownName tC_UnknownName sC_UnknownName, fn := ⟨_, _, _, _, _, _, _, _, _, _, _, _, _, _, li_UnknownName, ci_UnknownName⟩ }, C_TooMany := C_TooMany, i_TooMany := i_TooMany, x_TooMany := { gC := PySem.W.mg_of X G aC_TooMany, cls := ⟨nm_TooMany, qn_TooMany, N_TooMany, bs_TooMany, _, sn_TooMany, sub_TooMany, ab_TooMany, col_TooMany, dd_TooMany, m0_TooMany, m1_TooMany, m2_TooMany, m3_TooMany, m5_TooMany, xC_TooMany, by first | decide +kernel | rfl⟩, sa := sa_TooMany, ga := ga_TooMany, gg := gg_TooMany, noN := nv_TooMany, iC := in_TooMany, tC := ti_TooMany, kC := kC_TooMany, exC := eC_TooMany, tyC := tC_TooMany, hdC := hC_TooMany, te := exm_own eC_TooMany ic_TooMany tC_TooMany sC_TooMany, fn := ⟨_, _, _, _, _, _, _, _, _, _, _, _, _, _, li_TooMany, ci_TooMany⟩ }, C_NothingToUndo := C_NothingToUndo, i_NothingToUndo := i_NothingToUndo, x_NothingToUndo := { gC := PySem.W.mg_of X G aC_NothingToUndo, cls := ⟨nm_NothingToUndo, qn_NothingToUndo, N_NothingToUndo, bs_NothingToUndo, _, sn_NothingToUndo, sub_NothingToUndo, ab_NothingToUndo, col_NothingToUndo, dd_NothingToUndo, m0_NothingToUndo, m1_NothingToUndo, m2_NothingToUndo, m3_NothingToUndo, m5_NothingToUndo, xC_NothingToUndo, by first | decide +kernel | rfl⟩, sa := sa_NothingToUndo, ga := ga_NothingToUndo, gg := gg_NothingToUndo, noN := nv_NothingToUndo, iC := in_NothingToUndo, tC := ti_NothingToUndo, kC := kC_NothingToUndo, exC := eC_NothingToUndo, tyC := tC_NothingToUndo, hdC := hC_NothingToUndo, te := exm_own eC_NothingToUndo ic_NothingToUndo tC_NothingToUndo sC_NothingToUndo, fn := ⟨_, _, _, _, _, _, _, _, _, _, _, _, _, _, li_NothingToUndo, ci_NothingToUndo⟩ }, C_Broken := C_Broken, i_Broken := i_Broken, x_Broken := { gC := PySem.W.mg_of X G aC_Broken, cls := ⟨nm_Broken, qn_Broken, N_Broken, bs_Broken, _, sn_Broken, sub_Broken, ab_Broken, col_Broken, dd_Broken, m0_Broken, m1_Broken, m2_Broken, m3_Broken, m5_Broken, xC_Broken, by first | decide +kernel | rfl⟩, sa := sa_Broken, ga := ga_Broken, gg := gg_Broken, noN := nv_Broken, iC := in_Broken, tC := ti_Broken, kC := kC_Broken, exC := eC_Broken, tyC := tC_Broken, hdC := hC_Broken, te := exm_own eC_Broken ic_Broken tC_Broken sC_Broken, fn := ⟨_, _, _, _, _, _, _, _, _, _, _, _, _, _, li_Broken, ci_Broken⟩ }, C_Loud := C_Loud, i_Loud := i_Loud, x_Loud := { gC := PySem.W.mg_of X G aC_Loud, cls := ⟨nm_Loud, qn_Loud, N_Loud, bs_Loud, _, sn_Loud, sub_Loud, ab_Loud, col_Loud, dd_Loud, m0_Loud, m1_Loud, m2_Loud, m3_Loud, m5_Loud, xC_Loud, by first | decide +kernel | rfl⟩, sa := sa_Loud, ga := ga_Loud, gg := gg_Loud, noN := nv_Loud, iC := in_Loud, tC := ti_Loud, kC := kC_Loud, exC := eC_Loud, tyC := tC_Loud, hdC := hC_Loud, te := exm_own eC_Loud ic_Loud tC_Loud sC_Loud, fn := ⟨_, _, _, _, _, _, _, _, _, _, _, _, _, _, li_Loud, ci_Loud⟩ }, C_MoverError := C_MoverError, C_MoverError_at := PySem.W.mg_of X G aC_MoverError, C_InvalidName := C_InvalidName, C_InvalidName_at := PySem.W.mg_of X G aC_InvalidName, q_InvalidName := q_InvalidName, kC_InvalidName := kC_InvalidName, C_InvalidMachine := C_InvalidMachine, C_InvalidMachine_at := PySem.W.mg_of X G aC_InvalidMachine, q_InvalidMachine := q_InvalidMachine, kC_InvalidMachine := kC_InvalidMachine, C_InvalidMove := C_InvalidMove, C_InvalidMove_at := PySem.W.mg_of X G aC_InvalidMove, q_InvalidMove := q_InvalidMove, kC_InvalidMove := kC_InvalidMove, C_InvalidText := C_InvalidText, C_InvalidText_at := PySem.W.mg_of X G aC_InvalidText, q_InvalidText := q_InvalidText, kC_InvalidText := kC_InvalidText, C_InvalidWord := C_InvalidWord, C_InvalidWord_at := PySem.W.mg_of X G aC_InvalidWord, q_InvalidWord := q_InvalidWord, kC_InvalidWord := kC_InvalidWord, C_InvalidOperation := C_InvalidOperation, C_InvalidOperation_at := PySem.W.mg_of X G aC_InvalidOperation, q_InvalidOperation := q_InvalidOperation, kC_InvalidOperation := kC_InvalidOperation, tab := tab, s_InvalidNumber := s_InvalidNumber, isF_InvalidNumber := isF_InvalidNumber, ds_InvalidNumber := _, S_InvalidNumber := S_InvalidNumber, bb_InvalidNumber := bb_InvalidNumber, fs_InvalidNumber := fs_InvalidNumber, s_UnknownName := s_UnknownName, isF_UnknownName := isF_UnknownName, ds_UnknownName := _, S_UnknownName := S_UnknownName, bb_UnknownName := bb_UnknownName, fs_UnknownName := fs_UnknownName, ValueError := PySem.W.mg_none_of X G z_ValueError, IndexError := PySem.W.mg_none_of X G z_IndexError, KeyError := PySem.W.mg_none_of X G z_KeyError, OverflowError := PySem.W.mg_none_of X G z_OverflowError, LookupError := PySem.W.mg_none_of X G z_LookupError, ArithmeticError := PySem.W.mg_none_of X G z_ArithmeticError, RuntimeError := PySem.W.mg_none_of X G z_RuntimeError, list := PySem.W.mg_none_of X G z_list, range := PySem.W.mg_none_of X G z_range, repr := PySem.W.mg_none_of X G z_repr, int := PySem.W.mg_none_of X G z_int, max := PySem.W.mg_none_of X G z_max, isinstance := PySem.W.mg_none_of X G z_isinstance, len := PySem.W.mg_none_of X G z_len, abs := PySem.W.mg_none_of X G z_abs, TypeError := PySem.W.mg_none_of X G z_TypeError, str := PySem.W.mg_none_of X G z_str, min := PySem.W.mg_none_of X G z_min, sum := PySem.W.mg_none_of X G z_sum, f_urn := f_urn, d_urn := _, F_urn := F_urn, m_urn := PySem.W.mg_of X G a_urn, b_urn := b_urn, f_dip := f_dip, d_dip := _, F_dip := F_dip, m_dip := PySem.W.mg_of X G a_dip, b_dip := b_dip, f_one_of := f_one_of, d_one_of := _, F_one_of := F_one_of, m_one_of := PySem.W.mg_of X G a_one_of, b_one_of := b_one_of, f_shuffled := f_shuffled, d_shuffled := _, F_shuffled := F_shuffled, m_shuffled := PySem.W.mg_of X G a_shuffled, b_shuffled := b_shuffled, f_names := f_names, d_names := _, F_names := F_names, m_names := PySem.W.mg_of X G a_names, b_names := b_names, f_made_one := f_made_one, d_made_one := _, F_made_one := F_made_one, m_made_one := PySem.W.mg_of X G a_made_one, b_made_one := b_made_one, f_sorts := f_sorts, d_sorts := _, F_sorts := F_sorts, m_sorts := PySem.W.mg_of X G a_sorts, b_sorts := b_sorts, f_kin := f_kin, d_kin := _, F_kin := F_kin, m_kin := PySem.W.mg_of X G a_kin, b_kin := b_kin, f_due := f_due, d_due := _, F_due := F_due, m_due := PySem.W.mg_of X G a_due, b_due := b_due, f_kept := f_kept, d_kept := _, F_kept := F_kept, m_kept := PySem.W.mg_of X G a_kept, b_kept := b_kept, f_due_kept := f_due_kept, d_due_kept := _, F_due_kept := F_due_kept, m_due_kept := PySem.W.mg_of X G a_due_kept, b_due_kept := b_due_kept, f_value_for := f_value_for, d_value_for := _, F_value_for := F_value_for, m_value_for := PySem.W.mg_of X G a_value_for, b_value_for := b_value_for, f_thrown := f_thrown, d_thrown := _, F_thrown := F_thrown, m_thrown := PySem.W.mg_of X G a_thrown, b_thrown := b_thrown, f_caught := f_caught, d_caught := _, F_caught := F_caught, m_caught := PySem.W.mg_of X G a_caught, b_caught := b_caught, f_law := f_law, d_law := _, F_law := F_law, m_law := PySem.W.mg_of X G a_law, b_law := b_law }, rfl⟩
end My

set_option Elab.async false
set_option maxRecDepth 100000
open PySem PySem.W PyProof.Rows in
set_option maxRecDepth 100000 in
set_option maxHeartbeats 0 in
theorem PySem.Challenge.cw_textmovers_k01_whole_errors_holds : PySem.Challenge.rw_textmovers_k01_whole_errors.Holds := by
  w_on; o_law; k_head; (case hw => w_witness2)
  k_fill
  refine My.the_walk (l := PySem.Challenge.rw_textmovers_k01_whole_errors) rfl rfl rfl (fun w h Y => by first | exact PySem.W.kIn_of Y | exact PySem.W.km_in_of Y) ?F
  case F =>
    intro w mg fa h KX G hmg
    refine' My.all_mk KX G hmg ?aC_ParseError ?xC_ParseError ?sa_ParseError ?ga_ParseError ?gg_ParseError ?nv_ParseError ?in_ParseError ?ti_ParseError ?li_ParseError ?ci_ParseError ?kC_ParseError ?eC_ParseError ?tC_ParseError ?hC_ParseError ?ic_ParseError ?sC_ParseError ?aC_InvalidNumber ?xC_InvalidNumber ?sa_InvalidNumber ?ga_InvalidNumber ?gg_InvalidNumber ?nv_InvalidNumber ?in_InvalidNumber ?ti_InvalidNumber ?li_InvalidNumber ?ci_InvalidNumber ?kC_InvalidNumber ?eC_InvalidNumber ?tC_InvalidNumber ?hC_InvalidNumber ?ic_InvalidNumber ?sC_InvalidNumber ?aC_UnknownName ?xC_UnknownName ?sa_UnknownName ?ga_UnknownName ?gg_UnknownName ?nv_UnknownName ?in_UnknownName ?ti_UnknownName ?li_UnknownName ?ci_UnknownName ?kC_UnknownName ?eC_UnknownName ?tC_UnknownName ?hC_UnknownName ?ic_UnknownName ?sC_UnknownName ?aC_TooMany ?xC_TooMany ?sa_TooMany ?ga_TooMany ?gg_TooMany ?nv_TooMany ?in_TooMany ?ti_TooMany ?li_TooMany ?ci_TooMany ?kC_TooMany ?eC_TooMany ?tC_TooMany ?hC_TooMany ?ic_TooMany ?sC_TooMany ?aC_NothingToUndo ?xC_NothingToUndo ?sa_NothingToUndo ?ga_NothingToUndo ?gg_NothingToUndo ?nv_NothingToUndo ?in_NothingToUndo ?ti_NothingToUndo ?li_NothingToUndo ?ci_NothingToUndo ?kC_NothingToUndo ?eC_NothingToUndo ?tC_NothingToUndo ?hC_NothingToUndo ?ic_NothingToUndo ?sC_NothingToUndo ?aC_Broken ?xC_Broken ?sa_Broken ?ga_Broken ?gg_Broken ?nv_Broken ?in_Broken ?ti_Broken ?li_Broken ?ci_Broken ?kC_Broken ?eC_Broken ?tC_Broken ?hC_Broken ?ic_Broken ?sC_Broken ?aC_Loud ?xC_Loud ?sa_Loud ?ga_Loud ?gg_Loud ?nv_Loud ?in_Loud ?ti_Loud ?li_Loud ?ci_Loud ?kC_Loud ?eC_Loud ?tC_Loud ?hC_Loud ?ic_Loud ?sC_Loud ?aC_MoverError ?aC_InvalidName ?q_InvalidName ?kC_InvalidName ?aC_InvalidMachine ?q_InvalidMachine ?kC_InvalidMachine ?aC_InvalidMove ?q_InvalidMove ?kC_InvalidMove ?aC_InvalidText ?q_InvalidText ?kC_InvalidText ?aC_InvalidWord ?q_InvalidWord ?kC_InvalidWord ?aC_InvalidOperation ?q_InvalidOperation ?kC_InvalidOperation ?tab ?fs_InvalidNumber ?ls_InvalidNumber ?cs_InvalidNumber ?ks_InvalidNumber ?isF_InvalidNumber ?fs_UnknownName ?ls_UnknownName ?cs_UnknownName ?ks_UnknownName ?isF_UnknownName ?z_ValueError ?z_IndexError ?z_KeyError ?z_OverflowError ?z_LookupError ?z_ArithmeticError ?z_RuntimeError ?z_list ?z_range ?z_repr ?z_int ?z_max ?z_isinstance ?z_len ?z_abs ?z_TypeError ?z_str ?z_min ?z_sum ?a_urn ?l_urn ?c_urn ?k_urn ?a_dip ?l_dip ?c_dip ?k_dip ?a_one_of ?l_one_of ?c_one_of ?k_one_of ?a_shuffled ?l_shuffled ?c_shuffled ?k_shuffled ?a_names ?l_names ?c_names ?k_names ?a_made_one ?l_made_one ?c_made_one ?k_made_one ?a_sorts ?l_sorts ?c_sorts ?k_sorts ?a_kin ?l_kin ?c_kin ?k_kin ?a_due ?l_due ?c_due ?k_due ?a_kept ?l_kept ?c_kept ?k_kept ?a_due_kept ?l_due_kept ?c_due_kept ?k_due_kept ?a_value_for ?l_value_for ?c_value_for ?k_value_for ?a_thrown ?l_thrown ?c_thrown ?k_thrown ?a_caught ?l_caught ?c_caught ?k_caught ?a_law ?l_law ?c_law ?k_law
    (case aC_ParseError => k_is)
    (case xC_ParseError => k_is)
    (case sa_ParseError => k_is)
    (case ga_ParseError => k_is)
    (case gg_ParseError => k_is)
    (case nv_ParseError => k_is)
    (case in_ParseError => k_is)
    (case ti_ParseError => k_is)
    (case li_ParseError => k_is)
    (case ci_ParseError => k_is)
    (case kC_ParseError => k_is)
    (case eC_ParseError => k_is)
    (case tC_ParseError => k_is)
    (case hC_ParseError => k_is)
    (case ic_ParseError => k_is)
    (case sC_ParseError => first | rfl | k_is)
    (case aC_InvalidNumber => k_is)
    (case xC_InvalidNumber => k_is)
    (case sa_InvalidNumber => k_is)
    (case ga_InvalidNumber => k_is)
    (case gg_InvalidNumber => k_is)
    (case nv_InvalidNumber => k_is)
    (case in_InvalidNumber => k_is)
    (case ti_InvalidNumber => k_is)
    (case li_InvalidNumber => k_is)
    (case ci_InvalidNumber => k_is)
    (case kC_InvalidNumber => k_is)
    (case eC_InvalidNumber => k_is)
    (case tC_InvalidNumber => k_is)
    (case hC_InvalidNumber => k_is)
    (case ic_InvalidNumber => k_is)
    (case sC_InvalidNumber => first | rfl | k_is)
    (case aC_UnknownName => k_is)
    (case xC_UnknownName => k_is)
    (case sa_UnknownName => k_is)
    (case ga_UnknownName => k_is)
    (case gg_UnknownName => k_is)
    (case nv_UnknownName => k_is)
    (case in_UnknownName => k_is)
    (case ti_UnknownName => k_is)
    (case li_UnknownName => k_is)
    (case ci_UnknownName => k_is)
    (case kC_UnknownName => k_is)
    (case eC_UnknownName => k_is)
    (case tC_UnknownName => k_is)
    (case hC_UnknownName => k_is)
    (case ic_UnknownName => k_is)
    (case sC_UnknownName => first | rfl | k_is)
    (case aC_TooMany => k_is)
    (case xC_TooMany => k_is)
    (case sa_TooMany => k_is)
    (case ga_TooMany => k_is)
    (case gg_TooMany => k_is)
    (case nv_TooMany => k_is)
    (case in_TooMany => k_is)
    (case ti_TooMany => k_is)
    (case li_TooMany => k_is)
    (case ci_TooMany => k_is)
    (case kC_TooMany => k_is)
    (case eC_TooMany => k_is)
    (case tC_TooMany => k_is)
    (case hC_TooMany => k_is)
    (case ic_TooMany => k_is)
    (case sC_TooMany => first | rfl | k_is)
    (case aC_NothingToUndo => k_is)
    (case xC_NothingToUndo => k_is)
    (case sa_NothingToUndo => k_is)
    (case ga_NothingToUndo => k_is)
    (case gg_NothingToUndo => k_is)
    (case nv_NothingToUndo => k_is)
    (case in_NothingToUndo => k_is)
    (case ti_NothingToUndo => k_is)
    (case li_NothingToUndo => k_is)
    (case ci_NothingToUndo => k_is)
    (case kC_NothingToUndo => k_is)
    (case eC_NothingToUndo => k_is)
    (case tC_NothingToUndo => k_is)
    (case hC_NothingToUndo => k_is)
    (case ic_NothingToUndo => k_is)
    (case sC_NothingToUndo => first | rfl | k_is)
    (case aC_Broken => k_is)
    (case xC_Broken => k_is)
    (case sa_Broken => k_is)
    (case ga_Broken => k_is)
    (case gg_Broken => k_is)
    (case nv_Broken => k_is)
    (case in_Broken => k_is)
    (case ti_Broken => k_is)
    (case li_Broken => k_is)
    (case ci_Broken => k_is)
    (case kC_Broken => k_is)
    (case eC_Broken => k_is)
    (case tC_Broken => k_is)
    (case hC_Broken => k_is)
    (case ic_Broken => k_is)
    (case sC_Broken => first | rfl | k_is)
    (case aC_Loud => k_is)
    (case xC_Loud => k_is)
    (case sa_Loud => k_is)
    (case ga_Loud => k_is)
    (case gg_Loud => k_is)
    (case nv_Loud => k_is)
    (case in_Loud => k_is)
    (case ti_Loud => k_is)
    (case li_Loud => k_is)
    (case ci_Loud => k_is)
    (case kC_Loud => k_is)
    (case eC_Loud => k_is)
    (case tC_Loud => k_is)
    (case hC_Loud => k_is)
    (case ic_Loud => k_is)
    (case sC_Loud => first | rfl | k_is)
    (case aC_MoverError => k_is)
    (case aC_InvalidName => k_is)
    (case q_InvalidName => first | k_exc | kernel_rfl)
    (case kC_InvalidName => k_is)
    (case aC_InvalidMachine => k_is)
    (case q_InvalidMachine => first | k_exc | kernel_rfl)
    (case kC_InvalidMachine => k_is)
    (case aC_InvalidMove => k_is)
    (case q_InvalidMove => first | k_exc | kernel_rfl)
    (case kC_InvalidMove => k_is)
    (case aC_InvalidText => k_is)
    (case q_InvalidText => first | k_exc | kernel_rfl)
    (case kC_InvalidText => k_is)
    (case aC_InvalidWord => k_is)
    (case q_InvalidWord => first | k_exc | kernel_rfl)
    (case kC_InvalidWord => k_is)
    (case aC_InvalidOperation => k_is)
    (case q_InvalidOperation => first | k_exc | kernel_rfl)
    (case kC_InvalidOperation => k_is)
    (case tab => kernel_rfl)
    (case fs_InvalidNumber => k_is)
    (case ls_InvalidNumber => k_is)
    (case cs_InvalidNumber => k_is)
    (case ks_InvalidNumber => k_is)
    (case isF_InvalidNumber => k_is)
    (case fs_UnknownName => k_is)
    (case ls_UnknownName => k_is)
    (case cs_UnknownName => k_is)
    (case ks_UnknownName => k_is)
    (case isF_UnknownName => k_is)
    (case z_ValueError => k_is)
    (case z_IndexError => k_is)
    (case z_KeyError => k_is)
    (case z_OverflowError => k_is)
    (case z_LookupError => k_is)
    (case z_ArithmeticError => k_is)
    (case z_RuntimeError => k_is)
    (case z_list => k_is)
    (case z_range => k_is)
    (case z_repr => k_is)
    (case z_int => k_is)
    (case z_max => k_is)
    (case z_isinstance => k_is)
    (case z_len => k_is)
    (case z_abs => k_is)
    (case z_TypeError => k_is)
    (case z_str => k_is)
    (case z_min => k_is)
    (case z_sum => k_is)
    (case a_urn => k_is)
    (case l_urn => k_is)
    (case c_urn => k_is)
    (case k_urn => k_is)
    (case a_dip => k_is)
    (case l_dip => k_is)
    (case c_dip => k_is)
    (case k_dip => k_is)
    (case a_one_of => k_is)
    (case l_one_of => k_is)
    (case c_one_of => k_is)
    (case k_one_of => k_is)
    (case a_shuffled => k_is)
    (case l_shuffled => k_is)
    (case c_shuffled => k_is)
    (case k_shuffled => k_is)
    (case a_names => k_is)
    (case l_names => k_is)
    (case c_names => k_is)
    (case k_names => k_is)
    (case a_made_one => k_is)
    (case l_made_one => k_is)
    (case c_made_one => k_is)
    (case k_made_one => k_is)
    (case a_sorts => k_is)
    (case l_sorts => k_is)
    (case c_sorts => k_is)
    (case k_sorts => k_is)
    (case a_kin => k_is)
    (case l_kin => k_is)
    (case c_kin => k_is)
    (case k_kin => k_is)
    (case a_due => k_is)
    (case l_due => k_is)
    (case c_due => k_is)
    (case k_due => k_is)
    (case a_kept => k_is)
    (case l_kept => k_is)
    (case c_kept => k_is)
    (case k_kept => k_is)
    (case a_due_kept => k_is)
    (case l_due_kept => k_is)
    (case c_due_kept => k_is)
    (case k_due_kept => k_is)
    (case a_value_for => k_is)
    (case l_value_for => k_is)
    (case c_value_for => k_is)
    (case k_value_for => k_is)
    (case a_thrown => k_is)
    (case l_thrown => k_is)
    (case c_thrown => k_is)
    (case k_thrown => k_is)
    (case a_caught => k_is)
    (case l_caught => k_is)
    (case c_caught => k_is)
    (case k_caught => k_is)
    (case a_law => k_is)
    (case l_law => k_is)
    (case c_law => k_is)
    (case k_law => k_is)
#print axioms PySem.Challenge.cw_textmovers_k01_whole_errors_holds
