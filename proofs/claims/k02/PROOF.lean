import PyProof.Rows.All
import Wide.All
import OpenK.AllK
import Wide.FinOn
import HandS.ForMost
import HandS.IsInst
import HandS.Zip
import HandS.Rev
import HandS.Gcd
import HandS.Wide
import HandS.TupMul
import HandS.TupAny
import HandS.Style
import HandS.Walk
import HandS.Deep
import HandS.Flow
import HandS.RevRange
import HandS.HeadHook4
import HandS.HeadEnd
import HandS.Head2
import HandS.Head3
import KE.GoesEnum
import KE.KDictPairs
import HandS.Strs
import HandS.Dict
import PyProof.Rows.ReprOcc
import PyProof.ReprLen
import PyProof.FitsInt
import PySem.Challenge.RW_deedhouses_k02_houses_starts_and_weighte
/-! Hk02 -/
set_option Elab.async false
set_option linter.all false
set_option maxRecDepth 100000
set_option maxHeartbeats 0
namespace DH
open PySem PySem.Spec PyProof.Rows L2
def blts : List Str := ["divmod", "len", "tuple", "list", "all", "any", "sum", "int", "abs", "repr", "str", "max", "min", "bool", "isinstance", "range", "zip", "enumerate", "reversed", "dict"]
def tupD (K : PySem.W.Frag) (x : Str) (vs : List He.Dv) : Bool := He.tupB K x vs && (match K.lookup (He.ga K x) with
  | some ⟨_, none, _, _⟩ => true
  | _ => false)
end DH
namespace Kt
open PySem PySem.Spec PyProof.Rows L2
def top (i : Nat) : Stmt := PySem.Challenge.pw_deedhouses_k02_houses_starts_and_weighte.main.body.getD i (.Pass ⟨0, 0, 0, 0⟩)
end Kt
namespace Kt
open PySem PySem.Spec PyProof.Rows L2 DH
def D0 : He.DefD := ⟨("is_whole", none), "is_whole", "is_whole", defArgs (top 7), defBody (top 7), defScope (top 7), [], []⟩
def D1 : He.DefD := ⟨("is_within", none), "is_within", "is_within", defArgs (top 8), defBody (top 8), defScope (top 8), [], []⟩
def D2 : He.DefD := ⟨("is_tuple", none), "is_tuple", "is_tuple", defArgs (top 9), defBody (top 9), defScope (top 9), [], []⟩
def D3 : He.DefD := ⟨("is_fraction", none), "is_fraction", "is_fraction", defArgs (top 10), defBody (top 10), defScope (top 10), [], []⟩
def D4 : He.DefD := ⟨("is_from_nought", none), "is_from_nought", "is_from_nought", defArgs (top 11), defBody (top 11), defScope (top 11), [], []⟩
def D5 : He.DefD := ⟨("is_row", none), "is_row", "is_row", defArgs (top 12), defBody (top 12), defScope (top 12), [], []⟩
def D6 : He.DefD := ⟨("are_odds", none), "are_odds", "are_odds", defArgs (top 13), defBody (top 13), defScope (top 13), [], []⟩
def D7 : He.DefD := ⟨("ratio", none), "ratio", "ratio", defArgs (top 14), defBody (top 14), defScope (top 14), [], []⟩
def D8 : He.DefD := ⟨("dot", none), "dot", "dot", defArgs (top 15), defBody (top 15), defScope (top 15), [], []⟩
def D9 : He.DefD := ⟨("total", none), "total", "total", defArgs (top 16), defBody (top 16), defScope (top 16), [], []⟩
def D10 : He.DefD := ⟨("is_house", none), "is_house", "is_house", defArgs (top 18), defBody (top 18), defScope (top 18), [], []⟩
def D11 : He.DefD := ⟨("is_frame", none), "is_frame", "is_frame", defArgs (top 19), defBody (top 19), defScope (top 19), [], []⟩
def D12 : He.DefD := ⟨("is_stand_frame", none), "is_stand_frame", "is_stand_frame", defArgs (top 20), defBody (top 20), defScope (top 20), [], []⟩
def D13 : He.DefD := ⟨("all_ways", none), "all_ways", "all_ways", defArgs (top 21), defBody (top 21), defScope (top 21), [], []⟩
def D14 : He.DefD := ⟨("are_chances", none), "are_chances", "are_chances", defArgs (top 22), defBody (top 22), defScope (top 22), [], []⟩
def D15 : He.DefD := ⟨("is_start", none), "is_start", "is_start", defArgs (top 23), defBody (top 23), defScope (top 23), [], []⟩
def D16 : He.DefD := ⟨("weighted", none), "weighted", "weighted", defArgs (top 24), defBody (top 24), defScope (top 24), [], []⟩
def D17 : He.DefD := ⟨("weighed", none), "weighed", "weighed", defArgs (top 25), defBody (top 25), defScope (top 25), [], []⟩
def D18 : He.DefD := ⟨("check_house", none), "check_house", "check_house", defArgs (top 26), defBody (top 26), defScope (top 26), [], []⟩
def D19 : He.DefD := ⟨("check_weights", none), "check_weights", "check_weights", defArgs (top 27), defBody (top 27), defScope (top 27), [], []⟩
def D20 : He.DefD := ⟨("_law_spring", none), "_law_spring", "_law_spring", defArgs (top 29), defBody (top 29), defScope (top 29), [], []⟩
def D21 : He.DefD := ⟨("_law_pick", none), "_law_pick", "_law_pick", defArgs (top 30), defBody (top 30), defScope (top 30), [], []⟩
def D22 : He.DefD := ⟨("_law_any_of", none), "_law_any_of", "_law_any_of", defArgs (top 31), defBody (top 31), defScope (top 31), [], []⟩
def D23 : He.DefD := ⟨("_law_frac", none), "_law_frac", "_law_frac", defArgs (top 32), defBody (top 32), defScope (top 32), [], []⟩
def D24 : He.DefD := ⟨("_law_plus", none), "_law_plus", "_law_plus", defArgs (top 33), defBody (top 33), defScope (top 33), [], []⟩
def D25 : He.DefD := ⟨("_law_times", none), "_law_times", "_law_times", defArgs (top 34), defBody (top 34), defScope (top 34), [], []⟩
def D26 : He.DefD := ⟨("_law_total", none), "_law_total", "_law_total", defArgs (top 35), defBody (top 35), defScope (top 35), [], []⟩
def D27 : He.DefD := ⟨("_law_dot", none), "_law_dot", "_law_dot", defArgs (top 36), defBody (top 36), defScope (top 36), [], []⟩
def D28 : He.DefD := ⟨("_law_part", none), "_law_part", "_law_part", defArgs (top 37), defBody (top 37), defScope (top 37), [], []⟩
def D29 : He.DefD := ⟨("_law_gains", none), "_law_gains", "_law_gains", defArgs (top 38), defBody (top 38), defScope (top 38), [], []⟩
def D30 : He.DefD := ⟨("_law_parts", none), "_law_parts", "_law_parts", defArgs (top 39), defBody (top 39), defScope (top 39), [], []⟩
def D31 : He.DefD := ⟨("_law_chances", none), "_law_chances", "_law_chances", defArgs (top 40), defBody (top 40), defScope (top 40), [], []⟩
def D32 : He.DefD := ⟨("_law_odds", none), "_law_odds", "_law_odds", defArgs (top 41), defBody (top 41), defScope (top 41), [], []⟩
def D33 : He.DefD := ⟨("_law_sized", none), "_law_sized", "_law_sized", defArgs (top 42), defBody (top 42), defScope (top 42), [], []⟩
def D34 : He.DefD := ⟨("_law_world", none), "_law_world", "_law_world", defArgs (top 43), defBody (top 43), defScope (top 43), [], []⟩
def D35 : He.DefD := ⟨("_law_dressed", none), "_law_dressed", "_law_dressed", defArgs (top 44), defBody (top 44), defScope (top 44), [], []⟩
def D36 : He.DefD := ⟨("_law_is_whole", none), "_law_is_whole", "_law_is_whole", defArgs (top 45), defBody (top 45), defScope (top 45), [], []⟩
def D37 : He.DefD := ⟨("_law_is_tuple", none), "_law_is_tuple", "_law_is_tuple", defArgs (top 46), defBody (top 46), defScope (top 46), [], []⟩
def D38 : He.DefD := ⟨("_law_is_frac", none), "_law_is_frac", "_law_is_frac", defArgs (top 47), defBody (top 47), defScope (top 47), [], []⟩
def D39 : He.DefD := ⟨("_law_is_row", none), "_law_is_row", "_law_is_row", defArgs (top 48), defBody (top 48), defScope (top 48), [], []⟩
def D40 : He.DefD := ⟨("_law_is_odds", none), "_law_is_odds", "_law_is_odds", defArgs (top 49), defBody (top 49), defScope (top 49), [], []⟩
def D41 : He.DefD := ⟨("_law_is_deed", none), "_law_is_deed", "_law_is_deed", defArgs (top 50), defBody (top 50), defScope (top 50), [], []⟩
def D42 : He.DefD := ⟨("_law_is_world", none), "_law_is_world", "_law_is_world", defArgs (top 51), defBody (top 51), defScope (top 51), [], []⟩
def D43 : He.DefD := ⟨("_law_odd", none), "_law_odd", "_law_odd", defArgs (top 52), defBody (top 52), defScope (top 52), [], []⟩
def D44 : He.DefD := ⟨("_law_twice", none), "_law_twice", "_law_twice", defArgs (top 53), defBody (top 53), defScope (top 53), [], []⟩
def D45 : He.DefD := ⟨("_law_bent", none), "_law_bent", "_law_bent", defArgs (top 54), defBody (top 54), defScope (top 54), [], []⟩
def D46 : He.DefD := ⟨("_law_maybe", none), "_law_maybe", "_law_maybe", defArgs (top 55), defBody (top 55), defScope (top 55), [], []⟩
def D47 : He.DefD := ⟨("_law_edge", none), "_law_edge", "_law_edge", defArgs (top 56), defBody (top 56), defScope (top 56), [], []⟩
def D48 : He.DefD := ⟨("_law_right", none), "_law_right", "_law_right", defArgs (top 57), defBody (top 57), defScope (top 57), [], []⟩
def D49 : He.DefD := ⟨("law", none), "law", "law", defArgs (top 58), defBody (top 58), defScope (top 58), [], []⟩
def fn : List He.DefD := ([D0, D1, D2, D3, D4, D5, D6, D7, D8, D9, D10, D11, D12, D13, D14, D15, D16, D17, D18, D19, D20, D21, D22, D23, D24, D25, D26, D27, D28, D29] : List He.DefD) ++ ([D30, D31, D32, D33, D34, D35, D36, D37, D38, D39, D40, D41, D42, D43, D44, D45, D46, D47, D48, D49] : List He.DefD)
def fa : List He.Fa := ([.glo "is_whole", .glo "is_within", .glo "is_tuple", .glo "is_fraction", .glo "is_from_nought", .glo "is_row", .glo "are_odds", .glo "ratio", .glo "dot", .glo "total", .glo "is_house", .glo "is_frame", .glo "is_stand_frame", .glo "all_ways", .glo "are_chances", .glo "is_start", .glo "weighted", .glo "weighed", .glo "check_house", .glo "check_weights", .glo "_law_spring", .glo "_law_pick", .glo "_law_any_of", .glo "_law_frac", .glo "_law_plus", .glo "_law_times", .glo "_law_total", .glo "_law_dot", .glo "_law_part", .glo "_law_gains"] : List He.Fa) ++ ([.glo "_law_parts", .glo "_law_chances", .glo "_law_odds", .glo "_law_sized", .glo "_law_world", .glo "_law_dressed", .glo "_law_is_whole", .glo "_law_is_tuple", .glo "_law_is_frac", .glo "_law_is_row", .glo "_law_is_odds", .glo "_law_is_deed", .glo "_law_is_world", .glo "_law_odd", .glo "_law_twice", .glo "_law_bent", .glo "_law_maybe", .glo "_law_edge", .glo "_law_right", .glo "law", .glo "ONE"] : List He.Fa) ++ blts.map He.Fa.free
def ex (K : PySem.W.Frag) : Bool := DH.tupD K "ONE" [.int 1, .int 1] && (He.eqO (PySem.W.nsIn K mainGlobals "gcd") (some (some (.builtin "math.gcd"))))
def loose : List Str := (["__name__", "HouseError", "InvalidHouse", "InvalidWeights", "ONE", "is_whole", "is_within", "is_tuple", "is_fraction", "is_from_nought", "is_row", "are_odds", "ratio", "dot", "total", "is_house", "is_frame", "is_stand_frame", "all_ways", "are_chances", "is_start", "weighted", "weighed", "check_house", "check_weights", "_law_spring", "_law_pick", "_law_any_of", "_law_frac", "_law_plus"] : List Str) ++ (["_law_times", "_law_total", "_law_dot", "_law_part", "_law_gains", "_law_parts", "_law_chances", "_law_odds", "_law_sized", "_law_world", "_law_dressed", "_law_is_whole", "_law_is_tuple", "_law_is_frac", "_law_is_row", "_law_is_odds", "_law_is_deed", "_law_is_world", "_law_odd", "_law_twice", "_law_bent", "_law_maybe", "_law_edge", "_law_right"] : List Str)
abbrev R : PySem.W.OpenRow := PySem.W.OpenLaw.row PySem.Challenge.rw_deedhouses_k02_houses_starts_and_weighte
abbrev hk : PySem.W.Hook := He.hookX 4 fa fn [] [] ex
def ob (s : PySem.W.SharedT) : He.AlX := He.obsX 4 fa fn [] [] ex (HandSHeadRun.getT s)
theorem getT_all (s : PySem.W.SharedT) : ∀ a, HandSHeadRun.getT s a = s.abs.heap.get? a := HandSHeadRun.getT_eq s
theorem ob_eq (s : PySem.W.SharedT) : ob s = hk.obs s.abs := He.obsX_eq (getT_all s)
theorem runA (w : World) : Option.map (fun x => HandSHeadRun.looksF R.prog x.fst.heap x.snd.abs) (HandSHeadRun.wholeF (fun p => HandSHeadRun.stepQ (HandSHeadRun.denQ HandSHeadRun.tabQ) p w) HandSHeadRun.fenceQ 9000 R.prog) = some true := by
  kernel_rfl
theorem runB (w : World) : Option.map (fun x => HandSHeadRun.seenQ (PySem.W.view R.prog [0, 58]) loose (importedModules R.prog.main.body) (fun s => W.xlAt (PySem.W.view R.prog [0, 58]) [] s && W.recOk R.records s) x.snd.abs) (HandSHeadRun.wholeF (fun p => HandSHeadRun.stepQ (HandSHeadRun.denQ HandSHeadRun.tabQ) p w) HandSHeadRun.fenceQ 9000 R.prog) = some (W.openGood (PySem.W.view R.prog [0, 58]) loose) := by
  kernel_rfl
theorem runC (w : World) : Option.map (fun x => ob x.snd) (HandSHeadRun.wholeF (fun p => HandSHeadRun.stepQ (HandSHeadRun.denQ HandSHeadRun.tabQ) p w) HandSHeadRun.fenceQ 9000 R.prog) = some (hk.val w) := by
  kernel_rfl
theorem run (w : World) : HandSHeadRun.RunEqI R (PySem.W.view R.prog [0, 58]) hk ob 9000 loose w := by
  have a := runA w
  have b := runB w
  have c := runC w
  unfold HandSHeadRun.RunEqI
  generalize HandSHeadRun.wholeF (fun p => HandSHeadRun.stepQ (HandSHeadRun.denQ HandSHeadRun.tabQ) p w) HandSHeadRun.fenceQ 9000 R.prog = o at a b c ⊢
  cases o with
  | none => cases a
  | some x =>
    rw [Option.map_some] at a b c ⊢
    rw [Option.some.inj a, Option.some.inj b, Option.some.inj c]
end Kt

/-! P1 -/
set_option Elab.async false
set_option linter.all false
set_option maxRecDepth 100000
set_option maxHeartbeats 4000000
/-! pure data over the layer: how a datum lies in the heap; what is walked -/
namespace DH
open PySem PySem.Spec PyProof.Rows L2
abbrev D := PyData
def kD : Key → D
  | .inl i => .int i
  | .inr x => .str x
/-! ### lists that were there ahead: written down, or of the known heap -/
def SqF (K : PySem.W.Frag) (H : Hp) (a : Addr) (vs : List V) : Prop := (∃ o, H a = some (.frz o (.lst vs))) ∨ ∃ (its : Array Value) (n : Nat), K.lookup a = some { cls := .type "list", data := .seq its n } ∧ its.size ≤ sizeLine ∧ Vals vs its.toList
def SqE (K : PySem.W.Frag) (H : Hp) (a : Addr) (vs : List V) : Prop := H a = some (.lst vs) ∨ SqF K H a vs
theorem SqE.l {K : PySem.W.Frag} {H : Hp} {a : Addr} {vs : List V} (h : SqE K H a vs) : SqL K H a vs := by
  rcases h with h | h | ⟨its, n, h, z, r⟩
  · exact .inl (.inl h)
  · exact .inl (.inr h)
  · exact .inr ⟨_, its, n, h, rfl, rfl, rfl, z, r⟩
theorem inv_lstE {X : Cx} {pins : List (Addr × Obj)} {σ : L2.St} {H : Hp} {s : Shared} {a : Addr} {vs : List V} (I : Inv X pins σ H s) (h : SqE X.K H a vs) : vs.length ≤ sizeLine ∧ ∃ (its : List Value) (n : Nat), Vals vs its ∧ vs.length = its.length ∧ s.heap.get? a = some { cls := .type "list", data := .seq its.toArray n } := by
  rcases h with h | ⟨o, h⟩ | ⟨its, n, h, z, r⟩
  · exact I.lstM h
  · obtain ⟨z, its, n, r, e⟩ := (show ObjOk X.prog X.w H s.heap a (.lst vs) from Rd.ok (.inr ⟨o, h⟩) I.hok)
    exact ⟨z, its, n, r, r.length, e⟩
  · have e := r.length
    have e2 : vs.length = its.size := by simpa using e
    exact ⟨by rw [e2]; exact z, its.toList, n, r, e, I.kIn a _ h⟩
theorem sqF_keep {K : PySem.W.Frag} {H H' : Hp} {a : Addr} {vs : List V} (k : ∀ b o, H b = some o → (∀ xs, o ≠ .lst xs) → H' b = some o) (h : SqF K H a vs) : SqF K H' a vs := by
  rcases h with ⟨o, h⟩ | h
  · exact .inl ⟨o, k _ _ h fun xs z => by cases z⟩
  · exact .inr h
/-! ### tuples that have no attributes of their own -/
def SqD (K : PySem.W.Frag) (H : Hp) (a : Addr) (vs : List V) : Prop :=
  (∃ o, H a = some (.frz o (.tup vs)) ∧ o.dict = none) ∨
  ∃ (o : Obj) (its : Array Value) (n : Nat), K.lookup a = some o ∧ o.cls = .type "tuple" ∧ o.dict = none ∧ o.data = .seq its n ∧ its.size ≤ sizeLine ∧ Vals vs its.toList
theorem SqD.t {K : PySem.W.Frag} {H : Hp} {a : Addr} {vs : List V} (h : SqD K H a vs) : SqT K H a vs := by
  rcases h with ⟨o, h, _⟩ | ⟨o, its, n, h1, h2, _, h3, h4, h5⟩
  · exact .inl (.inr ⟨o, h⟩)
  · exact .inr ⟨o, its, n, h1, h2, h3, h4, h5⟩
theorem inv_tupD {X : Cx} {pins : List (Addr × Obj)} {σ : L2.St} {H : Hp} {s : Shared} {a : Addr} {vs : List V} (I : Inv X pins σ H s) (h : SqD X.K H a vs) :
    vs.length ≤ sizeLine ∧ ∃ (its : List Value) (ob : Obj) (n : Nat), Vals vs its ∧ s.heap.get? a = some ob ∧ ob.cls = .type "tuple" ∧ ob.dict = none ∧ ob.data = .seq its.toArray n := by
  rcases h with ⟨o, h, hd⟩ | ⟨o, its, n, h1, h2, h3, h4, h5, h6⟩
  · obtain ⟨e, z, its, r, o', e', c, n, d⟩ := I.hok a _ h
    rw [e] at e'
    cases e'
    exact ⟨z, its, o, n, r, e, c, hd, d⟩
  · have e := h6.length
    simp only [Array.length_toList] at e
    exact ⟨by omega, its.toList, o, n, h6, I.kIn a o h1, h2, h3, by simpa using h4⟩
/-- what is wanted of a new tuple -/
def NewT (H : Hp) (ys : List V) (Q : VK) : Prop := ∀ (p : Addr) (o : Obj), o.dict = none → H p = none → Q (.ref p) (upd H p (.frz o (.tup ys)))
theorem NewT.here {X : Cx} {pins : List (Addr × Obj)} {σ : L2.St} {H : Hp} {s : Shared} {ys : List V} {its : List Value} {t' : Nat} {Q : VK} (I : Inv X pins σ H s) (r : Vals ys its) (z : ys.length ≤ sizeLine) (q : NewT H ys Q) :
    EP X pins σ Q (.ref s.heap.objs.size) { s with heap := s.heap.push { cls := .type "tuple", data := .seq its.toArray }, toks := t' } :=
  ⟨.ref _, _, I.laid (o := .frz { cls := .type "tuple", data := .seq its.toArray } (.tup ys)) (fun _ _ e => Heap.get?_push_of_some _ e) (Nat.le_refl _) ⟨Heap.get?_push_size _ rfl, z, its, r, IsTup.new _ _⟩, rfl, q _ _ rfl I.fresh⟩
section
variable {X : Cx}
theorem pe_tupD {xs : List Expr} {n : Nat} {pos : Pos} {t : TA} (h : PA X xs t) : PE X (.Tuple xs n pos) (fun σ H Q => t σ H fun ys H1 => ys.length ≤ sizeLine ∧ NewT H1 ys Q) :=
  ⟨fun pins s σ H Q I hq => wpAny_Tuple_spliced (thn (h.run pos pins s σ H _ I hq) fun us s1 ⟨ys, H1, I1, r, z, q⟩ => ⟨by rw [← r.length]; exact z, NewT.here (t' := s1.toks) I1 r z q⟩)⟩
theorem op_catD : OpR X (binaryOp .Add) (fun x y H Q => ∃ a b xs ys, x = .ref a ∧ y = .ref b ∧ SqT X.K H a xs ∧ SqT X.K H b ys ∧ xs.length + ys.length ≤ sizeLine ∧
    (xs = [] → Q (.ref b) H) ∧ (xs ≠ [] → ys = [] → Q (.ref a) H) ∧ (xs ≠ [] → ys ≠ [] → NewT H (xs ++ ys) Q)) := by
  rintro pins s σ H _ _ v u Q I rx ry ⟨a, b, xs, ys, rfl, rfl, ha, hb, hz, q0, q1, q2⟩
  cases rx
  cases ry
  obtain ⟨is, ra, pa, _⟩ := I.tuple ha
  obtain ⟨js, rb, pb, _⟩ := I.tuple hb
  by_cases hx : xs = []
  · subst hx
    cases ra
    exact cat_tup0 pa pb ⟨.ref b, H, I, rfl, q0 rfl⟩
  · exact HT.cat_tup pa pb (fun z => hx (ra.nil_iff.mp z)) (fun z => ⟨.ref a, H, I, rfl, q1 hx (rb.nil_iff.mp z)⟩) (fun z => NewT.here (t' := s.toks) I (ra.append rb) (by rw [List.length_append]; exact hz) (q2 hx fun w => z (rb.nil_iff.mpr w))) (by rw [← ra.length, ← rb.length]; exact hz)
theorem sl_tupD : SlR X (fun x lo hi H Q => ∃ a xs, x = .ref a ∧ SqT X.K H a xs ∧ (HT.sIx xs.length 0 lo = 0 ∧ HT.sIx xs.length xs.length hi = xs.length → Q (.ref a) H) ∧
    (¬ (HT.sIx xs.length 0 lo = 0 ∧ HT.sIx xs.length xs.length hi = xs.length) → NewT H (cutV xs lo hi) Q)) := by
  rintro pins s σ H _ v vl vu lo hi sl Q I rx hs pl pu ⟨a, xs, rfl, hx, q1, q2⟩
  cases rx
  obtain ⟨its, r, ht, hz⟩ := I.tuple hx
  have hl : its.toArray.size = xs.length := by rw [List.size_toArray, r.length]
  refine ⟨"tuple", _, PyProof.Rows.slot_tuple_getitem.lookup, ht.typeIs, ?_⟩
  by_cases hw : HT.sIx xs.length 0 lo = 0 ∧ HT.sIx xs.length xs.length hi = xs.length
  · exact getItem_tuple_whole ht hs pl pu (by rw [hl]; exact hw) ⟨.ref a, H, I, rfl, q1 hw⟩
  · refine HT.getItem_tuple_cut ht hs pl pu (by rw [hl]; exact hw) ?_ (by rw [hl]; exact hz)
    rw [hl]
    exact NewT.here (t' := s.toks) I ((r.drop (HT.sIx xs.length 0 lo)).take (HT.sIx xs.length xs.length hi - HT.sIx xs.length 0 lo)) (Nat.le_trans (cutV_length xs lo hi) hz) (q2 hw)
theorem call_tupleD : CallR X (.type "tuple") (fun xs H Q => ∃ p ys, xs = [.ref p] ∧ ((SqL X.K H p ys ∧ NewT H ys Q) ∨ (SqT X.K H p ys ∧ Q (.ref p) H))) := by
  rintro pins s σ H _ us Q I r ⟨p, ys, rfl, h⟩
  obtain ⟨u, rfl, rx⟩ := vals1 r
  cases rx
  rcases h with ⟨hq, q⟩ | ⟨hq, q⟩
  · obtain ⟨its, rv, pl, hz⟩ := I.list hq
    refine call_tuple_list pl.isList (fun h' kp => ?_) (by have := rv.length; simp only [List.size_toArray]; omega)
    exact NewT.here (t' := s.toks) (I.kept (t' := s.toks) kp) rv hz q
  · obtain ⟨its, rv, pl, hz⟩ := I.tuple hq
    exact call_tuple_same pl ⟨.ref p, H, I, rfl, q⟩
/-- t so many times -/
theorem tup_mul_one (l : Addr) (items : Array Value) (n : Nat) (sl : Array (Option Value)) (u : Tok) : Meets (Builtin.«tuple.__mul__» ⟨[.ref l, .int 1 u], []⟩)
    (fun _ R s => s.heap.get? l = some { cls := .type "tuple", dict := none, data := .seq items n, slots := sl } ∧ R (.ok (.ret (.ref l))) s) :=
  .of_wp fun prog w A R s h => by
    obtain ⟨hp, g, d, tk, os⟩ := s
    obtain ⟨hl, q⟩ := h
    have f1 := AutoSeq1.idx_int
    wp_walk using wpAny_loadPart' hl
    exact ⟨_, rfl, q⟩
theorem op_repD : OpR X (binaryOp .Mult) (fun x y H Q => ∃ l k xs, x = .ref l ∧ y = .int k ∧ SqD X.K H l xs ∧ xs ≠ [] ∧ 1 ≤ k ∧ k ≤ 1000 ∧ xs.length ≤ 1000 ∧ (k = 1 → Q (.ref l) H) ∧ (2 ≤ k → NewT H (List.replicate k.toNat xs).flatten Q)) := by
  rintro pins s σ H _ _ v u Q I rx ry ⟨l, k, xs, rfl, rfl, hT, hne, h1, h2, hz, q1, q2⟩
  cases rx
  obtain ⟨t, rfl⟩ := ry
  obtain ⟨_, its, ⟨cls, dd, data, sl⟩, n, r, ho, hc, hdn, hd⟩ := inv_tupD I hT
  simp only at hc hd hdn
  subst hc hd hdn
  have hl : its.length = xs.length := r.length.symm
  have hi : its.toArray.isEmpty = false := by
    cases its with
    | nil => exact absurd (List.eq_nil_of_length_eq_zero hl.symm) hne
    | cons a b => rfl
  have run : ∀ {Q' : Value → Shared → Prop}, wpAny (model X.prog X.w) X.A (call (.builtin "tuple.__mul__") [.ref l, .int k t]) Q' X.xe s → wpAny (model X.prog X.w) X.A (binaryOp .Mult (.ref l) (.int k t)) Q' X.xe s := fun hq =>
    wpAny_binaryOp_repeat_ref (T := "tuple") (U := "int") (by decide) ⟨_, ho, rfl⟩ (fun s' => typeIs_int s' k t) noFill_tuple_mul F.fills_int_mul F.slot_int_rmul repeat_tuple F.slot_int_index.lookup
      (call_meets F.slot_int_rmul (typeIs_int s k t) F.entry_int_rmul (F.args_int_rmul_2 _ _) (int_rmul_tuple k t l its.toArray n none sl) ⟨ho, rfl, ⟨_, ho, rfl⟩, hq⟩)
  by_cases hk : k = 1
  · subst hk
    exact run (call_meets F.slot_tuple_mul ⟨_, ho, rfl⟩ F.entry_tuple_mul (F.args_tuple_mul_2 _ _) (tup_mul_one l its.toArray n sl t) ⟨ho, ⟨.ref l, H, I, rfl, q1 rfl⟩⟩)
  · have hz0 : its.toArray.size = xs.length := by rw [List.size_toArray, hl]
    have a1 : ((xs.length : Nat) : Int) * k ≤ 1000 * k := Int.mul_le_mul_of_nonneg_right (by omega) (by omega)
    have a2 : k.toNat * xs.length ≤ 1000 * 1000 := Nat.mul_le_mul (by omega) hz
    have fl : (List.replicate k.toNat its).flatten.length ≤ sizeLine := by
      rw [PyProof.Rows.lm_len_rep_flat, hl, sizeLine_eq]
      omega
    refine run (call_meets F.slot_tuple_mul ⟨_, ho, rfl⟩ F.entry_tuple_mul (F.args_tuple_mul_2 _ _) (tuple_mulW l its.toArray n none sl k t (by rw [decide_eq_false (by omega), decide_eq_false (by omega)] <;> rfl)
      (by rw [hi, Bool.false_or]; exact beq_eq_false_iff_ne.mpr hk) (by rw [hi, Bool.or_false]; exact decide_eq_false (by omega)) (by rw [hz0]; omega) (by unfold Builtin.Tuple.tupleTooMany; rw [sizeLine_eq, hz0]; exact decide_eq_false (by omega)) (by rw [size_rep, List.size_toArray]; exact fl)) ⟨ho, ?_⟩)
    rw [size_rep]
    exact NewT.here (t' := s.toks) I (r.rep k.toNat) (by rw [PyProof.Rows.lm_len_rep_flat, sizeLine_eq]; omega) (q2 (by omega))
end
/-! ### methods of tuples and lists -/
section
variable {X : Cx} {o e : Expr} {es : List Expr} {to : TE} {t : TA} {name : Str} {apos cpos : Pos} {id : String} {r : V → List V → Hp → VK → Prop}
theorem pe_bmT (slot : Slot "tuple" name id) (hty : typeOf (.builtin id) = pure (.type "method_descriptor")) (hm : MtR X id r) (ho : PE X o to) (ha : PA X (e :: es) t)
    (hbase : attributeBase o name X.env (eval o X.env) = eval o X.env)
    (hfew : ((backTo cpos (starEach (e :: es) X.env)).all (fun x => !x.1) && (backToKw cpos (keywordEach [] X.env)).all (fun x => x.1.isSome) && decide ((e :: es).length + ([] : List Keyword).length + (if ([] : List Keyword).isEmpty then 0 else 1) < 30)) = true)
    (hline : (apos.endLine == cpos.line) = true) (hs : starEach (e :: es) X.env = (false, eval e X.env) :: starEach es X.env) (hplain : (backTo cpos (starEach es X.env)).any (·.1) = false) :
    PE X (.Call (.Attribute o name apos) (e :: es) [] cpos) (fun σ H Q => to σ H fun x H1 => (∃ a vs, x = .ref a ∧ SqD X.K H1 a vs) ∧ t σ H1 fun xs H2 => r x xs H2 Q) := by
  refine ⟨fun pins s σ H Q I h => wpAny_Call_method_late hbase hfew hline rfl (thn (ho.run pins s σ H _ I h) fun v s1 ⟨x, H1, I1, rx, ⟨a, vs, ex, hd⟩, q1⟩ => ?_)⟩
  subst ex
  cases rx
  obtain ⟨_, its, ob, n, _, eo, hc, hn, _⟩ := inv_tupD I1 hd
  refine ⟨"tuple", id, PySem.F.plainAttrs_tuple, slot, hty, ⟨ob, eo, hc⟩, fun b eb => by cases eb; exact ⟨ob, eo, hn⟩, ?_⟩
  have hA := ha.run cpos pins s1 σ H1 _ I1 q1
  rw [hs] at hA ⊢
  refine Calls.callWith_builtin (by show (false || (backTo cpos (starEach es X.env)).any (·.1)) = false; rw [hplain] <;> rfl) (Calls.evalArgs_plain (thn hA fun us s2 ⟨vs', H2, I2, r2, q2⟩ => hm pins s2 σ H2 (.ref a) vs' _ us Q I2 rfl r2 q2))
/-- the reading of x and of all items of a sequence -/
theorem mt_tcount (hu : X.A.units + 65 < cLine) : MtR X "tuple.count" (fun x xs H Q => ∃ (a : Addr) (y : V) (d : PyData) (ds : List PyData), x = .ref a ∧ xs = [y] ∧ Dp X.K H (.ref a) (.tuple ds) ∧ Dp X.K H y d ∧ SeqAt.shaped (.tuple ds) = true ∧ SeqAt.shaped d = true ∧
    Q (.int ((ds.countP fun z => PyData.eqv z d : Nat) : Int)) H) := by
  rintro pins s σ H _ _ v us Q I rx rxs ⟨a, y, d, ds, rfl, rfl, hl, hy, sl, sd, q⟩
  cases rx
  obtain ⟨uy, rfl, ry⟩ := vals1 rxs
  obtain ⟨bs, r1⟩ := Dp.reads I d y uy hy ry
  have hxs : PyData.canLayAll0 ds = true := SeqAt.canLay_of_shaped sl
  have hr : X.A.units + 1 + min (PyData.depthAll ds) d.depth < cLine := room_in_shaped sd hu
  cases hl with
  | tup hs ha =>
    obtain ⟨its, rv, ⟨⟨cls, dd, data, sls⟩, ho, hc, n, hd⟩, hz⟩ := I.tuple hs
    simp only at hc hd
    subst hc hd
    obtain ⟨as, h4⟩ := Dp.readsAll I ds _ its ha rv
    refine call_meets PySem.F.slot_tuple_count ⟨_, ho, rfl⟩ PySem.F.entry_tuple_count (PySem.F.args_tuple_count_2 _ _) (SeqAt.tuple_countAt a its.toArray n dd sls uy fun u => PyData.eqv (SeqAt.readOf s.heap u) d) ⟨ho, SeqAt.items_eqAt (vs := its.toArray) h4 r1 hxs (SeqAt.canLay_of_shaped sd) hr, ?_⟩
    rw [← SeqAt.readsAll_map ds its as hxs h4, List.countP_map] at q
    exact ⟨.int _, H, I.tok _, ⟨_, rfl⟩, q⟩
theorem mt_lcount (hu : X.A.units + 65 < cLine) : MtR X "list.count" (fun x xs H Q => ∃ (a : Addr) (y : V) (d : PyData) (ds : List PyData), x = .ref a ∧ xs = [y] ∧ Dp X.K H (.ref a) (.list ds) ∧ Dp X.K H y d ∧ SeqAt.shaped (.list ds) = true ∧ SeqAt.shaped d = true ∧
    Q (.int ((ds.countP fun z => PyData.eqv z d : Nat) : Int)) H) := by
  rintro pins s σ H _ _ v us Q I rx rxs ⟨a, y, d, ds, rfl, rfl, hl, hy, sl, sd, q⟩
  cases rx
  obtain ⟨uy, rfl, ry⟩ := vals1 rxs
  obtain ⟨bs, r1⟩ := Dp.reads I d y uy hy ry
  have hxs : PyData.canLayAll0 ds = true := SeqAt.canLay_of_shaped sl
  have hr : X.A.units + 1 + min (PyData.depthAll ds) d.depth < cLine := room_in_shaped sd hu
  cases hl with
  | lst hs ha =>
    obtain ⟨its, rv, ⟨⟨cls, dd, data, sls⟩, n, ho, hc, hdn, hd⟩, hz⟩ := I.list hs
    simp only at hc hd
    subst hc hd
    obtain ⟨as, h4⟩ := Dp.readsAll I ds _ its ha rv
    refine call_meets PySem.F.slot_list_count ⟨_, ho, rfl⟩ PySem.F.entry_list_count (PySem.F.args_list_count_2 _ _) (SeqAt.list_countAt a its.toArray n dd sls uy fun u => PyData.eqv (SeqAt.readOf s.heap u) d) ⟨ho, SeqAt.items_eqAt (vs := its.toArray) h4 r1 hxs (SeqAt.canLay_of_shaped sd) hr, ?_⟩
    rw [← SeqAt.readsAll_map ds its as hxs h4, List.countP_map] at q
    exact ⟨.int _, H, I.tok _, ⟨_, rfl⟩, q⟩
theorem mt_tindex (hu : X.A.units + 65 < cLine) : MtR X "tuple.index" (fun x xs H Q => ∃ (a : Addr) (y : V) (d : PyData) (ds : List PyData) (j : Nat) (z : PyData), x = .ref a ∧ xs = [y] ∧ Dp X.K H (.ref a) (.tuple ds) ∧ Dp X.K H y d ∧ SeqAt.shaped (.tuple ds) = true ∧ SeqAt.shaped d = true ∧
    ds[j]? = some z ∧ PyData.eqv z d = true ∧ (∀ (m : Nat) (z' : PyData), m < j → ds[m]? = some z' → PyData.eqv z' d = false) ∧ Q (.int (j : Nat)) H) := by
  rintro pins s σ H _ _ v us Q I rx rxs ⟨a, y, d, ds, j, z, rfl, rfl, hl, hy, sl, sd, hz, hj, hno, q⟩
  cases rx
  obtain ⟨uy, rfl, ry⟩ := vals1 rxs
  obtain ⟨bs, r1⟩ := Dp.reads I d y uy hy ry
  have hxs : PyData.canLayAll0 ds = true := SeqAt.canLay_of_shaped sl
  have hr : X.A.units + 1 + min (PyData.depthAll ds) d.depth < cLine := room_in_shaped sd hu
  cases hl with
  | tup hs ha =>
    obtain ⟨its, rv, ⟨⟨cls, dd, data, sls⟩, ho, hc, n, hd⟩, hz'⟩ := I.tuple hs
    simp only at hc hd
    subst hc hd
    obtain ⟨as, h4⟩ := Dp.readsAll I ds _ its ha rv
    have hm : its.map (SeqAt.readOf s.heap) = ds := SeqAt.readsAll_map ds its as hxs h4
    have hln : its.length = ds.length := by rw [← hm, List.length_map]
    have ea : ∀ (m : Nat) (h : m < its.toArray.size) (w : PyData), ds[m]? = some w → SeqAt.readOf s.heap its.toArray[m] = w := fun m h w e => by
      rw [← hm, List.getElem?_map, List.getElem?_eq_getElem (by simpa using h)] at e
      simpa using e
    have hjl : j < its.toArray.size := by
      have := (List.getElem?_eq_some_iff.mp hz).1
      simpa [hln] using this
    refine call_meets PySem.F.slot_tuple_index ⟨_, ho, rfl⟩ PySem.F.entry_tuple_index (PySem.F.args_tuple_index_2 _ _) (TI.tuple_indexAt a its.toArray n dd sls uy (fun u => PyData.eqv (SeqAt.readOf s.heap u) d) j hjl (by rw [ea j hjl z hz]; exact hj) (fun m h hmj => ?_))
      ⟨ho, SeqAt.items_eqAt (vs := its.toArray) h4 r1 hxs (SeqAt.canLay_of_shaped sd) hr, ⟨.int (j : Nat), H, I.tok _, ⟨_, rfl⟩, q⟩⟩
    have e := List.getElem?_eq_getElem (l := ds) (i := m) (by rw [← hln]; simpa using h)
    show PyData.eqv (SeqAt.readOf s.heap its.toArray[m]) d = false
    rw [ea m h _ e]
    exact hno m _ hmj e
/-! ### dict(t) of a tuple of pairs -/
theorem put_new {k : Key} {v : V} {kvs : List (Key × V)} (h : k ∉ kvs.map (·.1)) : putK kvs k v = kvs ++ [(k, v)] := by
  unfold putK
  rw [if_neg]
  intro z
  obtain ⟨q, hq, e⟩ := List.any_eq_true.mp z
  exact h (List.mem_map.mpr ⟨q, hq, of_decide_eq_true e⟩)
theorem merge_new : ∀ {more kvs : List (Key × V)}, (kvs.map (·.1) ++ more.map (·.1)).Nodup → mergeK kvs more = kvs ++ more
  | [], kvs, _ => (List.append_nil kvs).symm
  | (k, v) :: more, kvs, h => by
    have hk : k ∉ kvs.map (·.1) := fun z => by
      rw [List.map_cons, List.nodup_append] at h
      exact h.2.2 k z k (List.mem_cons_self ..) rfl
    show mergeK (putK kvs k v) more = _
    rw [put_new hk, merge_new (by simpa using h), List.append_assoc]
    rfl
theorem pairs_vs {pins : List (Addr × Obj)} {σ : L2.St} {H : Hp} {s : Shared} (I : Inv X pins σ H s) : ∀ {ps : List Addr} {kvs : List (Key × V)}, Paired (fun p kv => SqT X.K H p [kV kv.1, kv.2]) ps kvs →
    ∃ (vps : List (Value × Value)) (prs : List (Key × Value)), KV kvs prs ∧ prs.length = ps.length ∧ vps.length = ps.length ∧ ∀ (j : Nat) (k v : Value), vps[j]? = some (k, v) → ∃ (b : Addr) (q : Key), ps[j]? = some b ∧ prs[j]? = some (q, v) ∧ IsTup s.heap b #[k, v] ∧ keyIs q k = true
  | _, _, .nil => ⟨[], [], .nil, rfl, rfl, fun j k v e => by simp at e⟩
  | _, _, .cons (a := p) (b := kv) h t => by
    obtain ⟨vps, prs, r, l1, l2, f⟩ := pairs_vs I t
    obtain ⟨its, rv, ht, _⟩ := I.tuple h
    obtain ⟨u, y, rfl, ru, ry⟩ := vals2 rv
    refine ⟨(u, y) :: vps, (kv.1, y) :: prs, .cons ⟨rfl, ry⟩ r, by simp [l1], by simp [l2], fun j k v e => ?_⟩
    cases j with
    | zero =>
      cases (show some (u, y) = some (k, v) from e)
      exact ⟨p, kv.1, rfl, rfl, ht, kV_is (P := X.prog) (w := X.w) ru⟩
    | succ j =>
      obtain ⟨b, q, e1, e2, e3⟩ := f j k v (by simpa using e)
      exact ⟨b, q, by simpa using e1, by simpa using e2, e3⟩
theorem call_dictT (hc : X.calm = true) : CallR X (.type "dict") (fun xs H Q => ∃ (a : Addr) (ps : List Addr) (kvs : List (Key × V)), xs = [.ref a] ∧ SqD X.K H a (ps.map V.ref) ∧ Paired (fun p kv => SqT X.K H p [kV kv.1, kv.2]) ps kvs ∧ (kvs.map (·.1)).Nodup ∧
    ∀ p, H p = none → Q (.ref p) (upd H p (.dK kvs))) := by
  rintro pins s σ H _ us Q I r ⟨a, ps, kvs, rfl, hq, hp, nd, q⟩
  obtain ⟨u, rfl, rx⟩ := vals1 r
  cases rx
  obtain ⟨hz, its, ob, n, rv, eo, ec, en, ed⟩ := inv_tupD I hq
  obtain rfl := refs_at rv
  rw [List.length_map] at hz
  obtain ⟨vps, prs, rel, l1, l2, f⟩ := pairs_vs I hp
  have hm : (s.heap.objs.size == sysModules) = false := beq_eq_false_iff_ne.mpr (Nat.ne_of_gt I.big)
  have ek : mergeK [] kvs = kvs := (merge_new (kvs := []) (by simpa using nd)).trans (List.nil_append _)
  have kv2 : KV kvs (merged [] prs) := by
    have := KV.merge rel (kvs := []) (vs := []) .nil
    rwa [ek] at this
  refine PySem.call_dict_pairs (knd := mixKind X.prog X.w) (kvs := prs) (PairArg.tuple (prog := X.prog) (w := X.w) a (ps.map Value.ref).toArray (fun j => ps.getD j 0) vps) (I.ok.hd hc) ⟨⟨ob, n, eo, ec, en, ed⟩, by simp [l2], fun j k v e => ?_⟩ ⟨by rw [l1, l2], fun i key v e => ?_⟩ (by rw [l2]; exact hz) fun h' tk hd' k => ?_
  · obtain ⟨b, q, e1, e2, ⟨o, h1, h2, m, h3⟩, e4⟩ := f j k v e
    refine ⟨?_, .inl ⟨o, ?_, h2, m, h3⟩⟩
    · simp [List.getD_eq_getElem?_getD, e1]
    · simpa [List.getD_eq_getElem?_getD, e1] using h1
  · obtain ⟨b, q, e1, e2, e3, e4⟩ := f i key v e
    exact ⟨q, e2, e4⟩
  · refine ⟨.ref s.heap.objs.size, upd H s.heap.objs.size (.dK kvs), I.laid (t' := tk) (fun b o e => k b o (fun z => by cases z) e) (Nat.le_refl _) (show ObjOk X.prog X.w _ _ _ (.dK kvs) from ⟨?_, hm, merged [] prs, kv2, hd'⟩), rfl, q _ I.fresh⟩
    rw [rel.length, l1]
    exact hz
end
/-! ### data in the heap; M: the addresses of lists that may still change -/
mutual
inductive Rp (K : PySem.W.Frag) (M : Addr → Prop) (H : Hp) : D → V → Prop
  | non : Rp K M H .none .non
  | bl (b : Bool) : Rp K M H (.bool b) (.bl b)
  | int (i : Int) : Rp K M H (.int i) (.int i)
  | str (x : Str) : Rp K M H (.str x) (.str x)
  | lst {a : Addr} {vs : List V} {ds : List D} (h : H a = some (.lst vs)) (m : ¬ M a) (z : vs.length ≤ sizeLine) (r : RpL K M H ds vs) : Rp K M H (.list ds) (.ref a)
  | lsf {a : Addr} {vs : List V} {ds : List D} (h : SqF K H a vs) (z : vs.length ≤ sizeLine) (r : RpL K M H ds vs) : Rp K M H (.list ds) (.ref a)
  | tup {a : Addr} {vs : List V} {ds : List D} (h : SqD K H a vs) (z : vs.length ≤ sizeLine) (r : RpL K M H ds vs) : Rp K M H (.tuple ds) (.ref a)
  | dic {a : Addr} {kvs : List (Key × V)} {es : List (Key × D)} (h : H a = some (.dK kvs)) (e : es.map (·.1) = kvs.map (·.1)) (r : RpL K M H (es.map (·.2)) (kvs.map (·.2))) : Rp K M H (.dict (es.map fun p => (kD p.1, p.2))) (.ref a)
inductive RpL (K : PySem.W.Frag) (M : Addr → Prop) (H : Hp) : List D → List V → Prop
  | nil : RpL K M H [] []
  | cons {d : D} {v : V} {ds : List D} {vs : List V} (h : Rp K M H d v) (t : RpL K M H ds vs) : RpL K M H (d :: ds) (v :: vs)
end
section
variable {K : PySem.W.Frag} {M M' : Addr → Prop} {H H' : Hp}
mutual
theorem Rp.mono (hl : ∀ a vs, ¬ M a → H a = some (.lst vs) → H' a = some (.lst vs) ∧ ¬ M' a) (ht : ∀ a vs, SqD K H a vs → SqD K H' a vs) (hf : ∀ a vs, SqF K H a vs → SqF K H' a vs) (hd : ∀ a kvs, H a = some (.dK kvs) → H' a = some (.dK kvs)) :
    ∀ {d : D} {v : V}, Rp K M H d v → Rp K M' H' d v
  | _, _, .non => .non
  | _, _, .bl b => .bl b
  | _, _, .int i => .int i
  | _, _, .str x => .str x
  | _, _, .lst h m z r => .lst (hl _ _ m h).1 (hl _ _ m h).2 z (RpL.mono hl ht hf hd r)
  | _, _, .lsf h z r => .lsf (hf _ _ h) z (RpL.mono hl ht hf hd r)
  | _, _, .tup h z r => .tup (ht _ _ h) z (RpL.mono hl ht hf hd r)
  | _, _, .dic h e r => .dic (hd _ _ h) e (RpL.mono hl ht hf hd r)
theorem RpL.mono (hl : ∀ a vs, ¬ M a → H a = some (.lst vs) → H' a = some (.lst vs) ∧ ¬ M' a) (ht : ∀ a vs, SqD K H a vs → SqD K H' a vs) (hf : ∀ a vs, SqF K H a vs → SqF K H' a vs) (hd : ∀ a kvs, H a = some (.dK kvs) → H' a = some (.dK kvs)) :
    ∀ {ds : List D} {vs : List V}, RpL K M H ds vs → RpL K M' H' ds vs
  | _, _, .nil => .nil
  | _, _, .cons h t => .cons (Rp.mono hl ht hf hd h) (RpL.mono hl ht hf hd t)
end
theorem RpL.length : ∀ {ds : List D} {vs : List V}, RpL K M H ds vs → ds.length = vs.length
  | _, _, .nil => rfl
  | _, _, .cons _ t => congrArg Nat.succ (RpL.length t)
theorem RpL.get : ∀ {ds : List D} {vs : List V} {i : Nat} {d : D}, RpL K M H ds vs → ds[i]? = some d → ∃ v, vs[i]? = some v ∧ Rp K M H d v
  | _, _, _, _, .nil, e => by simp at e
  | _, _, 0, _, .cons h _, e => by
    simp at e
    subst e
    exact ⟨_, rfl, h⟩
  | _, _, i + 1, d, .cons _ t, e => by
    obtain ⟨v, h1, h2⟩ := RpL.get (i := i) (d := d) t (by simpa using e)
    exact ⟨v, by simpa using h1, h2⟩
theorem RpL.getV : ∀ {ds : List D} {vs : List V} {i : Nat} {v : V}, RpL K M H ds vs → vs[i]? = some v → ∃ d, ds[i]? = some d ∧ Rp K M H d v
  | _, _, _, _, .nil, e => by simp at e
  | _, _, 0, _, .cons h _, e => by
    simp at e
    subst e
    exact ⟨_, rfl, h⟩
  | _, _, i + 1, v, .cons _ t, e => by
    obtain ⟨d, h1, h2⟩ := RpL.getV (i := i) (v := v) t (by simpa using e)
    exact ⟨d, by simpa using h1, h2⟩
theorem RpL.append : ∀ {ds es : List D} {vs ws : List V}, RpL K M H ds vs → RpL K M H es ws → RpL K M H (ds ++ es) (vs ++ ws)
  | _, _, _, _, .nil, s => s
  | _, _, _, _, .cons h t, s => .cons h (RpL.append t s)
theorem RpL.take : ∀ {ds : List D} {vs : List V} (n : Nat), RpL K M H ds vs → RpL K M H (ds.take n) (vs.take n)
  | _, _, 0, _ => .nil
  | _, _, _ + 1, .nil => .nil
  | _, _, n + 1, .cons h t => .cons h (RpL.take n t)
theorem RpL.drop : ∀ {ds : List D} {vs : List V} (n : Nat), RpL K M H ds vs → RpL K M H (ds.drop n) (vs.drop n)
  | _, _, 0, r => r
  | _, _, _ + 1, .nil => .nil
  | _, _, n + 1, .cons _ t => RpL.drop n t
theorem RpL.reverse {ds : List D} {vs : List V} (r : RpL K M H ds vs) : RpL K M H ds.reverse vs.reverse := by
  induction ds generalizing vs with
  | nil => cases r; exact .nil
  | cons d ds ih =>
    cases r with
    | cons h t =>
      rw [List.reverse_cons, List.reverse_cons]
      exact (ih t).append (.cons h .nil)
theorem RpL.set {d : D} {v : V} (h : Rp K M H d v) : ∀ {ds : List D} {vs : List V} (i : Nat), RpL K M H ds vs → RpL K M H (ds.set i d) (vs.set i v)
  | _, _, _, .nil => .nil
  | _, _, 0, .cons _ t => .cons h t
  | _, _, i + 1, .cons q t => .cons q (RpL.set h i t)
theorem RpL.rep {ds : List D} {vs : List V} (r : RpL K M H ds vs) : ∀ k : Nat, RpL K M H (List.replicate k ds).flatten (List.replicate k vs).flatten
  | 0 => .nil
  | k + 1 => by
    rw [List.replicate_succ, List.replicate_succ, List.flatten_cons, List.flatten_cons]
    exact r.append (RpL.rep r k)
theorem RpL.ints : ∀ {ns : List Int} {vs : List V}, RpL K M H (ns.map PyData.int) vs → vs = ns.map V.int
  | [], _, .nil => rfl
  | n :: ns, _, .cons h t => by
    cases h
    rw [RpL.ints t]
    rfl
theorem RpL.bls : ∀ {bs : List Bool} {vs : List V}, RpL K M H (bs.map PyData.bool) vs → vs = bs.map V.bl
  | [], _, .nil => rfl
  | n :: ns, _, .cons h t => by
    cases h
    rw [RpL.bls t]
    rfl
end
/-! ### what is walked, a new tuple at each turn -/
def ItW (n : Nat) (G : Hp → Prop) (Y : Nat → List V → Prop) : It :=
  ⟨fun i H => i < n ∧ G H, fun i H v H' => ∃ T vs, v = .ref T ∧ H T = none ∧ H' = upd H T (.tup vs) ∧ Y i vs, fun i H => i = n ∧ G H⟩
theorem turn_gen {P : Program} {w : World} {K : PySem.W.Frag} {elts : List Expr} {kk : Nat} {tpos : Pos} {n : Nat} {G : Hp → Prop} {Y : Nat → List V → Prop} {fp : List Addr} {e : Addr} {tn : Nat → Heap → Prop}
    (mem : e ∈ fp) (obj : ∀ i h, tn i h → ∀ b ∈ fp, ∃ o, h.get? b = some o ∧ ∀ v, o.data ≠ .cell v)
    (keep : ∀ i h h', tn i h → (∀ b ∈ fp, ∀ o, h.get? b = some o → h'.get? b = some o) → tn i h')
    (self : ∀ (A : Around) (i : Nat) (s : Shared) (Q : Value → Shared → Prop) (E : Value → Shared → Prop), tn i s.heap → Q (.ref e) s → wpAny (model P w) A (pyIter (.ref e)) Q E s)
    (walk : ∀ (X : Cx) (pins : List (Addr × Obj)) (σ : L2.St) (H : Hp) (s : Shared), X.prog = P → X.w = w → X.K = K → X.A.handled = none → Inv X pins σ H s → G H → ∀ i, tn i s.heap →
      ∃ (fq wr : List Addr) (Pt : Nat → Array Value → Prop) (St : Nat → Heap → Prop) (Mid : Nat → Addr → Heap → Prop), WalksT P w X.A e fq wr n Pt St Mid ∧ (∀ b ∈ wr, b ∈ fp) ∧ St i s.heap ∧ (∀ h, St (i + 1) h → tn (i + 1) h) ∧
        ∀ vals, Pt i vals → ∃ vs, Vals vs vals.toList ∧ Y i vs ∧ vs.length ≤ sizeLine) :
    Turn P w K (.Tuple elts kk tpos) (ItW n G Y) fp e tn where
  mem := mem
  obj := obj
  keep := keep
  self := fun A i s Q E t q => self A i s Q E t q
  item := by
    intro X hP hw hK hc i pins s σ H E I hf st hg
    obtain ⟨hi, g⟩ := hg
    obtain ⟨fq, wr, Pt, St, Mid, W, sub, st0, back, vals_⟩ := walk X pins σ H s hP hw hK (I.ok.hd hc) I g i st
    subst hP hw hK
    refine W.item i s _ E hi st0 fun T vals h' tk hp hT ht mid kp => ⟨.ref T, rfl, ?_⟩
    refine W.go elts kk tpos i T _ _ E mid fun h2 st2 kp2 => ?_
    obtain ⟨vs, rv, y, hz⟩ := vals_ vals hp
    have hT2 : h2.IsTuple T vals := by
      obtain ⟨o, e1, e2, m, e3⟩ := ht
      exact ⟨o, kp2 T o (W.apart i T h' mid) e1, e2, m, e3⟩
    have new : ObjOk X.prog X.w (upd H T (.tup vs)) h2 T (.tup vs) := ⟨hz, vals.toList, rv, hT2⟩
    have hf' : ∀ b ∈ wr, FpOk X pins H b := fun b hb => hf b (sub b hb)
    have I1 : Inv X pins σ (upd H T (.tup vs)) { s with heap := h2, toks := tk } :=
      I.turnedNew (ch := wr) (fun b o hb q => kp2 b o hb (kp b o hb q)) hf' hT new
    refine ⟨.ref T, _, I1, rfl, ⟨T, vs, rfl, I.hok.fresh hT, rfl, y⟩, back h2 st2, fun b hb => ?_⟩
    obtain ⟨o, eo, _⟩ := obj i s.heap st b hb
    rw [upd_ne (Nat.ne_of_lt (Nat.lt_of_lt_of_le (Heap.lt_size eo) hT))]
    exact (hf b hb).1
  done := by
    intro X hP hw hK hc i pins s σ H E I hf st hg
    obtain ⟨hi, g⟩ := hg
    obtain ⟨fq, wr, Pt, St, Mid, W, sub, st0, back, vals_⟩ := walk X pins σ H s hP hw hK (I.ok.hd hc) I g i st
    subst hP hw hK hi
    refine W.done s _ E st0 fun h' tk kp => ⟨rfl, I.turnedL (ch := wr) kp fun b hb => hf b (sub b hb)⟩
/-! ### lists and tuples alike -/
def SqX (K : PySem.W.Frag) (t : Bool) (H : Hp) (a : Addr) (xs : List V) : Prop := match t with
  | true => SqT K H a xs
  | false => SqL K H a xs
def ItAt (t : Bool) (h : Heap) (it a : Addr) (i : Nat) : Prop := match t with
  | true => h.IsTupleIter it a i
  | false => h.IsListIter it a i
def IsSq (t : Bool) (h : Heap) (a : Addr) (its : Array Value) : Prop := match t with
  | true => h.IsTuple a its
  | false => h.IsList a its
theorem draws_x {P : Program} {w : World} {A : Around} (t : Bool) (hh : A.handled = none) (it a : Addr) (hne : a ≠ it) (its : Array Value) :
    Draws P w A it [it, a] its.size (fun i v => its[i]? = some v) (fun i h => ItAt t h it a i ∧ IsSq t h a its) := by
  cases t with
  | true => exact Draws.tuple hh it a hne its
  | false => exact Draws.list hh it a hne its
def itObj (t : Bool) (a : Addr) : Obj := match t with
  | true => { cls := .type "tuple_iterator", data := .fields #[.ref a, .int 0 0] }
  | false => { cls := .type "list_iterator", data := .fields #[.ref a, .int 0 0] }
theorem begins_x (t : Bool) (a : Addr) (its : Array Value) : Begins (.ref a) (itObj t a) fun h => IsSq t h a its := by
  cases t with
  | true => exact begins_tuple a its
  | false => exact begins_list a its
theorem itAt_new {t : Bool} {h : Heap} {it a : Addr} (e : h.get? it = some (itObj t a)) : ItAt t h it a 0 := by
  cases t with
  | true => exact ⟨_, e, rfl, rfl⟩
  | false => exact ⟨_, e, rfl, rfl⟩
theorem itAt_obj {t : Bool} {h : Heap} {it a : Addr} {i : Nat} (e : ItAt t h it a i) : ∃ o, h.get? it = some o ∧ ∀ v, o.data ≠ .cell v := by
  cases t with
  | true =>
    obtain ⟨o, e1, _, e2⟩ := e
    exact ⟨o, e1, fun v q => by rw [e2] at q; cases q⟩
  | false =>
    obtain ⟨o, e1, _, e2⟩ := e
    exact ⟨o, e1, fun v q => by rw [e2] at q; cases q⟩
theorem itAt_keep {t : Bool} {h h' : Heap} {it a : Addr} {i : Nat} (e : ItAt t h it a i) (k : ∀ o, h.get? it = some o → h'.get? it = some o) : ItAt t h' it a i := by
  cases t with
  | true =>
    obtain ⟨o, e1, e2⟩ := e
    exact ⟨o, k o e1, e2⟩
  | false =>
    obtain ⟨o, e1, e2⟩ := e
    exact ⟨o, k o e1, e2⟩
section
variable {X : Cx} {pins : List (Addr × Obj)} {σ : L2.St} {H : Hp} {s : Shared}
theorem inv_sq (I : Inv X pins σ H s) {t : Bool} {a : Addr} {xs : List V} (h : SqX X.K t H a xs) : ∃ its : List Value, Vals xs its ∧ IsSq t s.heap a its.toArray ∧ xs.length ≤ sizeLine := by
  cases t with
  | true =>
    obtain ⟨its, r, p, z⟩ := I.tuple h
    exact ⟨its, r, p, z⟩
  | false =>
    obtain ⟨its, r, p, z⟩ := I.list h
    exact ⟨its, r, p.isList, z⟩
theorem sq_lt {t : Bool} {h : Heap} {a : Addr} {its : Array Value} (e : IsSq t h a its) : a < h.objs.size := by
  cases t with
  | true =>
    obtain ⟨o, e1, _⟩ := e
    exact Heap.lt_size e1
  | false =>
    obtain ⟨o, e1, _⟩ := e
    exact Heap.lt_size e1
theorem vals_at {xs : List V} {its : List Value} (r : Vals xs its) {i : Nat} {u : Value} (h : its.toArray[i]? = some u) : ∃ x, xs[i]? = some x ∧ RelV x u := by
  have h2 : its[i]? = some u := by simpa using h
  cases e : xs[i]? with
  | none =>
    rw [r.none_of e] at h2
    cases h2
  | some x =>
    obtain ⟨u', h3, h4⟩ := r.get e
    rw [h2] at h3
    cases h3
    exact ⟨x, rfl, h4⟩
end
end DH

/-! P2 -/
set_option Elab.async false
set_option linter.all false
set_option maxRecDepth 100000
set_option maxHeartbeats 4000000
namespace DH
open PySem PySem.Spec PyProof.Rows L2
/-! ### zip of two -/
def YZ2 (xs ys : List V) (i : Nat) (vs : List V) : Prop := ∃ x y, xs[i]? = some x ∧ ys[i]? = some y ∧ vs = [x, y]
def tnZ2 (t1 t2 : Bool) (a b N : Addr) (i : Nat) (h : Heap) : Prop :=
  IsZip h (N + 4) (N + 2) (N + 3) .none ∧ IsTupOf2 h (N + 2) (.ref N) (.ref (N + 1)) ∧ (∃ a1 a2, IsTupOf2 h (N + 3) a1 a2) ∧ ItAt t1 h N a i ∧ ItAt t2 h (N + 1) b i
theorem turn_z2 {P : Program} {w : World} {K : PySem.W.Frag} {elts : List Expr} {kk : Nat} {tpos : Pos} {t1 t2 : Bool} {a b N : Nat} {xs ys : List V} (ha : a < N) (hb : b < N) :
    Turn P w K (.Tuple elts kk tpos) (ItW (min xs.length ys.length) (fun H => SqX K t1 H a xs ∧ SqX K t2 H b ys) (YZ2 xs ys)) [N + 4, N + 2, N + 3, N, N + 1] (N + 4) (tnZ2 t1 t2 a b N) := by
  refine turn_gen (by simp) (fun i h st c hc => ?_) (fun i h h' st k => ?_) (fun A i s Q E st q => wpAny_pyIter_zip st.1 q) (fun X pins σ H s hP hw hK hh I g i st => ?_)
  · obtain ⟨h1, h2, ⟨a1, a2, h3⟩, h4, h5⟩ := st
    simp only [List.mem_cons, List.not_mem_nil, or_false] at hc
    rcases hc with q | q | q | q | q
    · rw [q]; exact ⟨_, h1, fun v q => nomatch q⟩
    · rw [q]; exact ⟨_, h2, fun v q => nomatch q⟩
    · rw [q]; exact ⟨_, h3, fun v q => nomatch q⟩
    · rw [q]; exact itAt_obj h4
    · rw [q]; exact itAt_obj h5
  · obtain ⟨h1, h2, ⟨a1, a2, h3⟩, h4, h5⟩ := st
    exact ⟨k _ (by simp) _ h1, k _ (by simp) _ h2, ⟨a1, a2, k _ (by simp) _ h3⟩, itAt_keep h4 fun o e => k N (by simp) o e, itAt_keep h5 fun o e => k (N + 1) (by simp) o e⟩
  · subst hP hw hK
    obtain ⟨its, r1, q1, z1⟩ := inv_sq I g.1
    obtain ⟨jts, r2, q2, z2⟩ := inv_sq I g.2
    have hh' : X.A.in1.handled = none := hh
    have D1 := draws_x (P := X.prog) (w := X.w) t1 hh' N a (Nat.ne_of_lt ha) its.toArray
    have D2 := draws_x (P := X.prog) (w := X.w) t2 hh' (N + 1) b (Nat.ne_of_lt (Nat.lt_succ_of_lt hb)) jts.toArray
    have S := zip_sep2 (N := N) (fp1 := [a]) (fp2 := [b]) (fun c hc => by rw [List.mem_singleton.mp hc]; exact ha) (fun c hc => by rw [List.mem_singleton.mp hc]; exact hb)
    have W := WalksT.zipD2 S D1 D2
    have hn : min its.toArray.size jts.toArray.size = min xs.length ys.length := by
      rw [List.size_toArray, List.size_toArray, r1.length, r2.length]
    rw [hn] at W
    refine ⟨_, _, _, _, _, W, fun c hc => ?_, ?_, fun h st2 => ?_, fun vals hv => ?_⟩
    · simp only [List.mem_cons, List.not_mem_nil, or_false] at hc ⊢
      rcases hc with q | q | q | q <;> simp [q]
    · exact ⟨st.1, st.2.1, st.2.2.1, ⟨st.2.2.2.1, q1⟩, ⟨st.2.2.2.2, q2⟩⟩
    · exact ⟨st2.1, st2.2.1, st2.2.2.1, st2.2.2.2.1.1, st2.2.2.2.2.1⟩
    · obtain ⟨x1, x2, e1, e2, rfl⟩ := hv
      obtain ⟨x, hx, rx⟩ := vals_at r1 e1
      obtain ⟨y, hy, ry⟩ := vals_at r2 e2
      exact ⟨[x, y], .cons rx (.cons ry .nil), ⟨x, y, hx, hy, rfl⟩, by show 2 ≤ sizeLine; decide⟩
def iZ2 (K : PySem.W.Frag) (ta : TA) : TI := fun σ H R => ta σ H fun vs H1 => ∃ (a b : Addr) (t1 t2 : Bool) (xs ys : List V), vs = [.ref a, .ref b] ∧ SqX K t1 H1 a xs ∧ SqX K t2 H1 b ys ∧
  R (ItW (min xs.length ys.length) (fun H => SqX K t1 H a xs ∧ SqX K t2 H b ys) (YZ2 xs ys)) H1
theorem vals_2 {a b : Addr} {us : List Value} (r : Vals [.ref a, .ref b] us) : us = [.ref a, .ref b] := by
  cases r with
  | cons r rr =>
    cases rr with
    | cons r' rr =>
      cases rr
      cases r
      cases r'
      rfl
theorem pi_z2 {X : Cx} {e e2 : Expr} {ta : TA} {p pos tpos : Pos} {elts : List Expr} {kk : Nat} (hg : Gl X "zip") (hm : X.mg "zip" = none) (ha : PA X [e, e2] ta)
    (hs : starEach [e, e2] X.env = (false, eval e X.env) :: starEach [e2] X.env) (hpl : (backTo pos (starEach [e2] X.env)).any (·.1) = false) :
    PI X (.Tuple elts kk tpos) (.Call (.Name "zip" p) [e, e2] [] pos) (iZ2 X.K ta) := by
  refine ⟨fun pins s σ H R I h => ?_⟩
  refine Call_ (ld_blt I hg hm PyProof.Rows.boot_zip (PyProof.Rows.callWith_type1 (thn (ha.run pos pins s σ H _ I h) fun us s1 ⟨vs, H1, I1, r1, q1⟩ => ?_) hs hpl))
  obtain ⟨a, b, t1, t2, xs, ys, rfl, hx, hy, q⟩ := q1
  obtain rfl := vals_2 r1
  obtain ⟨its, _, p1, _⟩ := inv_sq I1 hx
  obtain ⟨jts, _, p2, _⟩ := inv_sq I1 hy
  refine zip_begins2 (begins_x t1 a its.toArray) (begins_x t2 b jts.toArray) p1 p2 fun h' g1 g2 g3 g4 g5 gz kp => wpAny_pyIter_zip g1 ?_
  have I2 : Inv X pins σ H1 { s1 with heap := h' } := I1.kept (t' := s1.toks) kp
  refine ⟨s1.heap.objs.size + 4, _, _, _, H1, rfl, I2, turn_z2 (t1 := t1) (t2 := t2) (xs := xs) (ys := ys) (sq_lt p1) (sq_lt p2), ⟨g1, g2, ⟨_, _, g3⟩, itAt_new g4, itAt_new g5⟩, fun c hc => ?_, q⟩
  have hle : s1.heap.objs.size ≤ c := by
    simp only [List.mem_cons, List.not_mem_nil, or_false] at hc
    rcases hc with q | q | q | q | q <;> rw [q] <;> first | exact Nat.le_add_right _ _ | exact Nat.le_refl _
  exact I1.fpOk hle (I1.hok.fresh hle)
/-! ### zip of three -/
def YZ3 (xs ys zs : List V) (i : Nat) (vs : List V) : Prop := ∃ x y z, xs[i]? = some x ∧ ys[i]? = some y ∧ zs[i]? = some z ∧ vs = [x, y, z]
def tnZ3 (t1 t2 t3 : Bool) (a b c N : Addr) (i : Nat) (h : Heap) : Prop :=
  IsZip h (N + 5) (N + 3) (N + 4) .none ∧ IsTupOf3 h (N + 3) (.ref N) (.ref (N + 1)) (.ref (N + 2)) ∧ (∃ a1 a2 a3, IsTupOf3 h (N + 4) a1 a2 a3) ∧ ItAt t1 h N a i ∧ ItAt t2 h (N + 1) b i ∧ ItAt t3 h (N + 2) c i
theorem turn_z3 {P : Program} {w : World} {K : PySem.W.Frag} {elts : List Expr} {kk : Nat} {tpos : Pos} {t1 t2 t3 : Bool} {a b c N : Nat} {xs ys zs : List V} (ha : a < N) (hb : b < N) (hc : c < N) :
    Turn P w K (.Tuple elts kk tpos) (ItW (min (min xs.length ys.length) zs.length) (fun H => SqX K t1 H a xs ∧ SqX K t2 H b ys ∧ SqX K t3 H c zs) (YZ3 xs ys zs)) [N + 5, N + 3, N + 4, N, N + 1, N + 2] (N + 5) (tnZ3 t1 t2 t3 a b c N) := by
  refine turn_gen (by simp) (fun i h st c hc => ?_) (fun i h h' st k => ?_) (fun A i s Q E st q => wpAny_pyIter_zip st.1 q) (fun X pins σ H s hP hw hK hh I g i st => ?_)
  · obtain ⟨h1, h2, ⟨a1, a2, a3, h3⟩, h4, h5, h6⟩ := st
    simp only [List.mem_cons, List.not_mem_nil, or_false] at hc
    rcases hc with q | q | q | q | q | q
    · rw [q]; exact ⟨_, h1, fun v q => nomatch q⟩
    · rw [q]; exact ⟨_, h2, fun v q => nomatch q⟩
    · rw [q]; exact ⟨_, h3, fun v q => nomatch q⟩
    · rw [q]; exact itAt_obj h4
    · rw [q]; exact itAt_obj h5
    · rw [q]; exact itAt_obj h6
  · obtain ⟨h1, h2, ⟨a1, a2, a3, h3⟩, h4, h5, h6⟩ := st
    exact ⟨k _ (by simp) _ h1, k _ (by simp) _ h2, ⟨a1, a2, a3, k _ (by simp) _ h3⟩, itAt_keep h4 fun o e => k N (by simp) o e, itAt_keep h5 fun o e => k (N + 1) (by simp) o e, itAt_keep h6 fun o e => k (N + 2) (by simp) o e⟩
  · subst hP hw hK
    obtain ⟨its, r1, q1, z1⟩ := inv_sq I g.1
    obtain ⟨jts, r2, q2, z2⟩ := inv_sq I g.2.1
    obtain ⟨kts, r3, q3, z3⟩ := inv_sq I g.2.2
    have hh' : X.A.in1.handled = none := hh
    have D1 := draws_x (P := X.prog) (w := X.w) t1 hh' N a (Nat.ne_of_lt ha) its.toArray
    have D2 := draws_x (P := X.prog) (w := X.w) t2 hh' (N + 1) b (Nat.ne_of_lt (by omega)) jts.toArray
    have D3 := draws_x (P := X.prog) (w := X.w) t3 hh' (N + 2) c (Nat.ne_of_lt (by omega)) kts.toArray
    have S := zip_sep3 (N := N) (fp1 := [a]) (fp2 := [b]) (fp3 := [c]) (fun c hc => by rw [List.mem_singleton.mp hc]; exact ha) (fun c hc => by rw [List.mem_singleton.mp hc]; exact hb) (fun d hd => by rw [List.mem_singleton.mp hd]; exact hc)
    have W := WalksT.zipD3 S D1 D2 D3
    have hn : min (min its.toArray.size jts.toArray.size) kts.toArray.size = min (min xs.length ys.length) zs.length := by
      rw [List.size_toArray, List.size_toArray, List.size_toArray, r1.length, r2.length, r3.length]
    rw [hn] at W
    refine ⟨_, _, _, _, _, W, fun c hc => ?_, ?_, fun h st2 => ?_, fun vals hv => ?_⟩
    · simp only [List.mem_cons, List.not_mem_nil, or_false] at hc ⊢
      rcases hc with q | q | q | q | q <;> simp [q]
    · exact ⟨st.1, st.2.1, st.2.2.1, ⟨st.2.2.2.1, q1⟩, ⟨st.2.2.2.2.1, q2⟩, ⟨st.2.2.2.2.2, q3⟩⟩
    · exact ⟨st2.1, st2.2.1, st2.2.2.1, st2.2.2.2.1.1, st2.2.2.2.2.1.1, st2.2.2.2.2.2.1⟩
    · obtain ⟨x1, x2, x3, e1, e2, e3, rfl⟩ := hv
      obtain ⟨x, hx, rx⟩ := vals_at r1 e1
      obtain ⟨y, hy, ry⟩ := vals_at r2 e2
      obtain ⟨z, hz, rz⟩ := vals_at r3 e3
      exact ⟨[x, y, z], .cons rx (.cons ry (.cons rz .nil)), ⟨x, y, z, hx, hy, hz, rfl⟩, by show 3 ≤ sizeLine; decide⟩
def iZ3 (K : PySem.W.Frag) (ta : TA) : TI := fun σ H R => ta σ H fun vs H1 => ∃ (a b c : Addr) (t1 t2 t3 : Bool) (xs ys zs : List V), vs = [.ref a, .ref b, .ref c] ∧ SqX K t1 H1 a xs ∧ SqX K t2 H1 b ys ∧ SqX K t3 H1 c zs ∧
  R (ItW (min (min xs.length ys.length) zs.length) (fun H => SqX K t1 H a xs ∧ SqX K t2 H b ys ∧ SqX K t3 H c zs) (YZ3 xs ys zs)) H1
theorem vals_3 {a b c : Addr} {us : List Value} (r : Vals [.ref a, .ref b, .ref c] us) : us = [.ref a, .ref b, .ref c] := by
  cases r with
  | cons r rr =>
    rw [vals_2 rr]
    cases r
    rfl
theorem pi_z3 {X : Cx} {e e2 e3 : Expr} {ta : TA} {p pos tpos : Pos} {elts : List Expr} {kk : Nat} (hg : Gl X "zip") (hm : X.mg "zip" = none) (ha : PA X [e, e2, e3] ta)
    (hs : starEach [e, e2, e3] X.env = (false, eval e X.env) :: starEach [e2, e3] X.env) (hpl : (backTo pos (starEach [e2, e3] X.env)).any (·.1) = false) :
    PI X (.Tuple elts kk tpos) (.Call (.Name "zip" p) [e, e2, e3] [] pos) (iZ3 X.K ta) := by
  refine ⟨fun pins s σ H R I h => ?_⟩
  refine Call_ (ld_blt I hg hm PyProof.Rows.boot_zip (PyProof.Rows.callWith_type1 (thn (ha.run pos pins s σ H _ I h) fun us s1 ⟨vs, H1, I1, r1, q1⟩ => ?_) hs hpl))
  obtain ⟨a, b, c, t1, t2, t3, xs, ys, zs, rfl, hx, hy, hz, q⟩ := q1
  obtain rfl := vals_3 r1
  obtain ⟨its, _, p1, _⟩ := inv_sq I1 hx
  obtain ⟨jts, _, p2, _⟩ := inv_sq I1 hy
  obtain ⟨kts, _, p3, _⟩ := inv_sq I1 hz
  refine zip_begins3 (begins_x t1 a its.toArray) (begins_x t2 b jts.toArray) (begins_x t3 c kts.toArray) p1 p2 p3 fun h' g1 g2 g3 g4 g5 g6 gz kp => wpAny_pyIter_zip g1 ?_
  have I2 : Inv X pins σ H1 { s1 with heap := h' } := I1.kept (t' := s1.toks) kp
  refine ⟨s1.heap.objs.size + 5, _, _, _, H1, rfl, I2, turn_z3 (t1 := t1) (t2 := t2) (t3 := t3) (xs := xs) (ys := ys) (zs := zs) (sq_lt p1) (sq_lt p2) (sq_lt p3), ⟨g1, g2, ⟨_, _, _, g3⟩, itAt_new g4, itAt_new g5, itAt_new g6⟩, fun c hc => ?_, q⟩
  have hle : s1.heap.objs.size ≤ c := by
    simp only [List.mem_cons, List.not_mem_nil, or_false] at hc
    rcases hc with q | q | q | q | q | q <;> rw [q] <;> first | exact Nat.le_add_right _ _ | exact Nat.le_refl _
  exact I1.fpOk hle (I1.hok.fresh hle)
/-! ### enumerate -/
set_option maxHeartbeats 4000000 in
theorem meets_enum1 {v : Value} {o : Obj} {G : Heap → Prop} (B : Begins v o G) :
    Meets (Builtin.«enumerate.__new__» ⟨[.type "enumerate", v], []⟩) (fun _ R s => G s.heap ∧
      R (.ok (.ret (.ref (s.heap.push o).objs.size))) { s with heap := (s.heap.push o).push { cls := .type "enumerate", data := .fields #[.none, .bool false, .ref s.heap.objs.size, rawInt 0, .none, .none] } }) :=
  .of_wp fun prog w A R s h => by
    obtain ⟨hp, gn, dr, tk, os⟩ := s
    obtain ⟨h1, h⟩ := h
    have hsub := sub_enumerate
    have qq : ∀ {A' : Around} {E : Value → Shared → Prop} {Q : Value → Shared → Prop}, Q (.ref hp.objs.size) ⟨hp.push o, gn, dr, tk, os⟩ → wpAny (model prog w) A' (pyIter v) Q E ⟨hp, gn, dr, tk, os⟩ :=
      fun z => B.iter prog w _ _ ⟨hp, gn, dr, tk, os⟩ _ h1 z
    wp_walk using qq
    refine wpAny_stack_any fun st => wpAny_pure ?_
    split
    · rename_i c _ _ _ _ _
      cases (c == Value.type "enumerate") <;> (wp_walk using qq; exact ⟨_, rfl, h⟩)
    · wp_walk using qq
      exact ⟨_, rfl, h⟩
theorem enum_begins1 {prog : Program} {w : World} {A : Around} {E : Value → Shared → Prop} {s : Shared} {v : Value} {o : Obj} {G : Heap → Prop} {Q : Value → Shared → Prop} (B : Begins v o G) (h1 : G s.heap)
    (h : ∀ h', IsEnum h' (s.heap.objs.size + 1) s.heap.objs.size 0 .none → h'.get? s.heap.objs.size = some o → (∀ b o, s.heap.get? b = some o → h'.get? b = some o) → Q (.ref (s.heap.objs.size + 1)) { s with heap := h' }) :
    wpAny (model prog w) A (call (.type "enumerate") [v]) Q E s := by
  refine callType_new F.called_enumerate (by decide) (F.typeCall_enumerate_1 _) (F.newCall_enumerate_1 _) (fun ob => F.args_object_init_2 ob _) F.entry_enumerate_new (meets_enum1 B) ⟨h1, ?_⟩
  have hz1 : (s.heap.push o).objs.size = s.heap.objs.size + 1 := Heap.size_push ..
  show _ ∧ _
  rw [hz1]
  have hen : IsEnum ((s.heap.push o).push { cls := .type "enumerate", data := .fields #[.none, .bool false, .ref s.heap.objs.size, rawInt 0, .none, .none] }) (s.heap.objs.size + 1) s.heap.objs.size 0 .none := by
    have z := Heap.get?_push_size (s.heap.push o) (o := { cls := .type "enumerate", data := .fields #[.none, .bool false, .ref s.heap.objs.size, rawInt 0, .none, .none] }) rfl
    rw [hz1] at z
    exact z
  exact ⟨⟨_, hen, rfl⟩, h _ hen (Heap.get?_push_of_some _ (Heap.get?_push_size _ B.free)) fun b ob x => Heap.get?_push_of_some _ (Heap.get?_push_of_some _ x)⟩
def YEn (xs : List V) (i : Nat) (vs : List V) : Prop := ∃ x, xs[i]? = some x ∧ vs = [.int (i : Nat), x]
def tnEn (t : Bool) (a N : Addr) (i : Nat) (h : Heap) : Prop := (∃ old, IsEnum h (N + 1) N ((0 : Int) + (i : Int)) old) ∧ ItAt t h N a i
theorem turn_en {P : Program} {w : World} {K : PySem.W.Frag} {elts : List Expr} {kk : Nat} {tpos : Pos} {t : Bool} {a N : Nat} {xs : List V} (ha : a < N) :
    Turn P w K (.Tuple elts kk tpos) (ItW xs.length (fun H => SqX K t H a xs) (YEn xs)) [N + 1, N] (N + 1) (tnEn t a N) := by
  refine turn_gen (by simp) (fun i h st c hc => ?_) (fun i h h' st k => ?_) (fun A i s Q E st q => ?_) (fun X pins σ H s hP hw hK hh I g i st => ?_)
  · obtain ⟨⟨old, h1⟩, h2⟩ := st
    simp only [List.mem_cons, List.not_mem_nil, or_false] at hc
    rcases hc with q | q
    · rw [q]; exact ⟨_, h1, fun v q => nomatch q⟩
    · rw [q]; exact itAt_obj h2
  · obtain ⟨⟨old, h1⟩, h2⟩ := st
    exact ⟨⟨old, k _ (by simp) _ h1⟩, itAt_keep h2 fun o e => k N (by simp) o e⟩
  · obtain ⟨⟨old, h1⟩, _⟩ := st
    exact wpAny_pyIter_enum h1 q
  · subst hP hw hK
    obtain ⟨its, r1, q1, z1⟩ := inv_sq I g
    have hh' : X.A.in1.handled = none := hh
    have D1 := draws_x (P := X.prog) (w := X.w) t hh' N a (Nat.ne_of_lt ha) its.toArray
    have W := WalksT.enumFrom (A := X.A) 0 D1 (N + 1) (Nat.succ_ne_self N) (fun hm => by
      rcases List.mem_cons.mp hm with q | q
      · exact Nat.succ_ne_self N q
      · exact Nat.ne_of_gt (Nat.lt_succ_of_lt ha) (List.mem_singleton.mp q)) (by simp)
    have hn : its.toArray.size = xs.length := by rw [List.size_toArray, r1.length]
    rw [hn] at W
    refine ⟨_, _, _, _, _, W, fun c hc => ?_, ⟨st.1, st.2, q1⟩, fun h st2 => ⟨st2.1, st2.2.1⟩, fun vals hv => ?_⟩
    · simp only [List.mem_cons, List.not_mem_nil, or_false] at hc ⊢
      rcases hc with q | q <;> simp [q]
    · obtain ⟨tk, x1, e1, rfl⟩ := hv
      obtain ⟨x, hx, rx⟩ := vals_at r1 e1
      have e0 : (0 : Int) + (i : Int) = ((i : Nat) : Int) := Int.zero_add _
      exact ⟨[.int (i : Nat), x], .cons (by rw [e0]; exact ⟨_, rfl⟩) (.cons rx .nil), ⟨x, hx, rfl⟩, by show 2 ≤ sizeLine; decide⟩
def iEn (K : PySem.W.Frag) (ta : TA) : TI := fun σ H R => ta σ H fun vs H1 => ∃ (a : Addr) (t : Bool) (xs : List V), vs = [.ref a] ∧ SqX K t H1 a xs ∧ R (ItW xs.length (fun H => SqX K t H a xs) (YEn xs)) H1
theorem pi_en {X : Cx} {e : Expr} {ta : TA} {p pos tpos : Pos} {elts : List Expr} {kk : Nat} (hg : Gl X "enumerate") (hm : X.mg "enumerate" = none) (ha : PA X [e] ta) (hs : starEach [e] X.env = [(false, eval e X.env)]) :
    PI X (.Tuple elts kk tpos) (.Call (.Name "enumerate" p) [e] [] pos) (iEn X.K ta) := by
  refine ⟨fun pins s σ H R I h => ?_⟩
  refine Call_ (ld_blt I hg hm boot_enumerate (PyProof.Rows.callWith_type1 (thn (ha.run pos pins s σ H _ I h) fun us s1 ⟨vs, H1, I1, r1, q1⟩ => ?_) hs rfl))
  obtain ⟨a, t, xs, rfl, hx, q⟩ := q1
  obtain rfl := Vals.ref1 r1
  obtain ⟨its, _, p1, _⟩ := inv_sq I1 hx
  refine enum_begins1 (begins_x t a its.toArray) p1 fun h' g1 g2 kp => wpAny_pyIter_enum g1 ?_
  have I2 : Inv X pins σ H1 { s1 with heap := h' } := I1.kept (t' := s1.toks) kp
  refine ⟨s1.heap.objs.size + 1, _, _, _, H1, rfl, I2, turn_en (t := t) (xs := xs) (sq_lt p1), ⟨⟨_, g1⟩, itAt_new g2⟩, fun c hc => ?_, q⟩
  have hle : s1.heap.objs.size ≤ c := by
    simp only [List.mem_cons, List.not_mem_nil, or_false] at hc
    rcases hc with q | q <;> rw [q] <;> first | exact Nat.le_add_right _ _ | exact Nat.le_refl _
  exact I1.fpOk hle (I1.hok.fresh hle)
/-! ### a list or a tuple itself -/
def iSq (K : PySem.W.Frag) (tl : TE) : TI := fun σ H R => tl σ H fun x H1 => ∃ a, x = .ref a ∧ (((∃ xs, SqL K H1 a xs) ∧ R (Itl K a) H1) ∨ ((∃ xs, SqT K H1 a xs) ∧ R (Itt K a) H1))
theorem pi_sq {X : Cx} {tg l : Expr} {tl : TE} (hl : PE X l tl) : PI X tg l (iSq X.K tl) := by
  refine ⟨fun pins s σ H R I h => ?_⟩
  have h2 : wpAny (model X.prog X.w) X.A (eval l X.env) (fun v s1 => wpAny (model X.prog X.w) X.A (pyIter v) (PIE X pins σ tg R) X.xe s1) X.xe s := by
    refine thn (hl.run pins s σ H _ I h) fun v s1 ⟨x, H1, I1, r1, a, ex, q⟩ => ?_
    subst ex
    cases r1
    rcases q with ⟨⟨xs, q1⟩, q2⟩ | ⟨⟨xs, q1⟩, q2⟩
    · have hc : PE X l tl := hl
      obtain ⟨its, r, pl, _⟩ := I1.list q1
      refine wpAny_pyIter_list pl.isList ?_
      exact pi_one (tk := s1.toks) I1 _ (turn_list a s1.heap.objs.size) ⟨_, Heap.get?_push_size _ rfl, rfl, rfl⟩ q2
    · obtain ⟨its, r, pl, _⟩ := I1.tuple q1
      refine wpAny_pyIter_tuple pl ?_
      exact pi_one (tk := s1.toks) I1 _ (turn_tuple a s1.heap.objs.size) ⟨_, Heap.get?_push_size _ rfl, rfl, rfl⟩ q2
  exact h2
end DH

/-! P3 -/
set_option Elab.async false
set_option linter.all false
set_option maxRecDepth 100000
set_option maxHeartbeats 4000000
namespace DH
open PySem PySem.Spec PyProof.Rows L2
/-! ### defs, where no repr is under way -/
structure FnG (P : Program) (w : World) (K : PySem.W.Frag) (mg : Str → Option Value) (base : Heap) (CX : CXT) (k : Nat) (f : Addr) (fd : FuncData) (ps : List Str) (sp : Sp) : Prop where
  len : ∀ vs H Q E, sp vs H Q E → vs.length = ps.length
  run : ∀ (A : Around) (outer : List Env) (s : Shared) (H : Hp) (args : Args) (us : List Value) (vs : List V) (Q : VK) (E : XK), Room k A → A.guards = some [] → Env0 P w K mg base A outer s H → BindsTo s fd args (ps.zip us) →
    Vals vs us → sp vs H Q E → codeAny (model P w) A (.call (.ref f) args) (CR CX outer P w H s Q E) s
theorem FnG.mono {P : Program} {w : World} {K : PySem.W.Frag} {mg : Str → Option Value} {base : Heap} {CX : CXT} {j k : Nat} {f : Addr} {fd : FuncData} {ps : List Str} {sp : Sp} (F : FnG P w K mg base CX j f fd ps sp) (h : j ≤ k) :
    FnG P w K mg base CX k f fd ps sp := ⟨F.len, fun A o s H a us vs Q E hr hg => F.run A o s H a us vs Q E (hr.mono h) hg⟩
theorem FnG.imp {P : Program} {w : World} {K : PySem.W.Frag} {mg : Str → Option Value} {base : Heap} {CX : CXT} {k : Nat} {f : Addr} {fd : FuncData} {ps : List Str} {sp sp' : Sp} (F : FnG P w K mg base CX k f fd ps sp)
    (h : ∀ vs H Q E, sp' vs H Q E → sp vs H Q E) : FnG P w K mg base CX k f fd ps sp' :=
  ⟨fun vs H Q E q => F.len vs H Q E (h _ _ _ _ q), fun A o s H a us vs Q E hr hg e b v q => F.run A o s H a us vs Q E hr hg e b v (h _ _ _ _ q)⟩
theorem guards_deeper {A : Around} {env : Env} (h : A.guards = some []) : (A.deeper env).guards = some [] := h
theorem fnG_of {CX : CXT} {P : Program} {w : World} {K : PySem.W.Frag} {mg : Str → Option Value} {base : Heap} {x qual : Str} {params : Arguments} {body : List Stmt} {scope : Scope} {f : Addr} {fd : FuncData} {N ps : List Str} {k : Nat} {sp : Sp}
    (F : FunD K x qual params body scope [] [] f fd) (S : FnScope N ps scope) (len : ∀ vs H Q E, sp vs H Q E → vs.length = ps.length)
    (hbody : ∀ (cdv : Value) (A : Around) (outer : List Env) (s : Shared) (H : Hp) (vs : List V) (Q : VK) (E : XK), Room k (A.deeper (envOfC qual scope s.heap.objs.size f cdv)) → A.guards = some [] → sp vs H Q E →
      ∃ t, PSs (cxOf CX P w K mg base N qual scope f cdv A outer s H E) body t ∧ t { nx := fun _ H' => Q .non H', rt := Q } (start N vs) H) : FnG P w K mg base CX (k + 1) f fd ps sp := by
  obtain ⟨oc, od, dV, kV, doc, pm, an, cdv, ct, osl, rfl, lk, hcd, _, _⟩ := F.ex
  refine ⟨len, fun A outer s H args us vs Q E room hgd env0 bnd rel hsp => ?_⟩
  have hlen := len _ _ _ _ hsp
  have kin : K.In s.heap := env0.mod.kin.keeps fun b o e => (env0.bs b o e).1
  have nolim : s.heap.NoLimit := env0.mod.nolimit.keeps fun b o e => (env0.bs b o e).1
  have kinds : ∀ y ∈ ps.zip us, scope.names.lookup y.1 = some .local ∨ (scope.names.lookup y.1 = some .cell ∧ ((cellsFrom (s.heap.objs.size + 1) scope.names []).lookup y.1).isSome = true) := fun ⟨n, v⟩ hy =>
    (S.par n (List.of_mem_zip hy).1).elim .inl fun q => .inr ⟨q, PySem.W.cellsFrom_some _ _ _ (.inl q)⟩
  refine codeAny_call_function room.depth (kin _ _ lk) rfl S.co S.gen rfl (PySem.W.codeRec_of kin hcd) (bnd _ _ _ _ ?_)
  refine wpAny_newFunctionEnv_cells S.kind kinds fun env henv s2 inC => ?_
  subst henv
  refine ⟨nolim.keeps inC.toInCall.keep, codeAny_func ?_⟩
  obtain ⟨t, pt, qt⟩ := hbody cdv A outer s H vs Q E (room.deeper _) hgd hsp
  have I0 : Inv (cxOf CX P w K mg base N qual scope f cdv A outer s H E) [] (start N vs) H s2 := inv_start S room.hd env0 hlen rel inC
  refine wpAny_mono (pt.run [] s2 (start N vs) H _ I0 qt) (fun fl s' hs => ?_) fun e s' hs => hs
  cases fl with
  | ret u =>
    obtain ⟨v, σ', H', J, rv, q⟩ := hs
    exact ⟨v, H', J.os, J.bare, J.base, J.hok, rv, q⟩
  | next =>
    obtain ⟨σ', H', J, q⟩ := hs
    exact ⟨V.non, H', J.os, J.bare, J.base, J.hok, rfl, q⟩
  | brk => exact hs.elim fun _ z => z.elim fun _ y => y.2.elim
  | cont => exact hs.elim fun _ z => z.elim fun _ y => y.2.elim
section
variable {X : Cx} {CX : CXT} {k : Nat} {f : Addr} {fd : FuncData} {ps ks : List Str} {sp : Sp} {E : XK} {x : Str} {p pos : Pos} {e : Expr} {es : List Expr} {kws : List Keyword} {t tk : TA}
theorem call_g {pins : List (Addr × Obj)} {σ : L2.St} {H : Hp} {s : Shared} {Q : VK} {us : List Value} {vs : List V} {args : Args} (F : FnG X.prog X.w X.K X.mg X.base CX k f fd ps sp) (hr : Room k X.A) (hgd : X.A.guards = some []) (hx : Passes CX X E)
    (I : Inv X pins σ H s) (hb : BindsTo s fd args (ps.zip us)) (r : Vals vs us) (h : sp vs H Q E) : wpAny (model X.prog X.w) X.A (call (.ref f) args.pos args.kw) (EP X pins σ Q) X.xe s := by
  refine wpAny_call (codeAny_mono (F.run X.A X.stack s H args us vs Q E hr hgd I.env0 hb r h) fun rs s' hq => ?_)
  cases rs with
  | error e => exact hx pins σ H s e s' I hq
  | ok fl =>
    cases fl with
    | ret u => exact I.after hq
    | next => exact hq.elim
    | brk => exact hq.elim
    | cont => exact hq.elim
def tCallG (sp : Sp) (E : XK) (t : TA) : TE := fun σ H Q => t σ H fun vs H1 => sp vs H1 Q E
theorem pe_callG (F : FnG X.prog X.w X.K X.mg X.base CX k f fd ps sp) (hr : Room k X.A) (hgd : X.A.guards = some []) (hg : Gl X x) (hm : X.mg x = some (.ref f)) (hk : PySem.W.keepIn X.K (.ref f) = true) (hb : Binds X.K fd ps []) (hx : Passes CX X E)
    (ha : PA X (e :: es) t) (hdb : (x == ("__debug__" : Str)) = false) (he : starEach (e :: es) X.env = (false, eval e X.env) :: starEach es X.env) (hpl : (backTo pos (starEach es X.env)).any (·.1) = false) :
    PE X (.Call (.Name x p) (e :: es) [] pos) (tCallG sp E t) := by
  refine ⟨fun pins s σ H Q I h => wpAny_Call_Name_kw (ld_glob I hg hm ?_ hdb)⟩
  refine PySem.W.callWith_K (h₀ := X.base) I.ok.mod.kin hk (thn (ha.run pos pins s σ H _ I h) fun us s1 ⟨vs, H1, I1, r, q⟩ => ⟨I1.kIn, ?_⟩) he hpl
  have hl : (us ++ []).length = ps.length := by
    rw [List.append_nil, ← r.length]
    exact F.len _ _ _ _ q
  have hb2 := hb s1 us I1.kIn hl
  rw [List.append_nil] at hb2
  exact call_g (args := ⟨us, []⟩) F hr hgd hx I1 hb2 r q
theorem pe_callG0 (F : FnG X.prog X.w X.K X.mg X.base CX k f fd [] sp) (hr : Room k X.A) (hgd : X.A.guards = some []) (hg : Gl X x) (hm : X.mg x = some (.ref f)) (hk : PySem.W.keepIn X.K (.ref f) = true) (hb : Binds X.K fd [] []) (hx : Passes CX X E)
    (hdb : (x == ("__debug__" : Str)) = false) : PE X (.Call (.Name x p) [] [] pos) (tCallG sp E tNil) := by
  refine ⟨fun pins s σ H Q I h => wpAny_Call_Name_kw (ld_glob I hg hm ?_ hdb)⟩
  have hb2 := hb s [] I.kIn rfl
  exact PySem.W.callWith_K0 I.kIn hk (call_g (args := ⟨[], []⟩) (us := []) F hr hgd hx I hb2 .nil h)
end
/-! ### the law's own def -/
theorem law_g {l : PySem.W.OpenLaw} {n k : Nat} {q : Program} {loose : List Str} {XP : (Str → Option Value) → Heap → Prop} {YP : World → Heap → Prop} {d : DefRec} {x : Str}
    (hn : l.most = some n) (hn2 : n ≤ sizeLine) (hdf : d.params.defaults = []) (hr : Room k callerA)
    (F : ∀ (w : World) (mg : Str → Option Value) (fa : Addr) (h : Heap), YP w h → h.Ns mainGlobals mg → mg d.name = some (.ref fa) →
      ∃ (K : PySem.W.Frag) (fd : FuncData) (sp : Sp), K.In h ∧ (∀ (s : Shared) (u : Value), BindsTo s fd ⟨[u], []⟩ [(x, u)]) ∧
        (∀ (H : Hp) (a : Addr) (ns : List Int), ns.length ≤ n → Only H → SqF K H a (ns.map V.int) → sp [.ref a] H (fun v _ => v = .bl true) E0) ∧
        ∀ base : Heap, K.In base → base.Ns mainGlobals mg → FnG l.prog w K mg base CX0 k fa fd [x] sp) :
    PySem.W.WalkO q loose XP YP l.row.toRowW d [] (fun f vs => PySem.call f vs) := by
  refine Att.attach_call hn hdf fun w s₀ s₁ mg mb fa o pm cd doc a vs ns G Y ho hd hcd hmg hobj hints hlen hg => ?_
  obtain ⟨K, fd, sp, KX, hbind, hsp, hF⟩ := F w mg fa _ Y G.T.g hmg
  have rv := vals_ints hints
  have lenV := hints.length
  have hl : ns.length ≤ sizeLine := Nat.le_trans hlen hn2
  have core : ∀ H : Hp, Only H → SqF K H a (ns.map V.int) → HOk l.prog w H s₁.heap → (∀ b, H b ≠ none → b = a) → (H a ≠ none → K.lookup a = none) →
      codeAny (model l.prog w) callerA (.call (.ref fa) ⟨[.ref a], []⟩) (fun r s' => r = .ok (.ret (.bool true)) ∧ OldK s₁.heap s'.heap ∧ s'.os = s₁.os ∧ AllBare s'.gens) s₁ := by
    intro H hO hS hok hA hK
    have only_a : ∀ {b : Addr} {u : HO}, H b = some u → b = a := fun {b u} e => hA b (by rw [e]; exact Option.some_ne_none u)
    have low : ∀ {b : Addr} {ob : Obj}, s₁.heap.get? b = some ob → H b = none → (hidT s₁.heap H).get? b = some ob := fun e z => hidT_get e z
    have notA : ∀ {b : Addr} {ob : Obj} {es : Array DictEntry} {ep : Nat}, s₁.heap.get? b = some ob → ob.data = .dict es ep → H b = none := fun {b ob es ep} e dd => by
      cases z : H b with
      | none => rfl
      | some u =>
        obtain rfl := only_a z
        rw [hobj] at e
        cases e
        exact absurd dd (fun y => by cases y)
    have nsLow : ∀ {b : Addr} {m : Str → Option Value}, s₁.heap.Ns b m → (hidT s₁.heap H).Ns b m := fun {b m} ⟨ob, es, ep, e, dd, r⟩ => ⟨ob, es, ep, low e (notA e dd), dd, r⟩
    have kinLow : K.In (hidT s₁.heap H) := fun b ob e => low (KX b ob e) (by
      cases z : H b with
      | none => rfl
      | some u =>
        obtain rfl := only_a z
        rw [hK (by rw [z]; exact Option.some_ne_none u)] at e
        cases e)
    have hlim := G.T.nolimit
    have hM : Mod K mg (hidT s₁.heap H) := ⟨kinLow, nsLow G.T.g, ⟨mb, nsLow G.T.b, G.T.builtins⟩, hlim.elim fun mc y => ⟨mc, nsLow y.1, y.2⟩⟩
    have ev0 : Env0 l.prog w K mg (hidT s₁.heap H) callerA [] s₁ H := ⟨rfl, hM, fun b ob e => of_hidT e, Nat.le_of_eq (hidT_size _ _), trivial, fun b hb => absurd (show b ∈ ([] : List Addr) from hb) (by simp), hok, .of_eq hg⟩
    refine codeAny_mono ((hF _ kinLow (nsLow G.T.g)).run callerA [] s₁ H ⟨[.ref a], []⟩ [.ref a] [.ref a] (fun v _ => v = .bl true) E0 hr rfl ev0 (hbind s₁ (.ref a)) (.cons rfl .nil) (hsp H a ns hlen hO hS)) fun r s' h => ?_
    cases r with
    | error e => exact False.elim h
    | ok fl =>
      cases fl with
      | next => exact h.elim
      | brk => exact h.elim
      | cont => exact h.elim
      | ret u =>
        obtain ⟨v, H', os, bare, un, hok', rel, ev⟩ := h
        obtain rfl : v = .bl true := ev
        obtain rfl : u = Value.bool true := rel
        refine ⟨rfl, OldK.of_keep fun b ob e => ?_, os, bare⟩
        cases z : H b with
        | none => exact un.keep b ob e z (by intro y; exact absurd (show b ∈ ([] : List Addr) from y) (by simp)) (by simp)
        | some u =>
          rcases hO b with y | ⟨oz, xs, y⟩
          · rw [z] at y
            cases y
          · obtain ⟨e1, _⟩ := hok b _ y
            obtain ⟨e2, _⟩ := hok' b _ (un.frzs b oz _ y)
            rw [e] at e1
            cases e1
            exact e2
  cases hk : K.lookup a with
  | some ob =>
    have e := KX a ob hk
    rw [hobj] at e
    cases e
    refine core (fun _ => none) (fun _ => .inl rfl) (.inr ⟨vs.toArray, _, hk, by rw [List.size_toArray, lenV]; exact hl, by simpa using rv⟩) (fun b u z => ?_) (fun b z => absurd rfl z) fun z => absurd rfl z
    cases (show (none : Option HO) = some u from z)
  | none =>
    refine core (fun b => if b = a then some (.frz { cls := .type "list", data := .seq vs.toArray } (.lst (ns.map V.int))) else none) (fun b => ?_) (.inl ⟨{ cls := .type "list", data := .seq vs.toArray }, if_pos rfl⟩) (fun b u z => ?_) (fun b z => ?_) fun _ => hk
    · by_cases hb : b = a
      · exact .inr ⟨_, _, if_pos hb⟩
      · exact .inl (if_neg hb)
    · by_cases hb : b = a
      · subst hb
        cases (if_pos rfl).symm.trans z
        exact ⟨hobj, by rw [List.length_map]; exact hl, vs, _, rv, hobj⟩
      · cases (if_neg hb).symm.trans z
    · by_cases hb : b = a
      · exact hb
      · exact absurd (if_neg hb) z
end DH

/-! P4 -/
set_option Elab.async false
set_option linter.all false
set_option maxRecDepth 100000
set_option maxHeartbeats 4000000
namespace DH
open PySem PySem.Spec PyProof.Rows L2
/-! ### the core: what a def's text comes to over data -/
inductive BO | add | sub | mul | fdiv | mod | pow
inductive CO | lt | le | gt | ge | eq | ne | inn | nin
inductive Ty | tuple | int | bool
inductive B1 | len | tuple | list | all | any | sum | int | abs | repr | str | dict
inductive B2 | max | min | gcd | lcm
inductive MO | tcount | lcount | tindex | lindex
mutual
inductive Tg | nm (i : Nat) | tp (ts : TgL)
inductive TgL | nil | cons (t : Tg) (ts : TgL)
end
mutual
inductive E
  | var (i : Nat) | peek (i : Nat) | glob (j : Nat)
  | non | bl (b : Bool) | int (i : Int) | str (x : Str)
  | tup (es : EL) | lst (es : EL)
  | bin (o : BO) (a b : E)
  | neg (a : E) | not (a : E) | and (es : EL) | or (es : EL) | ite (c a b : E)
  | cmp (o : CO) (a b : E) | isN (neg : Bool) (a : E) | chain (o p : CO) (a b c : E)
  | ix (a b : E) | slc (a : E) (lo hi : EO) | rev (a : E)
  | call (j : Nat) (es : EL) | callS (j : Nat) (es : EL) | callK (j : Nat) (pm : List Nat) (es : EL)
  | b1 (o : B1) (a : E) | b2 (o : B2) (a b : E) | isi (t : Ty) (a : E)
  | comp (own : List Nat) (t : Tg) (s : Src) (c : EO) (b : E)
  | dic0 | dic1 (x : Str) (a : E)
  | spr (c : Nat) | callP (j g : Nat) (es : EL)
  | comp2 (own : List Nat) (t : Tg) (s : Src) (c : EO) (t1 : Tg) (s1 : Src) (c1 : EO) (b : E) | m1 (o : MO) (a b : E) | dget (a k d : E)
inductive EL | nil | cons (e : E) (es : EL)
inductive EO | no | yes (e : E)
inductive Src | seq (e : E) | rng (a : E) | rng2 (a b : E) | z2 (a b : E) | z3 (a b c : E) | enu (a : E) | revR (a : E)
end
mutual
inductive S
  | set (i : Nat) (e : E) | own (i : Nat) (e : E) | asg (t : Tg) (e : E) | par (is : List (Nat × Bool)) (es : EL)
  | app (i : Nat) (e : E) | setIx (i : Nat) (k e : E)
  | ret (e : E) | ifs (c : E) (a b : SL) | fo (t : Tg) (s : Src) (b : SL) | wh (c : E) (b : SL) | brk | pass | expr (e : E) | never | frz (i : Nat)
  | sprS (c : Nat) (e : E) | sprD (i : Nat) (e : E) | ext (i : Nat) (e : E) | aug (i : Nat) (e : E)
inductive SL | nil | cons (s : S) (ss : SL)
end
mutual
def tslots : Tg → List Nat
  | .nm i => [i]
  | .tp ts => tslotsL ts
def tslotsL : TgL → List Nat
  | .nil => []
  | .cons t ts => tslots t ++ tslotsL ts
end
/-! ### its meaning: what must hold so that what is wanted holds -/
inductive Sl | own (ds : List D) | val (d : D)
abbrev Env := List (Option Sl)
abbrev PSpec := List D → (D → Prop) → Prop
structure Tb where
  f : Nat → PSpec
  c : Nat → D
def tru : D → Option Bool
  | .bool b => some b
  | .list ds => some (!ds.isEmpty)
  | .tuple ds => some (!ds.isEmpty)
  | _ => none
def cutD (ds : List D) (lo hi : Option Int) : List D := (ds.drop (HT.sIx ds.length 0 lo)).take (HT.sIx ds.length ds.length hi - HT.sIx ds.length 0 lo)
def binW (o : BO) (x y : D) (Q : D → Prop) : Prop := match o, x, y with
  | .add, .int i, .int j => Q (.int (i + j))
  | .add, .list a, .list b => a.length + b.length ≤ 1000000 ∧ Q (.list (a ++ b))
  | .add, .tuple a, .tuple b => a.length + b.length ≤ 1000000 ∧ Q (.tuple (a ++ b))
  | .sub, .int i, .int j => Q (.int (i - j))
  | .mul, .int i, .int j => (CMul i j ∨ CMulW i j) ∧ Q (.int (i * j))
  | .mul, .list a, .int k => 0 ≤ k ∧ k ≤ 100000 ∧ a.length * k.toNat ≤ 1000000 ∧ Q (.list (List.replicate k.toNat a).flatten)
  | .mul, .tuple a, .int k => a ≠ [] ∧ 1 ≤ k ∧ k ≤ 1000 ∧ a.length ≤ 1000 ∧ Q (.tuple (List.replicate k.toNat a).flatten)
  | .fdiv, .int i, .int j => (j ≠ 0 ∧ j.natAbs.log2 < 9000) ∧ Q (.int (i.fdiv j))
  | .mod, .int i, .int j => j ≠ 0 ∧ Q (.int (i.fmod j))
  | .pow, .int i, .int j => CPow i j ∧ Q (.int (i ^ j.toNat))
  | _, _, _ => False
/-- what the spring's numbers keep to -/
def sprI (c : Nat) (n : Int) : Prop := match c with
  | 0 => 0 ≤ n
  | 1 => 0 ≤ n ∧ n < 2147483579
  | _ => 0 ≤ n
def cmpW (o : CO) (x y : D) (Q : Bool → Prop) : Prop := match o, x, y with
  | .lt, .int i, .int j => Q (decide (i < j))
  | .le, .int i, .int j => Q (decide (i ≤ j))
  | .gt, .int i, .int j => Q (decide (j < i))
  | .ge, .int i, .int j => Q (decide (j ≤ i))
  | .eq, x, y => SeqAt.shaped x = true ∧ SeqAt.shaped y = true ∧ Q (PyData.eqv x y)
  | .ne, x, y => SeqAt.shaped x = true ∧ SeqAt.shaped y = true ∧ Q (!PyData.eqv x y)
  | .inn, x, .list ds => SeqAt.shaped x = true ∧ SeqAt.shaped (.list ds) = true ∧ Q (ds.any fun z => PyData.eqv z x)
  | .inn, x, .tuple ds => SeqAt.shaped x = true ∧ SeqAt.shaped (.tuple ds) = true ∧ Q (ds.any fun z => PyData.eqv z x)
  | .nin, x, .list ds => SeqAt.shaped x = true ∧ SeqAt.shaped (.list ds) = true ∧ Q (!ds.any fun z => PyData.eqv z x)
  | .nin, x, .tuple ds => SeqAt.shaped x = true ∧ SeqAt.shaped (.tuple ds) = true ∧ Q (!ds.any fun z => PyData.eqv z x)
  | _, _, _ => False
def ixW (x i : D) (Q : D → Prop) : Prop := match x, i with
  | .list ds, .int k => ∃ d, atI ds k = some d ∧ Q d
  | .tuple ds, .int k => ∃ d, atI ds k = some d ∧ Q d
  | _, _ => False
def slcW (x : D) (lo hi : Option Int) (Q : D → Prop) : Prop := match x with
  | .list ds => Q (.list (cutD ds lo hi))
  | .tuple ds => Q (.tuple (cutD ds lo hi))
  | _ => False
def revW (x : D) (Q : D → Prop) : Prop := match x with
  | .list ds => Q (.list ds.reverse)
  | .tuple ds => Q (.tuple ds.reverse)
  | _ => False
def b1W (o : B1) (x : D) (Q : D → Prop) : Prop := match o, x with
  | .len, .list ds => Q (.int ds.length)
  | .len, .tuple ds => Q (.int ds.length)
  | .tuple, .list ds => Q (.tuple ds)
  | .tuple, .tuple ds => Q (.tuple ds)
  | .list, .list ds => Q (.list ds)
  | .list, .tuple ds => Q (.list ds)
  | .all, .list ds => ∃ bs : List Bool, ds = bs.map PyData.bool ∧ Q (.bool (bs.all id))
  | .any, .list ds => ∃ bs : List Bool, ds = bs.map PyData.bool ∧ Q (.bool (bs.any id))
  | .sum, .list ds => ∃ ns : List Int, ds = ns.map PyData.int ∧ Q (.int ns.sum)
  | .int, .int i => Q (.int i)
  | .int, .bool b => Q (.int (if b then 1 else 0))
  | .abs, .int i => Q (.int i.natAbs)
  | .repr, .list ds => (PyData.list ds).showable = true ∧ (PyData.list ds).hasDict = false ∧ (PyData.list ds).depth ≤ 60 ∧ (PyData.list ds).shown.length ≤ sizeLine ∧ Q (.str (PyData.list ds).shown)
  | .repr, .tuple ds => (PyData.tuple ds).showable = true ∧ (PyData.tuple ds).hasDict = false ∧ (PyData.tuple ds).depth ≤ 60 ∧ (PyData.tuple ds).shown.length ≤ sizeLine ∧ Q (.str (PyData.tuple ds).shown)
  | .dict, .tuple ds => ∃ es : List (Key × D), ds = es.map (fun p => PyData.tuple [kD p.1, p.2]) ∧ (es.map (·.1)).Nodup ∧ Q (.dict (es.map fun p => (kD p.1, p.2)))
  | .str, .int i => i.natAbs.log2 < 1920 ∧ Q (.str (toString i))
  | _, _ => False
def b2W (o : B2) (x y : D) (Q : D → Prop) : Prop := match o, x, y with
  | .max, .int i, .int j => Q (.int (max i j))
  | .min, .int i, .int j => Q (.int (min i j))
  | .gcd, .int i, .int j => Q (.int (Nat.gcd i.natAbs j.natAbs : Nat))
  | .lcm, .int i, .int j => i.natAbs.log2 < 13000 ∧ j.natAbs.log2 < 13000 ∧ Q (.int (Nat.lcm i.natAbs j.natAbs : Nat))
  | _, _, _ => False
def isiD : Ty → D → Bool
  | .tuple, .tuple _ => true
  | .int, .int _ => true
  | .int, .bool _ => true
  | .bool, .bool _ => true
  | _, _ => false
mutual
def asg : Tg → D → Env → Option Env
  | .nm i, d, ρ => some (ρ.set i (some (.val d)))
  | .tp ts, .tuple ds, ρ => asgL ts ds ρ
  | .tp _, _, _ => none
def asgL : TgL → List D → Env → Option Env
  | .nil, [], ρ => some ρ
  | .cons t ts, d :: ds, ρ => (asg t d ρ).bind (asgL ts ds)
  | _, _, _ => none
end
def asgW (t : Tg) (d : D) (ρ : Env) (k : Env → Prop) : Prop := ∃ ρ', asg t d ρ = some ρ' ∧ k ρ'
def wipeE (ρ : Env) : List Nat → Env
  | [] => ρ
  | v :: vs => (wipeE ρ vs).set v none
def getV (ρ : Env) (i : Nat) : Option D := match ρ[i]? with
  | some (some (.val d)) => some d
  | _ => none
def getO (ρ : Env) (i : Nat) : Option (List D) := match ρ[i]? with
  | some (some (.own ds)) => some ds
  | _ => none
def compW (g : D → (Env → Prop) → Prop) (t : Env → (Bool → Prop) → Prop) (b : Env → (D → Prop) → Prop) : List D → List D → (List D → Prop) → Prop
  | [], acc, Q => Q acc
  | d :: ds, acc, Q => g d fun ρ1 => t ρ1 fun k => match k with
    | true => b ρ1 fun y => compW g t b ds (acc ++ [y]) Q
    | false => compW g t b ds acc Q
def compW2 (g : D → (Env → Prop) → Prop) (t : Env → (Bool → Prop) → Prop) (src : Env → (List D → Prop) → Prop) (g1 : Env → D → (Env → Prop) → Prop) (t1 : Env → (Bool → Prop) → Prop) (b : Env → (D → Prop) → Prop) : List D → List D → (List D → Prop) → Prop
  | [], acc, Q => Q acc
  | d :: ds, acc, Q => g d fun ρ1 => t ρ1 fun k => match k with
    | true => src ρ1 fun items => items.length ≤ 1000 ∧ compW (g1 ρ1) t1 b items acc fun acc' => compW2 g t src g1 t1 b ds acc' Q
    | false => compW2 g t src g1 t1 b ds acc Q
def m1W (o : MO) (x y : D) (Q : D → Prop) : Prop := match o, x with
  | .tcount, .tuple ds => SeqAt.shaped (.tuple ds) = true ∧ SeqAt.shaped y = true ∧ Q (.int ((ds.countP fun z => PyData.eqv z y : Nat) : Int))
  | .lcount, .list ds => SeqAt.shaped (.list ds) = true ∧ SeqAt.shaped y = true ∧ Q (.int ((ds.countP fun z => PyData.eqv z y : Nat) : Int))
  | .tindex, .tuple ds => SeqAt.shaped (.tuple ds) = true ∧ SeqAt.shaped y = true ∧ ∃ (j : Nat) (z : D), ds[j]? = some z ∧ PyData.eqv z y = true ∧ (∀ (m : Nat) (z' : D), m < j → ds[m]? = some z' → PyData.eqv z' y = false) ∧ Q (.int (j : Nat))
  | .lindex, .list ds => SeqAt.shaped (.list ds) = true ∧ SeqAt.shaped y = true ∧ ∃ (j : Nat) (z : D), ds[j]? = some z ∧ PyData.eqv z y = true ∧ (∀ (m : Nat) (z' : D), m < j → ds[m]? = some z' → PyData.eqv z' y = false) ∧ Q (.int (j : Nat))
  | _, _ => False
def moK (o : MO) (x : D) : Prop := match o with
  | .tcount => ∃ ds, x = .tuple ds
  | .tindex => ∃ ds, x = .tuple ds
  | .lcount => ∃ ds, x = .list ds
  | .lindex => ∃ ds, x = .list ds
/-- the value at a key -/
def valD (es : List (Key × D)) (k : Key) : Option D := (es.find? fun p => decide (p.1 = k)).map (·.2)
def rngD (lo : Int) (n : Nat) : List D := (List.range n).map fun (k : Nat) => PyData.int (lo + k)
def z2D (xs ys : List D) : List D := (xs.zip ys).map fun p => PyData.tuple [p.1, p.2]
def z3D (xs ys zs : List D) : List D := (xs.zip (ys.zip zs)).map fun p => PyData.tuple [p.1, p.2.1, p.2.2]
def enD (xs : List D) : List D := xs.zipIdx.map fun p => PyData.tuple [.int (p.2 : Nat), p.1]
def itemsOf : D → Option (List D)
  | .list ds => some ds
  | .tuple ds => some ds
  | _ => none
section
variable (T : Tb)
mutual
def wpE : E → Env → (D → Prop) → Prop
  | .var i, ρ, Q => ∃ d, getV ρ i = some d ∧ Q d
  | .peek i, ρ, Q => ∃ ds, getO ρ i = some ds ∧ Q (.list ds)
  | .glob j, _, Q => Q (T.c j)
  | .non, _, Q => Q .none
  | .bl b, _, Q => Q (.bool b)
  | .int i, _, Q => Q (.int i)
  | .str x, _, Q => Q (.str x)
  | .tup es, ρ, Q => wpL es ρ fun ds => Q (.tuple ds)
  | .lst es, ρ, Q => wpL es ρ fun ds => Q (.list ds)
  | .bin o a b, ρ, Q => wpE a ρ fun x => wpE b ρ fun y => binW o x y Q
  | .neg a, ρ, Q => wpE a ρ fun x => ∃ i, x = .int i ∧ Q (.int (-i))
  | .not a, ρ, Q => wpE a ρ fun x => ∃ b, tru x = some b ∧ Q (.bool (!b))
  | .and es, ρ, Q => wpAnd es ρ Q
  | .or es, ρ, Q => wpOr es ρ Q
  | .ite c a b, ρ, Q => wpE c ρ fun x => ∃ k, tru x = some k ∧ match k with
    | true => wpE a ρ Q
    | false => wpE b ρ Q
  | .cmp o a b, ρ, Q => wpE a ρ fun x => wpE b ρ fun y => cmpW o x y fun k => Q (.bool k)
  | .isN n a, ρ, Q => wpE a ρ fun x => Q (.bool (n ^^ (match x with | .none => true | _ => false)))
  | .chain o p a b c, ρ, Q => wpE a ρ fun x => wpE b ρ fun y => cmpW o x y fun k => match k with
    | true => wpE c ρ fun z => cmpW p y z fun k => Q (.bool k)
    | false => Q (.bool false)
  | .ix a b, ρ, Q => wpE a ρ fun x => wpE b ρ fun i => ixW x i Q
  | .slc a lo hi, ρ, Q => wpE a ρ fun x => wpO lo ρ fun l => wpO hi ρ fun h => slcW x l h Q
  | .rev a, ρ, Q => wpE a ρ fun x => revW x Q
  | .call j es, ρ, Q => wpL es ρ fun ds => T.f j ds Q
  | .callS j es, ρ, Q => wpL es ρ fun ds => T.f j ds Q
  | .callK j pm es, ρ, Q => wpL es ρ fun ds => T.f j (pm.map fun i => ds.getD i .none) Q
  | .b1 o a, ρ, Q => wpE a ρ fun x => b1W o x Q
  | .b2 o a b, ρ, Q => wpE a ρ fun x => wpE b ρ fun y => b2W o x y Q
  | .isi t a, ρ, Q => wpE a ρ fun x => Q (.bool (isiD t x))
  | .comp own t s c b, ρ, Q => wpSrc s ρ fun items => compW (fun d k => asgW t d (wipeE ρ own) k) (fun ρ1 k => wpC c ρ1 k) (fun ρ1 k => wpE b ρ1 k) items [] fun ys => Q (.list ys)
  | .comp2 own t s c t1 s1 c1 b, ρ, Q => wpSrc s ρ fun items => items.length ≤ 1000 ∧ compW2 (fun d k => asgW t d (wipeE ρ own) k) (fun ρ1 k => wpC c ρ1 k) (fun ρ1 k => wpSrc s1 ρ1 k) (fun ρ1 d k => asgW t1 d (wipeE ρ1 (tslots t1)) k) (fun ρ1 k => wpC c1 ρ1 k) (fun ρ1 k => wpE b ρ1 k) items [] fun ys => Q (.list ys)
  | .m1 o a b, ρ, Q => wpE a ρ fun x => moK o x ∧ wpE b ρ fun y => m1W o x y Q
  | .dget a k d, ρ, Q => wpE a ρ fun x => ∃ es : List (Key × D), x = .dict (es.map fun p => (kD p.1, p.2)) ∧ wpE k ρ fun y => wpE d ρ fun z => ∃ kk : Key, y = kD kk ∧ Q ((valD es kk).getD z)
  | .spr c, _, Q => ∀ n : Int, sprI c n → Q (.int n)
  | .callP j g es, ρ, Q => wpL es ρ fun ds => T.f g ds fun d => ∃ x y z : Int, d = .list [.int x, .int y, .int z] ∧ (sprI 0 x ∧ sprI 1 y ∧ sprI 2 z) ∧ T.f j [] Q
  | .dic0, _, Q => Q (.dict [])
  | .dic1 x a, ρ, Q => wpE a ρ fun y => y.hasDict = false ∧ Q (.dict [(.str x, y)])
def wpL : EL → Env → (List D → Prop) → Prop
  | .nil, _, Q => Q []
  | .cons e es, ρ, Q => wpE e ρ fun d => wpL es ρ fun ds => Q (d :: ds)
def wpAnd : EL → Env → (D → Prop) → Prop
  | .nil, _, _ => False
  | .cons e .nil, ρ, Q => wpE e ρ fun x => ∃ b, x = .bool b ∧ Q (.bool b)
  | .cons e (.cons e2 es), ρ, Q => wpE e ρ fun x => ∃ b, x = .bool b ∧ match b with
    | true => wpAnd (.cons e2 es) ρ Q
    | false => Q (.bool false)
def wpOr : EL → Env → (D → Prop) → Prop
  | .nil, _, _ => False
  | .cons e .nil, ρ, Q => wpE e ρ fun x => ∃ b, x = .bool b ∧ Q (.bool b)
  | .cons e (.cons e2 es), ρ, Q => wpE e ρ fun x => ∃ b, x = .bool b ∧ match b with
    | true => Q (.bool true)
    | false => wpOr (.cons e2 es) ρ Q
def wpO : EO → Env → (Option Int → Prop) → Prop
  | .no, _, Q => Q none
  | .yes e, ρ, Q => wpE e ρ fun x => ∃ i, x = .int i ∧ Q (some i)
def wpC : EO → Env → (Bool → Prop) → Prop
  | .no, _, Q => Q true
  | .yes e, ρ, Q => wpE e ρ fun x => ∃ b, tru x = some b ∧ Q b
def wpSrc : Src → Env → (List D → Prop) → Prop
  | .seq e, ρ, Q => wpE e ρ fun x => ∃ ds, itemsOf x = some ds ∧ Q ds
  | .rng a, ρ, Q => wpE a ρ fun x => ∃ j, x = .int j ∧ j ≤ 1000000 ∧ -1000000 ≤ j ∧ Q (rngD 0 j.toNat)
  | .rng2 a b, ρ, Q => wpE a ρ fun x => wpE b ρ fun y => ∃ i j, x = .int i ∧ y = .int j ∧ (-1000000 ≤ i ∧ i ≤ 1000000 ∧ -1000000 ≤ j ∧ j ≤ 1000000) ∧ Q (rngD i (j - i).toNat)
  | .z2 a b, ρ, Q => wpE a ρ fun x => wpE b ρ fun y => ∃ xs ys, itemsOf x = some xs ∧ itemsOf y = some ys ∧ Q (z2D xs ys)
  | .z3 a b c, ρ, Q => wpE a ρ fun x => wpE b ρ fun y => wpE c ρ fun z => ∃ xs ys zs, itemsOf x = some xs ∧ itemsOf y = some ys ∧ itemsOf z = some zs ∧ Q (z3D xs ys zs)
  | .enu a, ρ, Q => wpE a ρ fun x => ∃ xs, itemsOf x = some xs ∧ Q (enD xs)
  | .revR a, ρ, Q => wpE a ρ fun x => ∃ j, x = .int j ∧ j ≤ 1000000 ∧ -1000000 ≤ j ∧ Q (rngD 0 j.toNat).reverse
end
end
structure Po where
  nx : Env → Prop
  rt : D → Prop
  bk : Env → Prop
  ct : Env → Prop
def forW (g : D → Env → (Env → Prop) → Prop) (b : Env → Po → Prop) : List D → Env → Po → Prop
  | [], ρ, N => N.nx ρ
  | d :: ds, ρ, N => g d ρ fun ρ1 => b ρ1 { nx := fun ρ2 => forW g b ds ρ2 N, rt := N.rt, bk := N.nx, ct := fun ρ2 => forW g b ds ρ2 N }
def whileW (c : Env → (Bool → Prop) → Prop) (b : Env → Po → Prop) : Nat → Env → Po → Prop
  | 0, _, _ => False
  | n + 1, ρ, N => c ρ fun k => match k with
    | true => b ρ { nx := fun ρ2 => whileW c b n ρ2 N, rt := N.rt, bk := N.nx, ct := fun ρ2 => whileW c b n ρ2 N }
    | false => N.nx ρ
def parE : List (Nat × Bool) → List D → Env → Env
  | (i, o) :: is, d :: ds, ρ => parE is ds (ρ.set i (some (match o with | true => .own [] | false => .val d)))
  | _, _, ρ => ρ
section
variable (T : Tb)
mutual
def wpS : S → Env → Po → Prop
  | .set i e, ρ, N => wpE T e ρ fun d => N.nx (ρ.set i (some (.val d)))
  | .own i e, ρ, N => wpE T e ρ fun d => ∃ ds, d = .list ds ∧ N.nx (ρ.set i (some (.own ds)))
  | .asg t e, ρ, N => wpE T e ρ fun d => asgW t d ρ N.nx
  | .par is es, ρ, N => wpL T es ρ fun ds => N.nx (parE is ds ρ)
  | .app i e, ρ, N => ∃ ds, getO ρ i = some ds ∧ ds.length < 1000000 ∧ wpE T e ρ fun d => N.nx (ρ.set i (some (.own (ds ++ [d]))))
  | .setIx i k e, ρ, N => ∃ ds, getO ρ i = some ds ∧ wpE T e ρ fun d => wpE T k ρ fun kd => ∃ n j, kd = .int n ∧ ixN ds.length n = some j ∧ N.nx (ρ.set i (some (.own (ds.set j d))))
  | .ret e, ρ, N => wpE T e ρ N.rt
  | .ifs c a b, ρ, N => wpE T c ρ fun x => ∃ k, tru x = some k ∧ match k with
    | true => wpSs a ρ N
    | false => wpSs b ρ N
  | .fo t s b, ρ, N => wpSrc T s ρ fun items => forW (fun d ρ k => asgW t d ρ k) (fun ρ N => wpSs b ρ N) items ρ N
  | .wh c b, ρ, N => ∃ n, whileW (fun ρ k => wpE T c ρ fun x => ∃ t, tru x = some t ∧ k t) (fun ρ N => wpSs b ρ N) n ρ N
  | .brk, ρ, N => N.bk ρ
  | .pass, ρ, N => N.nx ρ
  | .expr e, ρ, N => wpE T e ρ fun _ => N.nx ρ
  | .sprS c e, ρ, N => wpE T e ρ fun d => ∃ n, d = .int n ∧ sprI c n ∧ N.nx ρ
  | .sprD i e, ρ, N => wpE T e ρ fun d => ∃ m, d = .int m ∧ (0 < m ∧ m < 2 ^ 30) ∧ ∀ r : Int, 0 ≤ r → r < m → N.nx (ρ.set i (some (.val (.int r))))
  | .ext i e, ρ, N => ∃ ds, getO ρ i = some ds ∧ wpE T e ρ fun d => ∃ es, d = .list es ∧ ds.length + es.length ≤ 1000000 ∧ N.nx (ρ.set i (some (.own (ds ++ es))))
  | .aug i e, ρ, N => ∃ n, getV ρ i = some (.int n) ∧ wpE T e ρ fun d => ∃ m, d = .int m ∧ N.nx (ρ.set i (some (.val (.int (n + m)))))
  | .never, _, _ => False
  | .frz i, ρ, N => ∃ ds, getO ρ i = some ds ∧ N.nx (ρ.set i (some (.val (.list ds))))
def wpSs : SL → Env → Po → Prop
  | .nil, ρ, N => N.nx ρ
  | .cons s ss, ρ, N => wpS s ρ { nx := fun ρ1 => wpSs ss ρ1 N, rt := N.rt, bk := N.bk, ct := N.ct }
end
end
/-- the environment at a def's entry -/
def env0 (n : Nat) (sp : Bool) (ds : List D) : Env := (if sp then [none] else []) ++ ds.map (fun d => some (.val d)) ++ List.replicate n none
/-- what a body promises: n how many names besides the parameters -/
def bodyW (T : Tb) (n : Nat) (sp : Bool) (b : SL) : PSpec := fun ds Q => wpSs T b (env0 n sp ds) { nx := fun _ => Q .none, rt := Q, bk := fun _ => False, ct := fun _ => False }
end DH

/-! P5 -/
set_option Elab.async false
set_option linter.all false
set_option maxRecDepth 100000
set_option maxHeartbeats 4000000
namespace DH
open PySem PySem.Spec PyProof.Rows L2
/-! ### a text is one of the core's: a look that is computed -/
structure Ck where
  N : List Str
  sc : Scope
  fc : Bool × List Str
  F : List (Nat × Str × Bool × Nat)
  C : List (Nat × Str)
  W : List (Nat × List Str × List Nat)
  mth : List Str
  spn : Bool
  S : List (Nat × Str × Nat) := []
  fr : Bool := false
def isLoc (k : Ck) (x : Str) : Bool := match k.sc.names.lookup x with
  | some .local => true
  | _ => false
def visB (k : Ck) (i : Nat) (x : Str) : Bool := decide (k.N[i]? = some x) && ((match k.sc.names.lookup x with
  | some .local => true
  | some .cell => true
  | some .free => true
  | _ => false) && (!(x == ("__debug__" : Str)) && !(x == ("__classdict__" : Str))))
def fcB (k : Ck) (x : Str) : Bool := k.fc.1 || k.fc.2.contains x
def stoB (k : Ck) (i : Nat) (x : Str) : Bool := decide (k.N[i]? = some x) && (match k.sc.names.lookup x with
  | some .local => true
  | some .cell => fcB k x
  | _ => false)
def gloB (k : Ck) (x : Str) : Bool := (match k.sc.names.lookup x with
  | some .globalImplicit => true
  | _ => false) && !(x == ("__debug__" : Str))
def bltB (k : Ck) (x y : Str) : Bool := gloB k x && decide (x = y)
def chkBO : BO → Operator → Bool
  | .add, .Add => true
  | .sub, .Sub => true
  | .mul, .Mult => true
  | .fdiv, .FloorDiv => true
  | .mod, .Mod => true
  | .pow, .Pow => true
  | _, _ => false
def chkCO : CO → CmpOp → Bool
  | .lt, .Lt => true
  | .le, .LtE => true
  | .gt, .Gt => true
  | .ge, .GtE => true
  | .eq, .Eq => true
  | .ne, .NotEq => true
  | .inn, .In => true
  | .nin, .NotIn => true
  | _, _ => false
/-- for chains: no in, not in -/
def chkCC : CO → Bool
  | .inn => false
  | .nin => false
  | _ => true
def tyN : Ty → Str
  | .tuple => "tuple"
  | .int => "int"
  | .bool => "bool"
def b1N : B1 → Str
  | .len => "len"
  | .tuple => "tuple"
  | .list => "list"
  | .all => "all"
  | .any => "any"
  | .sum => "sum"
  | .int => "int"
  | .abs => "abs"
  | .repr => "repr"
  | .str => "str"
  | .dict => "dict"
def b2N : B2 → Str
  | .max => "max"
  | .min => "min"
  | .gcd => "gcd"
  | .lcm => "lcm"
def mthB (k : Ck) : B2 → Bool
  | .max => true
  | .min => true
  | .gcd => k.mth.contains "gcd"
  | .lcm => k.mth.contains "lcm"
def isSet : Expr → Bool
  | .Set .. => true
  | _ => false
def isIf : Expr → Bool
  | .IfExp .. => true
  | _ => false
def isStar : Expr → Bool
  | .Starred .. => true
  | _ => false
def isComp : Expr → Bool
  | .ListComp .. => true
  | .SetComp .. => true
  | .DictComp .. => true
  | _ => false
def isTup : Expr → Bool
  | .Tuple .. => true
  | _ => false
def isRevSl : Expr → Bool
  | .Slice none none (some (.UnaryOp .USub (.Constant (.int 1) _ _) _)) _ => true
  | _ => false
def isSlc : Expr → Bool
  | .Slice .. => true
  | _ => false
def elLen : EL → Nat
  | .nil => 0
  | .cons _ es => elLen es + 1
def isPeek : E → Bool
  | .peek _ => true
  | _ => false
def noPeeks : EL → Bool
  | .nil => true
  | .cons e es => !isPeek e && noPeeks es
mutual
def chkTg (k : Ck) : Tg → Expr → Bool
  | .nm i, .Name x _ => stoB k i x
  | .tp ts, .Tuple es _ _ => chkTgL k ts es
  | _, _ => false
def chkTgL (k : Ck) : TgL → List Expr → Bool
  | .nil, [] => true
  | .cons t ts, e :: es => chkTg k t e && chkTgL k ts es
  | _, _ => false
end
mutual
/-- slot 0 is not stored -/
def no0 : Tg → Bool
  | .nm i => decide (i ≠ 0)
  | .tp ts => no0L ts
def no0L : TgL → Bool
  | .nil => true
  | .cons t ts => no0 t && no0L ts
end
def moN : MO → Str
  | .tcount => "count"
  | .lcount => "count"
  | .tindex => "index"
  | .lindex => "index"
/-- what a method is called of -/
def plainB : Expr → Bool
  | .Name .. => true
  | .Subscript .. => true
  | _ => false
def kwN (kws : List Keyword) : List (Option Str) := kws.map fun q => q.arg
def blkCk (k : Ck) (scope : Scope) : Ck := { k with sc := relS scope k.sc, fc := (false, (scope.names.filter fun p => p.2 == .cell).map (·.1)) }
def ownP (k : Ck) (own : List Nat) : List (Str × Nat) := own.map fun i => (k.N.getD i Str.empty, i)
mutual
def chkE (k : Ck) : E → Expr → Bool
  | .var i, .Name x _ => visB k i x
  | .peek i, .Name x _ => visB k i x
  | .glob j, .Name x _ => gloB k x && k.C.contains (j, x)
  | .non, .Constant .none _ _ => true
  | .bl b, .Constant (.bool c) _ _ => b == c
  | .int i, .Constant (.int j) _ _ => decide (i = j)
  | .str x, .Constant (.str y) _ _ => decide (x = y)
  | .tup es, .Tuple xs _ _ => chkL k es xs && (noPeeks es && decide (xs.length ≤ 1000))
  | .lst es, .List xs _ => chkL k es xs && (noPeeks es && decide (xs.length ≤ 1000))
  | .bin o a b, .BinOp x op y _ => chkBO o op && (chkE k a x && chkE k b y)
  | .neg a, .UnaryOp .USub x _ => chkE k a x
  | .not a, .UnaryOp .Not x _ => chkE k a x && !isIf x
  | .and es, .BoolOp .And xs _ => chkL k es xs && xs.all fun x => !isIf x
  | .or es, .BoolOp .Or xs _ => chkL k es xs && xs.all fun x => !isIf x
  | .ite c a b, .IfExp t x y _ => chkE k c t && (!isIf t && (chkE k a x && (!isPeek a && (chkE k b y && !isPeek b))))
  | .cmp o a b, .Compare x ops ys _ => (match ops, ys with
    | [op], [y] => chkCO o op && (chkE k a x && (chkE k b y && (!isSet y && (chkCC o || !isTup y))))
    | _, _ => false)
  | .isN n a, .Compare x ops ys _ => (match ops, ys with
    | [.Is], [.Constant .none _ _] => chkE k a x && !n
    | [.IsNot], [.Constant .none _ _] => chkE k a x && n
    | _, _ => false)
  | .chain o p a b c, .Compare x ops ys _ => (match ops, ys with
    | [op, op'], [y, z] => chkCO o op && (chkCO p op' && (chkCC o && (chkCC p && (chkE k a x && (chkE k b y && chkE k c z)))))
    | _, _ => false)
  | .ix a b, .Subscript x y _ => chkE k a x && (chkE k b y && !isSlc y)
  | .slc a lo hi, .Subscript x (.Slice l h none _) _ => chkE k a x && (chkO k lo l && chkO k hi h)
  | .rev a, .Subscript x y _ => chkE k a x && isRevSl y
  | .call j es, .Call (.Name x _) xs [] _ => gloB k x && (k.F.contains (j, x, false, elLen es) && (chkL k es xs && noPeeks es))
  | .callS j es, .Call (.Name x _) (.Name y _ :: xs) [] _ => gloB k x && (k.F.contains (j, x, true, elLen es) && (k.spn && (visB k 0 y && (chkL k es xs && noPeeks es))))
  | .callK j pm es, .Call (.Name x _) [] kws _ => gloB k x && (k.F.contains (j, x, false, elLen es) && (chkK k es kws && (noPeeks es && (k.W.any fun q => decide (q.1 = j) && (decide (q.2.2 = pm) && decide (kwN kws = q.2.1.map some))))))
  | .b1 o a, .Call (.Name x _) xs [] _ => (match xs with
    | [y] => bltB k x (b1N o) && chkE k a y
    | _ => false)
  | .b2 o a b, .Call (.Name x _) xs [] _ => (match xs with
    | [y, z] => bltB k x (b2N o) && (mthB k o && (chkE k a y && (chkE k b z && (!isPeek a && !isPeek b))))
    | _ => false)
  | .isi t a, .Call (.Name x _) xs [] _ => (match xs with
    | [y, .Name z _] => bltB k x "isinstance" && (bltB k z (tyN t) && (chkE k a y && !isPeek a))
    | _ => false)
  | .comp own t s c b, .ListComp elt gens scope _ => (match gens with
    | [⟨tg, iter, ifs, a⟩] => decide (a = 0) && (blkC k.N k.sc scope (ownP k own) && (chkS k s tg iter && (chkTg (blkCk k scope) t tg && (chkC (blkCk k scope) c ifs && (chkE (blkCk k scope) b elt && (!isPeek b && (!isSet iter && ((!k.spn || (no0 t && !own.contains 0)) && (tslots t).all fun i => own.contains i))))))))
    | _ => false)
  | .comp2 own t s c t1 s1 c1 b, .ListComp elt gens scope _ => (match gens with
    | [⟨tg, iter, ifs, a⟩, ⟨tg1, iter1, ifs1, a1⟩] => decide (a = 0) && (decide (a1 = 0) && (blkC k.N k.sc scope (ownP k own) && (chkS k s tg iter && (chkTg (blkCk k scope) t tg && (chkC (blkCk k scope) c ifs && (chkS (blkCk k scope) s1 tg1 iter1 && (chkTg (blkCk k scope) t1 tg1 && (chkC (blkCk k scope) c1 ifs1 && (chkE (blkCk k scope) b elt &&
      (!isPeek b && (!isSet iter && (!isSet iter1 && ((!k.spn || (no0 t && (no0 t1 && !own.contains 0))) && ((tslots t).all (fun i => own.contains i) && (tslots t1).all fun i => own.contains i))))))))))))))
    | _ => false)
  | .m1 o a b, .Call (.Attribute x m ap) xs [] cp => (match xs with
    | [y] => decide (m = moN o) && (chkE k a x && (chkE k b y && (!isPeek b && ((ap.endLine == cp.line) && (!isPeek a && plainB x)))))
    | _ => false)
  | .dget a q d, .Call (.Attribute x m ap) xs [] cp => (match xs with
    | [y, z] => decide (m = ("get" : Str)) && (chkE k a x && (chkE k q y && (chkE k d z && (!isPeek a && (!isPeek q && (!isPeek d && ((ap.endLine == cp.line) && plainB x)))))))
    | _ => false)
  | .spr c, .Subscript (.Name x _) (.Constant (.int j) _ _) _ => k.spn && (visB k 0 x && (decide (j = (c : Int)) && decide (c < 3)))
  | .callP j g es, .Call (.Name x _) ys [] _ => (match ys with
    | [.Call (.Name y _) xs [] _] => gloB k x && (k.F.contains (j, x, true, 0) && (gloB k y && ((k.S.contains (g, y, elLen es)) && (chkL k es xs && noPeeks es))))
    | _ => false)
  | .dic0, .Dict [] [] _ => true
  | .dic1 x a, .Dict ks vs _ => (match ks, vs with
    | [some (.Constant (.str y) _ _)], [v] => decide (x = y) && (chkE k a v && !isPeek a)
    | _, _ => false)
  | _, _ => false
def chkL (k : Ck) : EL → List Expr → Bool
  | .nil, [] => true
  | .cons e es, x :: xs => chkE k e x && chkL k es xs
  | _, _ => false
def chkK (k : Ck) : EL → List Keyword → Bool
  | .nil, [] => true
  | .cons e es, ⟨_, x, _⟩ :: xs => chkE k e x && chkK k es xs
  | _, _ => false
def chkO (k : Ck) : EO → Option Expr → Bool
  | .no, none => true
  | .yes e, some x => chkE k e x
  | _, _ => false
def chkC (k : Ck) : EO → List Expr → Bool
  | .no, xs => xs.isEmpty
  | .yes e, xs => (match xs with
    | [x] => chkE k e x && !isIf x
    | _ => false)
def chkS (k : Ck) : Src → Expr → Expr → Bool
  | .seq e, _, x => chkE k e x && !isPeek e
  | .rng a, _, w => (match w with
    | .Call (.Name f _) [x] [] _ => bltB k f "range" && chkE k a x
    | _ => false)
  | .rng2 a b, _, w => (match w with
    | .Call (.Name f _) [x, y] [] _ => bltB k f "range" && (chkE k a x && chkE k b y)
    | _ => false)
  | .z2 a b, tg, w => isTup tg && (match w with
    | .Call (.Name f _) [x, y] [] _ => bltB k f "zip" && (chkE k a x && (!isPeek a && (chkE k b y && !isPeek b)))
    | _ => false)
  | .z3 a b c, tg, w => isTup tg && (match w with
    | .Call (.Name f _) [x, y, z] [] _ => bltB k f "zip" && (chkE k a x && (!isPeek a && (chkE k b y && (!isPeek b && (chkE k c z && !isPeek c)))))
    | _ => false)
  | .enu a, tg, w => isTup tg && (match w with
    | .Call (.Name f _) [x] [] _ => bltB k f "enumerate" && (chkE k a x && !isPeek a)
    | _ => false)
  | .revR a, _, w => (match w with
    | .Call (.Name f _) [.Call (.Name g _) [x] [] _] [] _ => bltB k f "reversed" && (bltB k g "range" && chkE k a x)
    | _ => false)
end
/-- expressions that make a new list -/
def isFresh : E → Bool
  | .lst _ => true
  | .comp .. => true
  | .comp2 .. => true
  | .b1 .list _ => true
  | .bin .mul (.lst _) _ => true
  | _ => false
/-- a comprehension that is stored at once -/
def swC (k : Ck) (y : Str) (py : Pos) : Expr → Bool
  | .ListComp _ _ scope pos => isLoc k y && ((py.line == pos.line) && !(scope.names.any fun p => p.1 == y && (p.2 == .local || p.2 == .cell)))
  | _ => false
def swN (k : Ck) (y : Str) : Expr → Bool
  | .ListComp .. => !isLoc k y
  | .SetComp .. => false
  | .DictComp .. => false
  | _ => true
def namesOf : List Expr → Option (List (Str × Pos))
  | [] => some []
  | .Name x p :: r => (namesOf r).map fun l => (x, p) :: l
  | _ :: _ => none
def parN (k : Ck) : List (Nat × Bool) → List (Str × Pos) → Bool
  | [], [] => true
  | (i, _) :: is, (x, _) :: ns => stoB k i x && parN k is ns
  | _, _ => false
/-- what becomes changeable is written [] -/
def parO : List (Nat × Bool) → EL → Bool
  | [], .nil => true
  | (_, false) :: is, .cons _ es => parO is es
  | (_, true) :: is, .cons (.lst .nil) es => parO is es
  | _, _ => false
def line0 (ns : List (Str × Pos)) : Nat := (ns.head?.map (·.2.line)).getD 0
/-- stored from the right, no tuple made: two or three plain locals -/
def swapsY (k : Ck) (ns : List (Str × Pos)) (xs : List Expr) : Bool :=
  (ns.length == 2 || ns.length == 3) && (decide (xs.length = ns.length) && (xs.all (fun x => !isStar x) && (ns.all (fun p => isLoc k p.1 && p.2.line == line0 ns) && (decide ((ns.map (·.1)).Nodup) && (!xs.all (foldedForSure 8) && !xs.all (constantsAlone 8))))))
/-- a tuple is made -/
def swapsN (k : Ck) (ns : List (Str × Pos)) (xs : List Expr) : Bool :=
  decide (k.sc.kind = .function) && (!(ns.length == 2 || ns.length == 3) || (ns.any (fun p => !(isLoc k p.1)) || xs.all (foldedForSure 8)))
def setK (k : Ck) (y : Str) (py : Pos) (e : Expr) : Bool := swN k y e || swC k y py e
mutual
def chkSt (k : Ck) : S → Stmt → Bool
  | .set i e, .Assign [.Name y py] x _ => stoB k i y && (chkE k e x && (!isPeek e && (setK k y py x && !(k.spn && decide (i = 0)))))
  | .own i e, .Assign [.Name y py] x _ => stoB k i y && (chkE k e x && (isFresh e && (setK k y py x && !(k.spn && decide (i = 0)))))
  | .asg t e, .Assign [.Tuple ts q p] x _ => chkTg k t (.Tuple ts q p) && (chkE k e x && (!isPeek e && (!isTup x && (!isComp x && (!k.spn || no0 t)))))
  | .par is es, .Assign [.Tuple ts _ _] (.Tuple xs _ _) _ => (match namesOf ts with
    | none => false
    | some ns => chkL k es xs && (noPeeks es && (parN k is ns && (parO is es && (decide ((is.map (·.1)).Nodup) && (decide (is.length = xs.length ∧ xs.length ≤ 1000) && (decide ((is.filter (·.2)).length ≤ 9) && ((!k.spn || !(is.map (·.1)).contains 0) && (swapsY k ns xs || swapsN k ns xs)))))))))
  | .app i e, .Expr (.Call (.Attribute (.Name x _) m ap) xs [] cp) _ => (match xs with
    | [y] => visB k i x && (decide (m = ("append" : Str)) && (chkE k e y && (!isPeek e && (ap.endLine == cp.line))))
    | _ => false)
  | .ext i e, .Expr (.Call (.Attribute (.Name x _) m ap) xs [] cp) _ => (match xs with
    | [y] => visB k i x && (decide (m = ("extend" : Str)) && (chkE k e y && (isFresh e && (!isPeek e && (ap.endLine == cp.line)))))
    | _ => false)
  | .aug i e, .AugAssign (.Name x _) .Add y _ => stoB k i x && (visB k i x && (chkE k e y && (!isPeek e && !(k.spn && decide (i = 0)))))
  | .setIx i q e, .Assign [.Subscript (.Name x _) y _] v _ => visB k i x && (chkE k q y && (chkE k e v && (!isPeek e && !isSlc y)))
  | .ret e, .Return (some x) _ => chkE k e x && (!isPeek e && (!k.fr || isFresh e))
  | .sprS c e, .Assign [.Subscript (.Name x _) (.Constant (.int j) _ _) _] v _ => k.spn && (visB k 0 x && (decide (j = (c : Int)) && (decide (c < 3) && (chkE k e v && (!isPeek e && !isComp v)))))
  | .sprD i e, .Assign [.Tuple ts _ _] v _ => (match ts, v with
    | [.Subscript (.Name x _) (.Constant (.int j) _ _) _, .Name y _], .Call (.Name f _) [.Subscript (.Name x' _) (.Constant (.int j') _ _) _, w] [] _ => k.spn && (visB k 0 x && (decide (x' = x) && (decide (j = 0) && (decide (j' = 0) && (stoB k i y && (bltB k f "divmod" && (chkE k e w && (!isPeek e && decide (i ≠ 0)))))))))
    | _, _ => false)
  | .ifs c a b, .If t x y _ => chkE k c t && (!isIf t && (chkSs k a x && chkSs k b y))
  | .fo t s b, .For tg iter body [] _ => chkS k s tg iter && (chkTg k t tg && (chkSs k b body && (!isSet iter && (!k.spn || no0 t))))
  | .wh c b, .While t body [] _ => chkE k c t && (!isIf t && chkSs k b body)
  | .brk, .Break _ => true
  | .pass, .Pass _ => true
  | .expr e, .Expr x _ => chkE k e x && !isComp x
  | .never, _ => true
  | _, _ => false
def chkSs (k : Ck) : SL → List Stmt → Bool
  | .nil, xs => xs.isEmpty
  | .cons (.frz _) ss, xs => chkSs k ss xs
  | .cons s ss, x :: xs => chkSt k s x && chkSs k ss xs
  | .cons _ _, [] => false
end
end DH

/-! P6 -/
set_option Elab.async false
set_option linter.all false
set_option maxRecDepth 100000
set_option maxHeartbeats 4000000
namespace DH
open PySem PySem.Spec PyProof.Rows L2
/-! ### the state: slots over data -/
def MOk (M : Addr → Prop) (H : Hp) : Prop := ∀ b, M b → ∃ vs, H b = some (.lst vs)
def SpH (sp : Option Addr) (H : Hp) : Prop := ∀ a, sp = some a → ∃ x y z : Int, H a = some (.lst [.int x, .int y, .int z]) ∧ 0 ≤ x ∧ 0 ≤ y ∧ y < 2147483579 ∧ 0 ≤ z
def Grow (H H' : Hp) : Prop := ∀ b o, H b = some o → H' b = some o
def Aft (sp : Option Addr) (H H' : Hp) : Prop := (∀ b o, H b = some o → sp ≠ some b → H' b = some o) ∧ SpH sp H'
structure Cn where
  K : PySem.W.Frag
  n : Nat
  sp : Option Addr
  M0 : Addr → Prop
  H0 : Hp
  fr : Bool := false
structure StOk (Γ : Cn) (M : Addr → Prop) (H : Hp) (σ : L2.St) (ρ : Env) : Prop where
  len : ρ.length = σ.length
  lenN : σ.length = Γ.n
  val : ∀ (i : Nat) (d : D), ρ[i]? = some (some (Sl.val d)) → ∃ v, σ[i]? = some (some v) ∧ Rp Γ.K M H d v
  own : ∀ (i : Nat) (ds : List D), ρ[i]? = some (some (Sl.own ds)) → ∃ q vs, σ[i]? = some (some (.ref q)) ∧ H q = some (.lst vs) ∧ M q ∧ ¬ Γ.M0 q ∧ vs.length ≤ sizeLine ∧ RpL Γ.K M H ds vs
  dist : ∀ (i j : Nat) (di dj : List D) (q : Addr), i ≠ j → ρ[i]? = some (some (Sl.own di)) → ρ[j]? = some (some (Sl.own dj)) → σ[i]? = some (some (.ref q)) → σ[j]? ≠ some (some (.ref q))
  sub : ∀ b, Γ.M0 b → M b
  mok : MOk M H
  ext : ∀ b o, Γ.H0 b = some o → Γ.sp ≠ some b → H b = some o
  spm : ∀ a, Γ.sp = some a → Γ.M0 a ∧ σ[0]? = some (some (.ref a)) ∧ ρ[0]? = some none
  sph : SpH Γ.sp H
  new : ∀ b, M b → ¬ Γ.M0 b → Γ.H0 b = none
section
variable {K : PySem.W.Frag} {M M' : Addr → Prop} {H H' : Hp} {sp : Option Addr}
theorem sqD_keep {a : Addr} {vs : List V} (k : ∀ b o, H b = some o → (∀ xs, o ≠ .lst xs) → H' b = some o) (h : SqD K H a vs) : SqD K H' a vs := by
  rcases h with ⟨o, h, e⟩ | h
  · exact .inl ⟨o, k _ _ h (fun xs z => by cases z), e⟩
  · exact .inr h
theorem sqT_keep {a : Addr} {vs : List V} (k : ∀ b o, H b = some o → (∀ xs, o ≠ .lst xs) → H' b = some o) (h : SqT K H a vs) : SqT K H' a vs := by
  rcases h with (h | ⟨o, h⟩) | h
  · exact .inl (.inl (k _ _ h fun xs z => by cases z))
  · exact .inl (.inr ⟨o, k _ _ h fun xs z => by cases z⟩)
  · exact .inr h
theorem Rp.keep (mok : MOk M H) (k : ∀ b o, ¬ M b → H b = some o → H' b = some o) {d : D} {v : V} (h : Rp K M H d v) : Rp K M H' d v :=
  have k2 : ∀ b o, H b = some o → (∀ xs, o ≠ .lst xs) → H' b = some o := fun b o e n => k b o (fun m => by
    obtain ⟨vs, z⟩ := mok b m
    rw [e] at z
    exact n vs (Option.some.inj z)) e
  h.mono (fun a vs m e => ⟨k a _ m e, m⟩) (fun a vs t => sqD_keep k2 t) (fun a vs t => sqF_keep k2 t) fun a kvs e => k2 a _ e fun xs z => by cases z
theorem RpL.keep (mok : MOk M H) (k : ∀ b o, ¬ M b → H b = some o → H' b = some o) {ds : List D} {vs : List V} (h : RpL K M H ds vs) : RpL K M H' ds vs :=
  have k2 : ∀ b o, H b = some o → (∀ xs, o ≠ .lst xs) → H' b = some o := fun b o e n => k b o (fun m => by
    obtain ⟨vs, z⟩ := mok b m
    rw [e] at z
    exact n vs (Option.some.inj z)) e
  h.mono (fun a vs m e => ⟨k a _ m e, m⟩) (fun a vs t => sqD_keep k2 t) (fun a vs t => sqF_keep k2 t) fun a kvs e => k2 a _ e fun xs z => by cases z
theorem Rp.anti (hm : ∀ a vs, H a = some (.lst vs) → M' a → M a) {d : D} {v : V} (h : Rp K M H d v) : Rp K M' H d v :=
  h.mono (fun a vs m e => ⟨e, fun z => m (hm a vs e z)⟩) (fun a vs t => t) (fun a vs t => t) fun a kvs e => e
theorem RpL.anti (hm : ∀ a vs, H a = some (.lst vs) → M' a → M a) {ds : List D} {vs : List V} (h : RpL K M H ds vs) : RpL K M' H ds vs :=
  h.mono (fun a vs m e => ⟨e, fun z => m (hm a vs e z)⟩) (fun a vs t => t) (fun a vs t => t) fun a kvs e => e
theorem Rp.grow (g : Grow H H') {d : D} {v : V} (h : Rp K M H d v) : Rp K M H' d v :=
  h.mono (fun a vs m e => ⟨g a _ e, m⟩) (fun a vs t => sqD_keep (fun b o e _ => g b o e) t) (fun a vs t => sqF_keep (fun b o e _ => g b o e) t) fun a kvs e => g a _ e
theorem RpL.grow (g : Grow H H') {ds : List D} {vs : List V} (h : RpL K M H ds vs) : RpL K M H' ds vs :=
  h.mono (fun a vs m e => ⟨g a _ e, m⟩) (fun a vs t => sqD_keep (fun b o e _ => g b o e) t) (fun a vs t => sqF_keep (fun b o e _ => g b o e) t) fun a kvs e => g a _ e
theorem RpL.new {p : Addr} {o : HO} {ds : List D} {vs : List V} (h : RpL K M H ds vs) (np : H p = none) : RpL K (fun b => M b ∨ b = p) (upd H p o) ds vs :=
  h.mono (fun a xs n e => ⟨by rw [upd_ne (ne_of_none e np)]; exact e, fun z => z.elim n fun y => by rw [y, np] at e; cases e⟩)
    (fun a xs t => sqD_keep (fun b u e _ => by rw [upd_ne (ne_of_none e np)]; exact e) t) (fun a xs t => sqF_keep (fun b u e _ => by rw [upd_ne (ne_of_none e np)]; exact e) t) fun a kvs e => by rw [upd_ne (ne_of_none e np)]; exact e
theorem Grow.refl : Grow H H := fun _ _ e => e
theorem Grow.new {p : Addr} {o : HO} (h : H p = none) : Grow H (upd H p o) := fun b u e => by
  rw [upd_ne (ne_of_none e h)]
  exact e
theorem MOk.grow (m : MOk M H) (g : Grow H H') : MOk M H' := fun b h => by
  obtain ⟨vs, e⟩ := m b h
  exact ⟨vs, g b _ e⟩
theorem MOk.fresh (m : MOk M H) {p : Addr} (h : H p = none) : ¬ M p := fun z => by
  obtain ⟨vs, e⟩ := m p z
  rw [h] at e
  cases e
theorem SpH.grow (s : SpH sp H) (g : Grow H H') : SpH sp H' := fun a e => by
  obtain ⟨x, y, z, h, r⟩ := s a e
  exact ⟨x, y, z, g _ _ h, r⟩
theorem Aft.of (s : SpH sp H) (g : Grow H H') : Aft sp H H' := ⟨fun b o e _ => g b o e, s.grow g⟩
theorem Aft.trans {H1 H2 : Hp} (a : Aft sp H H1) (b : Aft sp H1 H2) : Aft sp H H2 := ⟨fun c o e n => b.1 c o (a.1 c o e n) n, b.2⟩
theorem Aft.grow {H1 H2 : Hp} (a : Aft sp H H1) (b : Grow H1 H2) : Aft sp H H2 := ⟨fun c o e n => b c o (a.1 c o e n), a.2.grow b⟩
end
section
variable {Γ : Cn} {M : Addr → Prop} {H H' : Hp} {σ : L2.St} {ρ : Env}
theorem StOk.spM (s : StOk Γ M H σ ρ) {a : Addr} (e : Γ.sp = some a) : M a := s.sub a (s.spm a e).1
theorem StOk.keepR (s : StOk Γ M H σ ρ) (a : Aft Γ.sp H H') : ∀ b o, ¬ M b → H b = some o → H' b = some o := fun b o m e => a.1 b o e fun z => m (s.spM z)
theorem StOk.mokA (s : StOk Γ M H σ ρ) (a : Aft Γ.sp H H') : MOk M H' := fun b m => by
  obtain ⟨vs, e⟩ := s.mok b m
  by_cases z : Γ.sp = some b
  · obtain ⟨x, y, w, h, _⟩ := a.2 b z
    exact ⟨_, h⟩
  · exact ⟨vs, a.1 b _ e z⟩
theorem StOk.rp (s : StOk Γ M H σ ρ) (a : Aft Γ.sp H H') {d : D} {v : V} (h : Rp Γ.K M H d v) : Rp Γ.K M H' d v := h.keep s.mok (s.keepR a)
theorem StOk.rpL (s : StOk Γ M H σ ρ) (a : Aft Γ.sp H H') {ds : List D} {vs : List V} (h : RpL Γ.K M H ds vs) : RpL Γ.K M H' ds vs := h.keep s.mok (s.keepR a)
theorem StOk.aft (s : StOk Γ M H σ ρ) (a : Aft Γ.sp H H') : StOk Γ M H' σ ρ where
  len := s.len
  lenN := s.lenN
  val := fun i d e => by
    obtain ⟨v, h1, h2⟩ := s.val i d e
    exact ⟨v, h1, s.rp a h2⟩
  own := fun i ds e => by
    obtain ⟨q, vs, h1, h2, h3, h4, h5, h6⟩ := s.own i ds e
    exact ⟨q, vs, h1, a.1 q _ h2 fun z => h4 (s.spm q z).1, h3, h4, h5, s.rpL a h6⟩
  dist := s.dist
  sub := s.sub
  mok := s.mokA a
  ext := fun b o e n => a.1 b o (s.ext b o e n) n
  spm := s.spm
  sph := a.2
  new := s.new
end
/-! ### an expression's reading -/
/-- a result; p: it may be a list that still changes -/
def Rc (p : Bool) (K : PySem.W.Frag) (M : Addr → Prop) (H : Hp) (d : D) (v : V) : Prop := match p with
  | false => Rp K M H d v
  | true => ∃ q vs ds, d = .list ds ∧ v = .ref q ∧ H q = some (.lst vs) ∧ vs.length ≤ sizeLine ∧ RpL K M H ds vs ∧ M q
def Rw (K : PySem.W.Frag) (M : Addr → Prop) (H : Hp) (d : D) (v : V) : Prop := ∃ p, Rc p K M H d v
theorem Rw.of {K : PySem.W.Frag} {M : Addr → Prop} {H : Hp} {d : D} {v : V} (h : Rp K M H d v) : Rw K M H d v := ⟨false, h⟩
theorem Rc.w {p : Bool} {K : PySem.W.Frag} {M : Addr → Prop} {H : Hp} {d : D} {v : V} (h : Rc p K M H d v) : Rw K M H d v := ⟨p, h⟩
section
variable {K : PySem.W.Frag} {M : Addr → Prop} {H H' : Hp} {v : V}
theorem Rw.int {i : Int} (h : Rw K M H (.int i) v) : v = .int i := by
  obtain ⟨p, h⟩ := h
  cases p with
  | false => cases (show Rp K M H _ _ from h); rfl
  | true =>
    obtain ⟨q, vs, ds, e, _⟩ := h
    cases e
theorem Rw.bl {b : Bool} (h : Rw K M H (.bool b) v) : v = .bl b := by
  obtain ⟨p, h⟩ := h
  cases p with
  | false => cases (show Rp K M H _ _ from h); rfl
  | true =>
    obtain ⟨q, vs, ds, e, _⟩ := h
    cases e
theorem Rw.list {ds : List D} (h : Rw K M H (.list ds) v) : ∃ q vs, v = .ref q ∧ SqE K H q vs ∧ vs.length ≤ sizeLine ∧ RpL K M H ds vs := by
  obtain ⟨p, h⟩ := h
  cases p with
  | false =>
    cases (show Rp K M H _ _ from h) with
    | lst h1 m z r => exact ⟨_, _, rfl, .inl h1, z, r⟩
    | lsf h1 z r => exact ⟨_, _, rfl, .inr h1, z, r⟩
  | true =>
    obtain ⟨q, vs, ds, e, e2, h, z, r, _⟩ := h
    cases e
    exact ⟨q, vs, e2, .inl h, z, r⟩
theorem Rw.tuple {ds : List D} (h : Rw K M H (.tuple ds) v) : ∃ q vs, v = .ref q ∧ SqD K H q vs ∧ vs.length ≤ sizeLine ∧ RpL K M H ds vs := by
  obtain ⟨p, h⟩ := h
  cases p with
  | false =>
    cases (show Rp K M H _ _ from h) with
    | tup h1 z r => exact ⟨_, _, rfl, h1, z, r⟩
  | true =>
    obtain ⟨q, vs, ds, e, _⟩ := h
    cases e
theorem Rw.strong {d : D} (h : Rw K M H d v) (n : ∀ ds, d ≠ .list ds) : Rp K M H d v := by
  obtain ⟨p, h⟩ := h
  cases p with
  | false => exact h
  | true =>
    obtain ⟨q, vs, ds, e, _⟩ := h
    exact absurd e (n ds)
theorem Rc.keepA {Γ : Cn} {σ : L2.St} {ρ : Env} {p : Bool} {d : D} (s : StOk Γ M H σ ρ) (a : Aft Γ.sp H H') (ho : p = true → Γ.sp ≠ none → ∀ x, v = .ref x → Γ.sp ≠ some x) (h : Rc p Γ.K M H d v) : Rc p Γ.K M H' d v := by
  cases p with
  | false => exact s.rp a h
  | true =>
    obtain ⟨q, vs, ds, e, e2, h, z, r, m⟩ := h
    refine ⟨q, vs, ds, e, e2, a.1 q _ h fun w => ?_, z, s.rpL a r, m⟩
    exact ho rfl (by rw [w]; exact Option.some_ne_none q) q e2 w
end
/-- what may change and is not the spring's stays readable: the same with the address told apart -/
def Rv (Γ : Cn) (p : Bool) (M : Addr → Prop) (H : Hp) (d : D) (v : V) : Prop := Rc p Γ.K M H d v ∧ (p = true → ∀ q, v = .ref q → ¬ Γ.M0 q)
theorem Rv.aft {Γ : Cn} {M : Addr → Prop} {H H' : Hp} {σ : L2.St} {ρ : Env} {p : Bool} {d : D} {v : V} (s : StOk Γ M H σ ρ) (a : Aft Γ.sp H H') (h : Rv Γ p M H d v) : Rv Γ p M H' d v :=
  ⟨h.1.keepA s a fun hp _ x ex z => h.2 hp x ex (s.spm x z).1, h.2⟩
def tE (Γ : Cn) (T : Tb) (c : E) : TE := fun σ H Q => ∃ (M : Addr → Prop) (ρ : Env) (P : D → Prop), StOk Γ M H σ ρ ∧ wpE T c ρ P ∧ ∀ d v H', P d → Aft Γ.sp H H' → Rv Γ (isPeek c) M H' d v → Q v H'
def tL (Γ : Cn) (T : Tb) (es : EL) : TA := fun σ H Q => ∃ (M : Addr → Prop) (ρ : Env) (P : List D → Prop), StOk Γ M H σ ρ ∧ wpL T es ρ P ∧ ∀ ds vs H', P ds → Aft Γ.sp H H' → RpL Γ.K M H' ds vs → ds.length = elLen es → Q vs H'
def tT (Γ : Cn) (T : Tb) (c : E) : TT := fun σ H Q => ∃ (M : Addr → Prop) (ρ : Env) (P : D → Prop), StOk Γ M H σ ρ ∧ wpE T c ρ P ∧ ∀ d H', P d → Aft Γ.sp H H' → ∃ b, tru d = some b ∧ Q b H'
theorem _root_.L2.PE.wk {X : Cx} {e : Expr} {t t' : TE} (h : PE X e t) (c : ∀ σ H Q, t' σ H Q → t σ H Q) : PE X e t' := ⟨fun pins s σ H Q I q => h.run pins s σ H Q I (c σ H Q q)⟩
theorem _root_.L2.PT.wk {X : Cx} {e : Expr} {t t' : TT} (h : PT X e t) (c : ∀ σ H Q, t' σ H Q → t σ H Q) : PT X e t' := ⟨fun pins s σ H Q I q => h.run pins s σ H Q I (c σ H Q q)⟩
theorem _root_.L2.PA.wk {X : Cx} {e : List Expr} {t t' : TA} (h : PA X e t) (c : ∀ σ H Q, t' σ H Q → t σ H Q) : PA X e t' := ⟨fun pos pins s σ H Q I q => h.run pos pins s σ H Q I (c σ H Q q)⟩
theorem _root_.L2.PS.wk {X : Cx} {e : Stmt} {t t' : TS} (h : PS X e t) (c : ∀ D σ H, t' D σ H → t D σ H) : PS X e t' := ⟨fun pins s σ H D I q => h.run pins s σ H D I (c D σ H q)⟩
theorem _root_.L2.PSs.wk {X : Cx} {e : List Stmt} {t t' : TS} (h : PSs X e t) (c : ∀ D σ H, t' D σ H → t D σ H) : PSs X e t' := ⟨fun pins s σ H D I q => h.run pins s σ H D I (c D σ H q)⟩
theorem _root_.L2.PI.wk {X : Cx} {tg e : Expr} {t t' : TI} (h : PI X tg e t) (c : ∀ σ H R, t' σ H R → t σ H R) : PI X tg e t' := ⟨fun pins s σ H R I q => h.run pins s σ H R I (c σ H R q)⟩
/-! ### data in the model's own reading -/
mutual
theorem rp_dp {K : PySem.W.Frag} {M : Addr → Prop} {H : Hp} : ∀ {d : D} {v : V}, Rp K M H d v → d.hasDict = false → Dp K H v d
  | _, _, .non, _ => .non
  | _, _, .bl b, _ => .bl b
  | _, _, .int i, _ => .int i
  | _, _, .str x, _ => .str x
  | _, _, .lst h _ _ r, n => .lst (.inl (.inl h)) (rpL_dp r (by simpa only [PyData.hasDict] using n))
  | _, _, .lsf h _ r, n => .lst (SqE.l (.inr h)) (rpL_dp r (by simpa only [PyData.hasDict] using n))
  | _, _, .tup h _ r, n => .tup h.t (rpL_dp r (by simpa only [PyData.hasDict] using n))
  | _, _, .dic _ _ _, n => by simp [PyData.hasDict] at n
theorem rpL_dp {K : PySem.W.Frag} {M : Addr → Prop} {H : Hp} : ∀ {ds : List D} {vs : List V}, RpL K M H ds vs → PyData.hasDictAll ds = false → DpAll K H vs ds
  | _, _, .nil, _ => .nil
  | _, _, .cons h t, n => by
    simp only [PyData.hasDictAll, Bool.or_eq_false_iff] at n
    exact .cons (rp_dp h n.1) (rpL_dp t n.2)
end
theorem Rw.dp {K : PySem.W.Frag} {M : Addr → Prop} {H : Hp} {d : D} {v : V} (h : Rw K M H d v) (n : d.hasDict = false) : Dp K H v d := by
  obtain ⟨p, h⟩ := h
  cases p with
  | false => exact rp_dp h n
  | true =>
    obtain ⟨q, vs, ds, e, e2, h, z, r, m⟩ := h
    subst e e2
    exact .lst (.inl (.inl h)) (rpL_dp r (by simpa only [PyData.hasDict] using n))
theorem shaped_noDict {d : D} (h : SeqAt.shaped d = true) : d.hasDict = false := PyData.hasDict_of_canLay d (SeqAt.canLay_of_shaped h)
end DH

/-! P7 -/
set_option Elab.async false
set_option linter.all false
set_option maxRecDepth 100000
set_option maxHeartbeats 4000000
namespace DH
open PySem PySem.Spec PyProof.Rows L2
/-! ### what a def promises, over data -/
def spG (K : PySem.W.Frag) (s : Bool) (n : Nat) (p : PSpec) : Sp := fun vs H Q _ => ∃ (sp : Option Addr) (M : Addr → Prop) (ds : List D) (ws : List V) (P : D → Prop),
  (match s with | true => ∃ a, sp = some a ∧ M a ∧ vs = .ref a :: ws | false => sp = none ∧ vs = ws) ∧ ds.length = n ∧ RpL K M H ds ws ∧ MOk M H ∧ SpH sp H ∧ p ds P ∧ ∀ d v H', P d → Aft sp H H' → Rp K M H' d v → Q v H'
/-- what a def promises that makes a new list -/
def spN (K : PySem.W.Frag) (n : Nat) (p : PSpec) : Sp := fun vs H Q _ => ∃ (M : Addr → Prop) (ds : List D) (P : D → Prop),
  ds.length = n ∧ RpL K M H ds vs ∧ MOk M H ∧ p ds P ∧ ∀ es q us H', P (.list es) → Grow H H' → H q = none → H' q = some (.lst us) → RpL K M H' es us → Q (.ref q) H'
def KwOk (K : PySem.W.Frag) (fd : FuncData) (ps ks : List Str) (pm : List Nat) : Prop :=
  (∀ (s : Shared) (ws : List Value), K.In s.heap → ws.length = ks.length → BindsTo s fd ⟨[], ks.zip ws⟩ (ps.zip (pm.map fun i => ws.getD i .none))) ∧ pm.length = ps.length ∧ ∀ i ∈ pm, i < ks.length
structure Gd (Γ : Cn) (X : Cx) (k : Ck) (T : Tb) (lv : Nat) : Prop where
  calm : X.calm = true
  kd : k.sc.kind = .function
  nd : X.N.Nodup
  hN : X.N = k.N
  hsc : X.env.scope = k.sc
  xe : X.xe = fun _ _ => False
  room : Room lv X.A
  grd : X.A.guards = some []
  fn : ∀ x, fcB k x = true → X.fn x = true
  fs : ∀ j x s n, (j, x, s, n) ∈ k.F → ∃ f fd ps, X.mg x = some (.ref f) ∧ PySem.W.keepIn X.K (.ref f) = true ∧ Binds X.K fd ps [] ∧ FnG X.prog X.w X.K X.mg X.base CX0 lv f fd ps (spG X.K s n (T.f j)) ∧ ps.length = n + (if s then 1 else 0) ∧
    ∀ ks pm, (j, ks, pm) ∈ k.W → KwOk X.K fd ps ks pm
  cs : ∀ j x, (j, x) ∈ k.C → ∃ v u, X.mg x = some u ∧ RelV v u ∧ ∀ M H, Rp X.K M H (T.c j) v
  bt : ∀ x, x ∈ blts → X.mg x = none
  mt : ∀ x, x ∈ k.mth → (x = "gcd" → X.mg "gcd" = some (.builtin "math.gcd")) ∧ (x = "lcm" → X.mg "lcm" = some (.builtin "math.lcm"))
  gk : Γ.K = X.K
  gn : Γ.n = k.N.length
  ps : ∀ g h n, (g, h, n) ∈ k.S → ∃ f fd ps, X.mg h = some (.ref f) ∧ PySem.W.keepIn X.K (.ref f) = true ∧ Binds X.K fd ps [] ∧ FnG X.prog X.w X.K X.mg X.base CX0 lv f fd ps (spN X.K n (T.f g)) ∧ ps.length = n
  fr : Γ.fr = k.fr
  spn : k.spn = true → ∃ a, Γ.sp = some a
  spf : k.spn = false → Γ.sp = none
theorem an {a b : Bool} (h : (a && b) = true) : a = true ∧ b = true := Bool.and_eq_true_iff.mp h
theorem nt {a : Bool} (h : (!a) = true) : a = false := by
  cases a with
  | false => rfl
  | true => cases h
section
variable {Γ : Cn} {X : Cx} {k : Ck} {T : Tb} {lv : Nat}
theorem Gd.vis (G : Gd Γ X k T lv) {i : Nat} {x : Str} (h : visB k i x = true) : X.N[i]? = some x ∧ Vis X.env.scope x ∧ (x == ("__debug__" : Str)) = false ∧ (x == ("__classdict__" : Str)) = false := by
  obtain ⟨h1, h2⟩ := an h
  obtain ⟨h2, h3⟩ := an h2
  obtain ⟨h3, h4⟩ := an h3
  refine ⟨by rw [G.hN]; exact of_decide_eq_true h1, ?_, nt h3, nt h4⟩
  unfold Vis
  rw [G.hsc]
  cases e : k.sc.names.lookup x with
  | none =>
    rw [e] at h2
    cases h2
  | some y =>
    rw [e] at h2
    cases y with
    | «local» => exact .inl rfl
    | cell => exact .inr (.inl rfl)
    | free => exact .inr (.inr rfl)
    | _ => cases h2
theorem Gd.sto (G : Gd Γ X k T lv) {i : Nat} {x : Str} (h : stoB k i x = true) : X.N[i]? = some x ∧ L2.Loc X.env.scope x ∧ (X.fn x = true ∨ X.env.scope.names.lookup x = some .local) := by
  obtain ⟨h1, h2⟩ := an h
  refine ⟨by rw [G.hN]; exact of_decide_eq_true h1, ?_⟩
  unfold L2.Loc
  rw [G.hsc]
  cases e : k.sc.names.lookup x with
  | none =>
    rw [e] at h2
    cases h2
  | some y =>
    rw [e] at h2
    cases y with
    | «local» => exact ⟨.inl rfl, .inr rfl⟩
    | cell => exact ⟨.inr rfl, .inl (G.fn x h2)⟩
    | _ => cases h2
theorem Gd.glo (G : Gd Γ X k T lv) {x : Str} (h : gloB k x = true) : Gl X x ∧ (x == ("__debug__" : Str)) = false := by
  obtain ⟨h1, h2⟩ := an h
  refine ⟨?_, nt h2⟩
  show X.env.scope.names.lookup x = some .globalImplicit
  rw [G.hsc]
  cases e : k.sc.names.lookup x with
  | none =>
    rw [e] at h1
    cases h1
  | some y =>
    rw [e] at h1
    cases y with
    | globalImplicit => rfl
    | _ => cases h1
theorem Gd.blt (G : Gd Γ X k T lv) {x y : Str} (h : bltB k x y = true) : x = y ∧ Gl X y := by
  obtain ⟨h1, h2⟩ := an h
  obtain rfl := of_decide_eq_true h2
  exact ⟨rfl, (G.glo h1).1⟩
end
/-! ### no stars -/
theorem star_cons {e : Expr} {es : List Expr} {env : PySem.Env} (h : isStar e = false) : starEach (e :: es) env = (false, eval e env) :: starEach es env := by
  cases e <;> first | rfl | cases h
def noStars (xs : List Expr) : Prop := ∀ x ∈ xs, isStar x = false
theorem star_any {pos : Pos} {env : PySem.Env} : ∀ {xs : List Expr}, noStars xs → (backTo pos (starEach xs env)).any (·.1) = false
  | [], _ => rfl
  | x :: xs, h => by
    rw [star_cons (h x (List.mem_cons_self ..))]
    show (false || (backTo pos (starEach xs env)).any (·.1)) = false
    rw [Bool.false_or]
    exact star_any fun y hy => h y (List.mem_cons_of_mem _ hy)
theorem chkE_star {k : Ck} {c : E} {x : Expr} (h : chkE k c x = true) : isStar x = false := by
  cases x <;> first | rfl | (cases c <;> simp [chkE] at h)
theorem chkL_star {k : Ck} : ∀ {es : EL} {xs : List Expr}, chkL k es xs = true → noStars xs
  | .nil, [], _ => fun x hx => by cases hx
  | .nil, _ :: _, h => by simp [chkL] at h
  | .cons _ _, [], h => by simp [chkL] at h
  | .cons e es, x :: xs, h => by
    simp only [chkL] at h
    obtain ⟨h1, h2⟩ := an h
    intro y hy
    rcases List.mem_cons.mp hy with rfl | hy
    · exact chkE_star h1
    · exact chkL_star h2 y hy
theorem chkL_len {k : Ck} : ∀ {es : EL} {xs : List Expr}, chkL k es xs = true → xs.length = elLen es
  | .nil, [], _ => rfl
  | .nil, _ :: _, h => by simp [chkL] at h
  | .cons _ _, [], h => by simp [chkL] at h
  | .cons e es, x :: xs, h => by
    simp only [chkL] at h
    exact congrArg Nat.succ (chkL_len (an h).2)
/-! ### single steps -/
theorem getV_eq {ρ : Env} {i : Nat} {d : D} (h : getV ρ i = some d) : ρ[i]? = some (some (Sl.val d)) := by
  unfold getV at h
  cases e : ρ[i]? with
  | none =>
    rw [e] at h
    cases h
  | some o =>
    rw [e] at h
    cases o with
    | none => cases h
    | some s =>
      cases s with
      | own ds => cases h
      | val d' =>
        cases h
        rfl
theorem getO_eq {ρ : Env} {i : Nat} {d : List D} (h : getO ρ i = some d) : ρ[i]? = some (some (Sl.own d)) := by
  unfold getO at h
  cases e : ρ[i]? with
  | none =>
    rw [e] at h
    cases h
  | some o =>
    rw [e] at h
    cases o with
    | none => cases h
    | some s =>
      cases s with
      | val d' => cases h
      | own ds =>
        cases h
        rfl
theorem rv0 {Γ : Cn} {M : Addr → Prop} {H : Hp} {d : D} {v : V} (h : Rp Γ.K M H d v) : Rv Γ false M H d v := ⟨h, fun z => Bool.noConfusion z⟩
theorem Rv.w {Γ : Cn} {p : Bool} {M : Addr → Prop} {H : Hp} {d : D} {v : V} (h : Rv Γ p M H d v) : Rw Γ.K M H d v := h.1.w
section
variable {Γ : Cn} {X : Cx} {k : Ck} {T : Tb} {lv : Nat} {pos : Pos} {x y : Expr} {a b : E}
theorem s_var (G : Gd Γ X k T lv) {i : Nat} {x : Str} (h : visB k i x = true) : PE X (.Name x pos) (tE Γ T (.var i)) := by
  obtain ⟨h1, h2, h3, h4⟩ := G.vis h
  refine (pe_var h1 h2 h3 h4).wk fun σ H Q ⟨M, ρ, P, st, w, q⟩ => ?_
  obtain ⟨d, e, hp⟩ := w
  obtain ⟨v, ev, rv⟩ := st.val i d (getV_eq e)
  exact ⟨v, ev, q d v H hp (Aft.of st.sph Grow.refl) (rv0 rv)⟩
theorem s_peek (G : Gd Γ X k T lv) {i : Nat} {x : Str} (h : visB k i x = true) : PE X (.Name x pos) (tE Γ T (.peek i)) := by
  obtain ⟨h1, h2, h3, h4⟩ := G.vis h
  refine (pe_var h1 h2 h3 h4).wk fun σ H Q ⟨M, ρ, P, st, w, q⟩ => ?_
  obtain ⟨ds, e, hp⟩ := w
  obtain ⟨p, vs, ev, hh, m, m0, z, r⟩ := st.own i ds (getO_eq e)
  exact ⟨_, ev, q _ _ H hp (Aft.of st.sph Grow.refl) ⟨⟨p, vs, ds, rfl, rfl, hh, z, r, m⟩, fun _ x ex => by cases ex; exact m0⟩⟩
theorem s_glob (G : Gd Γ X k T lv) {j : Nat} {x : Str} (h : (gloB k x && k.C.contains (j, x)) = true) : PE X (.Name x pos) (tE Γ T (.glob j)) := by
  obtain ⟨h1, h2⟩ := an h
  obtain ⟨g1, g2⟩ := G.glo h1
  obtain ⟨v, u, e1, e2, e3⟩ := G.cs j x (List.contains_iff_mem.mp h2)
  refine (pe_glob g1 e1 e2 g2).wk fun σ H Q ⟨M, ρ, P, st, w, q⟩ => ?_
  exact q _ v H w (Aft.of st.sph Grow.refl) (rv0 (by rw [G.gk]; exact e3 M H))
theorem s_const {c : Const} {d : D} {v : V} {cc : E} {j : Nat} (hp : PE X (.Constant c j pos) (tC v)) (hw : ∀ ρ P, wpE T cc ρ P = P d) (hr : ∀ M H, Rp Γ.K M H d v) (hk : isPeek cc = false) : PE X (.Constant c j pos) (tE Γ T cc) := by
  refine hp.wk fun σ H Q ⟨M, ρ, P, st, w, q⟩ => ?_
  rw [hw] at w
  have q2 := q d v H w (Aft.of st.sph Grow.refl)
  rw [hk] at q2
  exact q2 (rv0 (hr M H))
theorem s_tup {xs : List Expr} {es : EL} {n : Nat} (h : PA X xs (tL Γ T es)) (hl : elLen es ≤ 1000) : PE X (.Tuple xs n pos) (tE Γ T (.tup es)) := by
  refine (pe_tupD h).wk fun σ H Q ⟨M, ρ, P, st, w, q⟩ => ⟨M, ρ, fun ds => P (.tuple ds), st, w, fun ds vs H1 hp a r l => ?_⟩
  have hz : vs.length ≤ sizeLine := by
    rw [← r.length, l]
    exact Nat.le_trans hl (by decide)
  exact ⟨hz, fun p o e np => q _ _ _ hp (a.grow (Grow.new np)) (rv0 (.tup (.inl ⟨o, upd_same, e⟩) hz (r.grow (Grow.new np))))⟩
end
/-! ### fresh lists -/
def tF (Γ : Cn) (T : Tb) (c : E) : TE := fun σ H Q => ∃ (M : Addr → Prop) (ρ : Env) (P : D → Prop), StOk Γ M H σ ρ ∧ wpE T c ρ P ∧ ∀ ds p vs H', P (.list ds) → Aft Γ.sp H H' → H p = none → H' p = some (.lst vs) → vs.length ≤ sizeLine → RpL Γ.K (fun b => M b ∨ b = p) H' ds vs → Q (.ref p) H'
theorem Aft.back {sp : Option Addr} {H H' : Hp} (a : Aft sp H H') (s : SpH sp H) {p : Addr} (h : H' p = none) : H p = none := by
  cases e : H p with
  | none => rfl
  | some o =>
    by_cases z : sp = some p
    · obtain ⟨x, y, w, h2, _⟩ := a.2 p z
      rw [h] at h2
      cases h2
    · rw [a.1 p o e z] at h
      cases h
theorem _root_.L2.PE.fresh {Γ : Cn} {X : Cx} {T : Tb} {x : Expr} {c : E} (h : PE X x (tF Γ T c)) (hk : isPeek c = false) : PE X x (tE Γ T c) := by
  refine h.wk fun σ H Q ⟨M, ρ, P, st, w, q⟩ => ⟨M, ρ, P, st, w, fun ds p vs H' hp a np e z r => ?_⟩
  have q2 := q _ (.ref p) H' hp a
  rw [hk] at q2
  exact q2 (rv0 (.lst e (st.mok.fresh np) z (r.anti fun _ _ _ m => .inl m)))
section
variable {Γ : Cn} {X : Cx} {k : Ck} {T : Tb} {lv : Nat} {pos : Pos}
theorem f_lst {xs : List Expr} {es : EL} (h : PA X xs (tL Γ T es)) (hl : elLen es ≤ 1000) : PE X (.List xs pos) (tF Γ T (.lst es)) := by
  refine (pe_lst h).wk fun σ H Q ⟨M, ρ, P, st, w, q⟩ => ⟨M, ρ, fun ds => P (.list ds), st, w, fun ds vs H1 hp a r l => ?_⟩
  have hz : vs.length ≤ sizeLine := by
    rw [← r.length, l]
    exact Nat.le_trans hl (by decide)
  exact ⟨hz, fun p np => q _ p _ _ hp (a.grow (Grow.new np)) (a.back st.sph np) upd_same hz (r.new np)⟩
end
end DH

/-! P8 -/
set_option Elab.async false
set_option linter.all false
set_option maxRecDepth 100000
set_option maxHeartbeats 4000000
namespace DH
open PySem PySem.Spec PyProof.Rows L2
/-! ### operators over data -/
def opB : BO → Operator
  | .add => .Add
  | .sub => .Sub
  | .mul => .Mult
  | .fdiv => .FloorDiv
  | .mod => .Mod
  | .pow => .Pow
def opC : CO → CmpOp
  | .lt => .Lt
  | .le => .LtE
  | .gt => .Gt
  | .ge => .GtE
  | .eq => .Eq
  | .ne => .NotEq
  | .inn => .In
  | .nin => .NotIn
theorem chkBO_eq {o : BO} {op : Operator} (h : chkBO o op = true) : op = opB o := by
  cases o <;> cases op <;> first | rfl | cases h
theorem chkCO_eq {o : CO} {op : CmpOp} (h : chkCO o op = true) : op = opC o := by
  cases o <;> cases op <;> first | rfl | cases h
def r2 (K : PySem.W.Frag) (f : D → D → (D → Prop) → Prop) : R2 := fun x y H Q => ∃ (M : Addr → Prop) (d e : D) (P : D → Prop), MOk M H ∧ Rw K M H d x ∧ Rw K M H e y ∧ f d e P ∧ ∀ d' v H', P d' → Grow H H' → Rp K M H' d' v → Q v H'
theorem m6 : (1000000 : Nat) ≤ sizeLine := by decide
section
variable {X : Cx}
theorem op_fdivG : OpR X (binaryOp .FloorDiv) (rI (fun _ j => j ≠ 0 ∧ j.natAbs.log2 < 9000) fun i j => .int (i.fdiv j)) := opI fun i j _ _ _ _ _ hc q => floordiv_int hc.1 q (.inl (PyProof.noPylong_of_log2 hc.2))
theorem op_catE : OpR X (binaryOp .Add) (fun x y H Q => ∃ l b xs zs, x = .ref l ∧ y = .ref b ∧ SqE X.K H l xs ∧ SqE X.K H b zs ∧ xs.length + zs.length ≤ sizeLine ∧ ∀ p, H p = none → Q (.ref p) (upd H p (.lst (xs ++ zs)))) := by
  intro pins s σ H x y v u Q I rx ry h
  obtain ⟨l, b, xs, zs, rfl, rfl, h1, h2, hz, q⟩ := h
  cases rx
  cases ry
  obtain ⟨_, is, n, r, el, e⟩ := inv_lstE I h1
  obtain ⟨_, js, m, r2, el2, e2⟩ := inv_lstE I h2
  refine PySem.P.add_list e e2 ?_ (by simp only [List.size_toArray]; omega)
  rw [show is.toArray ++ js.toArray = (is ++ js).toArray by simp]
  refine ⟨.ref _, _, I.lnew (t' := s.toks) (r.append r2) ?_, rfl, q _ I.fresh⟩
  rw [List.length_append]
  omega
theorem rep_arr (is : List Value) (m : Nat) : List.foldl (fun (p : Array Value) q => p ++ q) #[] (List.replicate (if is.toArray.isEmpty = true then 0 else m) is.toArray) = (List.replicate m is).flatten.toArray := by
  have f : ∀ j : Nat, List.foldl (fun (p : Array Value) q => p ++ q) #[] (List.replicate j is.toArray) = (List.replicate j is).flatten.toArray := fun j => by simpa using foldl_rep is j []
  cases is with
  | nil => simp
  | cons a r => rw [f, if_neg (by simp)]
theorem op_repE : OpR X (binaryOp .Mult) (fun x y H Q => ∃ l k xs, x = .ref l ∧ y = .int k ∧ SqE X.K H l xs ∧ -(2 ^ 63) ≤ k ∧ k < 2 ^ 63 ∧ xs.length * k.toNat ≤ sizeLine ∧
    ∀ p, H p = none → Q (.ref p) (upd H p (.lst (List.replicate k.toNat xs).flatten))) := by
  intro pins s σ H x y v u Q I rx ry h
  obtain ⟨l, k, xs, rfl, rfl, h0, k1, k2, hz, q⟩ := h
  cases rx
  obtain ⟨tk, rfl⟩ := ry
  obtain ⟨_, is, n, r, el, e⟩ := inv_lstE I h0
  have hs : is.toArray.size * k.toNat ≤ sizeLine := by
    rw [List.size_toArray, ← el]
    exact hz
  have c1 : ¬ (!Builtin.List.listFitsIndex k) = true := by simp [fitsIndex_both k1 k2]
  have c2 : ¬ is.toArray.size * k.toNat > (2 ^ 63 - 1) / 8 := by
    have b : (sizeLine : Nat) ≤ (2 ^ 63 - 1) / 8 := by decide
    exact Nat.not_lt.mpr (Nat.le_trans hs b)
  have c3 : ¬ Builtin.List.listTooLong (is.toArray.size * k.toNat) = true := by
    rw [notLongL hs]
    exact Bool.false_ne_true
  refine wpAny_binaryOp_repeat_ref (T := "list") (U := "int") (by decide) ⟨_, e, rfl⟩ (fun t => typeIs_int t k tk) noFill_list_mul F.fills_int_mul
    F.slot_int_rmul repeat_list F.slot_int_index.lookup ?_
  refine call_meets F.slot_int_rmul (typeIs_int s k tk) F.entry_int_rmul (F.args_int_rmul_2 _ _) (int___rmul___int_list k tk l is.toArray n) ⟨e, rfl, ⟨_, e, rfl⟩, ?_⟩
  refine call_meets F.slot_list_mul ⟨_, e, rfl⟩ F.entry_list_mul (F.args_list_mul_2 _ _) (AutoListH.list___mul___list_int_3 l is.toArray n k tk c1 c2 c3) ⟨e, ?_⟩
  rw [rep_arr]
  refine ⟨.ref _, _, I.lnew (t' := s.toks) (r.rep k.toNat) ?_, rfl, q _ I.fresh⟩
  rw [PyProof.Rows.lm_len_rep_flat, Nat.mul_comm]
  exact hz
theorem op_bin (o : BO) : OpR X (binaryOp (opB o)) (r2 X.K (binW o)) := by
  intro pins s σ H x y v u Q I rx ry h
  obtain ⟨M, d, e, P, mok, hd, he, w, q⟩ := h
  have fin : ∀ {i : Int}, P (.int i) → Q (.int i) H := fun {i} hp => q _ _ H hp Grow.refl (.int i)
  cases o with
  | add =>
    cases d with
    | int i =>
      cases e with
      | int j => exact op_add pins s σ H x y v u Q I rx ry ⟨i, j, hd.int, he.int, fin w⟩
      | _ => exact w.elim
    | list a =>
      cases e with
      | list b =>
        obtain ⟨l, vs, rfl, h1, z1, r1⟩ := hd.list
        obtain ⟨l2, ws, rfl, h2, z2, r2⟩ := he.list
        have hz : vs.length + ws.length ≤ sizeLine := by
          rw [← r1.length, ← r2.length]
          exact Nat.le_trans w.1 m6
        refine op_catE pins s σ H _ _ v u Q I rx ry ⟨l, l2, vs, ws, rfl, rfl, h1, h2, hz, fun p np => ?_⟩
        exact q _ _ _ w.2 (Grow.new np) (.lst upd_same (mok.fresh np) (by rw [List.length_append]; exact hz) ((r1.append r2).grow (Grow.new np)))
      | _ => exact w.elim
    | tuple a =>
      cases e with
      | tuple b =>
        obtain ⟨l, vs, rfl, h1, z1, r1⟩ := hd.tuple
        obtain ⟨l2, ws, rfl, h2, z2, r2⟩ := he.tuple
        have hz : vs.length + ws.length ≤ sizeLine := by
          rw [← r1.length, ← r2.length]
          exact Nat.le_trans w.1 m6
        refine op_catD pins s σ H _ _ v u Q I rx ry ⟨l, l2, vs, ws, rfl, rfl, h1.t, h2.t, hz, fun e => ?_, fun _ e => ?_, fun _ _ p o eo np => ?_⟩
        · subst e
          cases r1
          exact q _ _ H w.2 Grow.refl (.tup h2 z2 r2)
        · subst e
          cases r2
          exact q _ _ H w.2 Grow.refl (by rw [List.append_nil]; exact .tup h1 z1 r1)
        · exact q _ _ _ w.2 (Grow.new np) (.tup (.inl ⟨o, upd_same, eo⟩) (by rw [List.length_append]; exact hz) ((r1.append r2).grow (Grow.new np)))
      | _ => exact w.elim
    | _ => exact w.elim
  | sub =>
    cases d with
    | int i =>
      cases e with
      | int j => exact op_sub pins s σ H x y v u Q I rx ry ⟨i, j, hd.int, he.int, fin w⟩
      | _ => exact w.elim
    | _ => exact w.elim
  | mul =>
    cases d with
    | int i =>
      cases e with
      | int j =>
        rcases w.1 with c | c
        · exact op_mul pins s σ H x y v u Q I rx ry ⟨i, j, hd.int, he.int, c, fin w.2⟩
        · exact op_mulW pins s σ H x y v u Q I rx ry ⟨i, j, hd.int, he.int, c, fin w.2⟩
      | _ => exact w.elim
    | list a =>
      cases e with
      | int k =>
        obtain ⟨w1, w2, w3, w4⟩ := w
        obtain ⟨l, vs, rfl, h1, z1, r1⟩ := hd.list
        obtain rfl := he.int
        have hz : vs.length * k.toNat ≤ sizeLine := by
          rw [← r1.length]
          exact Nat.le_trans w3 m6
        refine op_repE pins s σ H _ _ v u Q I rx ry ⟨l, k, vs, rfl, rfl, h1, by omega, by omega, hz, fun p np => ?_⟩
        refine q _ _ _ w4 (Grow.new np) (.lst upd_same (mok.fresh np) ?_ ((r1.rep k.toNat).grow (Grow.new np)))
        rw [PyProof.Rows.lm_len_rep_flat, Nat.mul_comm]
        exact hz
      | _ => exact w.elim
    | tuple a =>
      cases e with
      | int k =>
        obtain ⟨w0, w1, w2, w3, w4⟩ := w
        obtain ⟨l, vs, rfl, h1, z1, r1⟩ := hd.tuple
        obtain rfl := he.int
        have hl := r1.length
        refine op_repD pins s σ H _ _ v u Q I rx ry ⟨l, k, vs, rfl, rfl, h1, fun e => ?_, w1, w2, by omega, fun e => ?_, fun _ p o eo np => ?_⟩
        · subst e
          cases r1
          exact w0 rfl
        · subst e
          exact q _ _ H w4 Grow.refl (by simpa using Rp.tup h1 z1 r1)
        · refine q _ _ _ w4 (Grow.new np) (.tup (.inl ⟨o, upd_same, eo⟩) ?_ ((r1.rep k.toNat).grow (Grow.new np)))
          rw [PyProof.Rows.lm_len_rep_flat]
          refine Nat.le_trans (Nat.mul_le_mul (show k.toNat ≤ 1000 by omega) (show vs.length ≤ 1000 by omega)) ?_
          decide
      | _ => exact w.elim
    | _ => exact w.elim
  | fdiv =>
    cases d with
    | int i =>
      cases e with
      | int j => exact op_fdivG pins s σ H x y v u Q I rx ry ⟨i, j, hd.int, he.int, w.1, fin w.2⟩
      | _ => exact w.elim
    | _ => exact w.elim
  | mod =>
    cases d with
    | int i =>
      cases e with
      | int j => exact op_modN pins s σ H x y v u Q I rx ry ⟨i, j, hd.int, he.int, w.1, fin w.2⟩
      | _ => exact w.elim
    | _ => exact w.elim
  | pow =>
    cases d with
    | int i =>
      cases e with
      | int j => exact op_pow pins s σ H x y v u Q I rx ry ⟨i, j, hd.int, he.int, w.1, fin w.2⟩
      | _ => exact w.elim
    | _ => exact w.elim
/-- a list so many times: a new one -/
theorem op_mulF : OpR X (binaryOp .Mult) (fun x y H Q => ∃ (M : Addr → Prop) (a : List D) (e : D) (P : D → Prop), Rw X.K M H (.list a) x ∧ Rw X.K M H e y ∧ binW .mul (.list a) e P ∧
    ∀ ds p vs H', P (.list ds) → Grow H H' → H p = none → H' p = some (.lst vs) → vs.length ≤ sizeLine → RpL X.K (fun b => M b ∨ b = p) H' ds vs → Q (.ref p) H') := by
  intro pins s σ H x y v u Q I rx ry h
  obtain ⟨M, a, e, P, hd, he, w, q⟩ := h
  cases e with
  | int k =>
    obtain ⟨w1, w2, w3, w4⟩ := w
    obtain ⟨l, vs, rfl, h1, z1, r1⟩ := hd.list
    obtain rfl := he.int
    have hz : vs.length * k.toNat ≤ sizeLine := by
      rw [← r1.length]
      exact Nat.le_trans w3 m6
    refine op_repE pins s σ H _ _ v u Q I rx ry ⟨l, k, vs, rfl, rfl, h1, by omega, by omega, hz, fun p np => ?_⟩
    refine q _ p _ _ w4 (Grow.new np) np upd_same ?_ ((r1.rep k.toNat).new np)
    rw [PyProof.Rows.lm_len_rep_flat, Nat.mul_comm]
    exact hz
  | _ => exact w.elim
/-! ### comparisons -/
def rC (K : PySem.W.Frag) (o : CO) : R2 := fun x y H Q => ∃ (M : Addr → Prop) (d e : D) (P : Bool → Prop), Rw K M H d x ∧ Rw K M H e y ∧ cmpW o d e P ∧ ∀ b, P b → Q (.bl b) H
theorem in_tup (hu : X.A.units + 65 < cLine) {d : D} {ds : List D} {pins : List (Addr × Obj)} {s : Shared} {σ : L2.St} {H : Hp} {x y : V} {v u : Value} {Q : VK} (I : Inv X pins σ H s) (rx : RelV x v) (ry : RelV y u) (hd : Dp X.K H x d) (he : Dp X.K H y (.tuple ds))
    (sd : SeqAt.shaped d = true) (se : SeqAt.shaped (.tuple ds) = true) (q : Q (.bl (ds.any fun z => PyData.eqv z d)) H) : wpAny (model X.prog X.w) X.A (compareOp .In v u) (EP X pins σ Q) X.xe s := by
  obtain ⟨as, r1⟩ := Dp.reads I d x v hd rx
  obtain ⟨bs, r2⟩ := Dp.reads I (.tuple ds) y u he ry
  exact SeqAt.in_tuple_reads r2 r1 (SeqAt.canLay_of_shaped se) (SeqAt.canLay_of_shaped sd) (room_in_shaped sd hu) ⟨.bl _, H, I, rfl, q⟩
theorem nin_tup (hu : X.A.units + 65 < cLine) {d : D} {ds : List D} {pins : List (Addr × Obj)} {s : Shared} {σ : L2.St} {H : Hp} {x y : V} {v u : Value} {Q : VK} (I : Inv X pins σ H s) (rx : RelV x v) (ry : RelV y u) (hd : Dp X.K H x d) (he : Dp X.K H y (.tuple ds))
    (sd : SeqAt.shaped d = true) (se : SeqAt.shaped (.tuple ds) = true) (q : Q (.bl (!ds.any fun z => PyData.eqv z d)) H) : wpAny (model X.prog X.w) X.A (compareOp .NotIn v u) (EP X pins σ Q) X.xe s := by
  obtain ⟨as, r1⟩ := Dp.reads I d x v hd rx
  obtain ⟨bs, r2⟩ := Dp.reads I (.tuple ds) y u he ry
  exact SeqAt.notIn_tuple_reads r2 r1 (SeqAt.canLay_of_shaped se) (SeqAt.canLay_of_shaped sd) (room_in_shaped sd hu) ⟨.bl _, H, I, rfl, q⟩
theorem op_cmp (hu : X.A.units + 65 < cLine) (o : CO) : OpR X (compareOp (opC o)) (rC X.K o) := by
  intro pins s σ H x y v u Q I rx ry h
  obtain ⟨M, d, e, P, hd, he, w, q⟩ := h
  have nd := @shaped_noDict
  cases o with
  | lt =>
    cases d with
    | int i => cases e with
      | int j => exact op_lt pins s σ H x y v u Q I rx ry ⟨i, j, hd.int, he.int, q _ w⟩
      | _ => exact w.elim
    | _ => exact w.elim
  | le =>
    cases d with
    | int i => cases e with
      | int j => exact op_le pins s σ H x y v u Q I rx ry ⟨i, j, hd.int, he.int, q _ w⟩
      | _ => exact w.elim
    | _ => exact w.elim
  | gt =>
    cases d with
    | int i => cases e with
      | int j => exact op_gt pins s σ H x y v u Q I rx ry ⟨i, j, hd.int, he.int, q _ w⟩
      | _ => exact w.elim
    | _ => exact w.elim
  | ge =>
    cases d with
    | int i => cases e with
      | int j => exact op_ge pins s σ H x y v u Q I rx ry ⟨i, j, hd.int, he.int, q _ w⟩
      | _ => exact w.elim
    | _ => exact w.elim
  | eq =>
    have w' : SeqAt.shaped d = true ∧ SeqAt.shaped e = true ∧ P (PyData.eqv d e) := by cases d <;> exact w
    exact op_eqD (by omega) pins s σ H x y v u Q I rx ry ⟨d, e, hd.dp (nd w'.1), he.dp (nd w'.2.1), w'.1, w'.2.1, q _ w'.2.2⟩
  | ne =>
    have w' : SeqAt.shaped d = true ∧ SeqAt.shaped e = true ∧ P (!PyData.eqv d e) := by cases d <;> exact w
    exact op_neD (by omega) pins s σ H x y v u Q I rx ry ⟨d, e, hd.dp (nd w'.1), he.dp (nd w'.2.1), w'.1, w'.2.1, q _ w'.2.2⟩
  | inn =>
    cases e with
    | list ds =>
      have w' : SeqAt.shaped d = true ∧ SeqAt.shaped (.list ds) = true ∧ P (ds.any fun z => PyData.eqv z d) := by cases d <;> exact w
      exact op_inD hu pins s σ H x y v u Q I rx ry ⟨d, ds, hd.dp (nd w'.1), he.dp (nd w'.2.1), w'.1, w'.2.1, q _ w'.2.2⟩
    | tuple ds =>
      have w' : SeqAt.shaped d = true ∧ SeqAt.shaped (.tuple ds) = true ∧ P (ds.any fun z => PyData.eqv z d) := by cases d <;> exact w
      exact in_tup hu I rx ry (hd.dp (nd w'.1)) (he.dp (nd w'.2.1)) w'.1 w'.2.1 (q _ w'.2.2)
    | _ => cases d <;> exact w.elim
  | nin =>
    cases e with
    | list ds =>
      have w' : SeqAt.shaped d = true ∧ SeqAt.shaped (.list ds) = true ∧ P (!ds.any fun z => PyData.eqv z d) := by cases d <;> exact w
      exact op_notInD hu pins s σ H x y v u Q I rx ry ⟨d, ds, hd.dp (nd w'.1), he.dp (nd w'.2.1), w'.1, w'.2.1, q _ w'.2.2⟩
    | tuple ds =>
      have w' : SeqAt.shaped d = true ∧ SeqAt.shaped (.tuple ds) = true ∧ P (!ds.any fun z => PyData.eqv z d) := by cases d <;> exact w
      exact nin_tup hu I rx ry (hd.dp (nd w'.1)) (he.dp (nd w'.2.1)) w'.1 w'.2.1 (q _ w'.2.2)
    | _ => cases d <;> exact w.elim
/-! ### subscripts -/
theorem rpl_at {K : PySem.W.Frag} {M : Addr → Prop} {H : Hp} {ds : List D} {vs : List V} {i : Int} {d : D} (r : RpL K M H ds vs) (h : atI ds i = some d) : ∃ v, atI vs i = some v ∧ Rp K M H d v := by
  unfold atI at h ⊢
  rw [← r.length]
  cases e : ixN ds.length i with
  | none =>
    rw [e] at h
    cases h
  | some j =>
    rw [e] at h
    obtain ⟨v, h1, h2⟩ := r.get (i := j) h
    exact ⟨v, h1, h2⟩
theorem ix_d : IxR X (r2 X.K ixW) := by
  intro val slc pins s σ H x y v u Q I rx ry h hs
  obtain ⟨M, d, e, P, mok, hd, he, w, q⟩ := h
  cases d with
  | list ds =>
    cases e with
    | int k =>
      obtain ⟨l, vs, rfl, h1, z1, r1⟩ := hd.list
      obtain ⟨d', e1, hp⟩ := w
      obtain ⟨v', e2, rv⟩ := rpl_at r1 e1
      exact ix_list val slc pins s σ H _ y v u Q I rx ry ⟨l, vs, k, v', rfl, he.int, h1.l, e2, q _ _ H hp Grow.refl rv⟩ hs
    | _ => exact w.elim
  | tuple ds =>
    cases e with
    | int k =>
      obtain ⟨l, vs, rfl, h1, z1, r1⟩ := hd.tuple
      obtain ⟨d', e1, hp⟩ := w
      obtain ⟨v', e2, rv⟩ := rpl_at r1 e1
      exact ix_tup val slc pins s σ H _ y v u Q I rx ry ⟨l, vs, k, v', rfl, he.int, h1.t, e2, q _ _ H hp Grow.refl rv⟩ hs
    | _ => exact w.elim
  | _ => exact w.elim
def rS (K : PySem.W.Frag) : V → Option Int → Option Int → Hp → VK → Prop := fun x lo hi H Q => ∃ (M : Addr → Prop) (d : D) (P : D → Prop), MOk M H ∧ Rw K M H d x ∧ slcW d lo hi P ∧ ∀ d' v H', P d' → Grow H H' → Rp K M H' d' v → Q v H'
theorem rpl_cut {K : PySem.W.Frag} {M : Addr → Prop} {H : Hp} {ds : List D} {vs : List V} {lo hi : Option Int} (r : RpL K M H ds vs) : RpL K M H (cutD ds lo hi) (cutV vs lo hi) := by
  unfold cutD cutV
  rw [r.length]
  exact (r.drop _).take _
theorem cut_whole {vs : List V} {lo hi : Option Int} (h : HT.sIx vs.length 0 lo = 0 ∧ HT.sIx vs.length vs.length hi = vs.length) : cutV vs lo hi = vs := by
  unfold cutV
  rw [h.1, h.2, List.drop_zero, Nat.sub_zero, List.take_length]
theorem sl_d : SlR X (rS X.K) := by
  intro pins s σ H x v vl vu lo hi sl Q I rx hs pl pu h
  obtain ⟨M, d, P, mok, hd, w, q⟩ := h
  cases d with
  | list ds =>
    obtain ⟨l, vs, rfl, h1, z1, r1⟩ := hd.list
    refine sl_list pins s σ H _ v vl vu lo hi sl Q I rx hs pl pu ⟨l, vs, rfl, h1.l, fun p np => ?_⟩
    exact q _ _ _ w (Grow.new np) (.lst upd_same (mok.fresh np) (Nat.le_trans (cutV_length _ _ _) z1) ((rpl_cut r1).grow (Grow.new np)))
  | tuple ds =>
    obtain ⟨l, vs, rfl, h1, z1, r1⟩ := hd.tuple
    have rc := rpl_cut (lo := lo) (hi := hi) r1
    refine sl_tupD pins s σ H _ v vl vu lo hi sl Q I rx hs pl pu ⟨l, vs, rfl, h1.t, fun hw => ?_, fun hw p o eo np => ?_⟩
    · rw [cut_whole hw] at rc
      exact q _ _ H w Grow.refl (.tup h1 z1 rc)
    · exact q _ _ _ w (Grow.new np) (.tup (.inl ⟨o, upd_same, eo⟩) (Nat.le_trans (cutV_length _ _ _) z1) (rc.grow (Grow.new np)))
  | _ => exact w.elim
/-! ### calls of built-ins -/
def r1 (K : PySem.W.Frag) (f : D → (D → Prop) → Prop) : List V → Hp → VK → Prop := fun xs H Q => ∃ (M : Addr → Prop) (d : D) (x : V) (P : D → Prop), xs = [x] ∧ MOk M H ∧ Rw K M H d x ∧ f d P ∧ ∀ d' v H', P d' → Grow H H' → Rp K M H' d' v → Q v H'
theorem natAbs_if (i : Int) : (if i < 0 then -i else i) = ((i.natAbs : Nat) : Int) := by
  split <;> omega
theorem c_len : CallR X (.builtin "len") (r1 X.K (b1W .len)) := by
  intro pins s σ H xs us Q I r h
  obtain ⟨M, d, x, P, rfl, mok, hd, w, q⟩ := h
  cases d with
  | list ds =>
    obtain ⟨l, vs, rfl, h1, z1, r1⟩ := hd.list
    exact call_len_seq pins s σ H _ us Q I r ⟨l, vs, rfl, .inl h1.l, q _ _ H w Grow.refl (by rw [r1.length]; exact .int _)⟩
  | tuple ds =>
    obtain ⟨l, vs, rfl, h1, z1, r1⟩ := hd.tuple
    exact call_len_seq pins s σ H _ us Q I r ⟨l, vs, rfl, .inr h1.t, q _ _ H w Grow.refl (by rw [r1.length]; exact .int _)⟩
  | _ => exact w.elim
theorem c_tuple : CallR X (.type "tuple") (r1 X.K (b1W .tuple)) := by
  intro pins s σ H xs us Q I r h
  obtain ⟨M, d, x, P, rfl, mok, hd, w, q⟩ := h
  cases d with
  | list ds =>
    obtain ⟨l, vs, rfl, h1, z1, r1⟩ := hd.list
    exact call_tupleD pins s σ H _ us Q I r ⟨l, vs, rfl, .inl ⟨h1.l, fun p o eo np => q _ _ _ w (Grow.new np) (.tup (.inl ⟨o, upd_same, eo⟩) z1 (r1.grow (Grow.new np)))⟩⟩
  | tuple ds =>
    obtain ⟨l, vs, rfl, h1, z1, r1⟩ := hd.tuple
    exact call_tupleD pins s σ H _ us Q I r ⟨l, vs, rfl, .inr ⟨h1.t, q _ _ H w Grow.refl (.tup h1 z1 r1)⟩⟩
  | _ => exact w.elim
/-- list(x): where the new list stands -/
theorem c_listF : CallR X (.type "list") (fun xs H Q => ∃ (M : Addr → Prop) (d : D) (x : V) (P : D → Prop), xs = [x] ∧ MOk M H ∧ Rw X.K M H d x ∧ b1W .list d P ∧ ∀ ds p vs H', P (.list ds) → Grow H H' → H p = none → H' p = some (.lst vs) → vs.length ≤ sizeLine → RpL X.K (fun b => M b ∨ b = p) H' ds vs → Q (.ref p) H') := by
  intro pins s σ H xs us Q I r h
  obtain ⟨M, d, x, P, rfl, mok, hd, w, q⟩ := h
  cases d with
  | list ds =>
    obtain ⟨l, vs, rfl, h1, z1, r1⟩ := hd.list
    exact call_list_of pins s σ H _ us Q I r ⟨l, vs, rfl, .inl h1.l, fun p np => q _ p vs _ w (Grow.new np) np upd_same z1 (r1.new np)⟩
  | tuple ds =>
    obtain ⟨l, vs, rfl, h1, z1, r1⟩ := hd.tuple
    exact call_list_of pins s σ H _ us Q I r ⟨l, vs, rfl, .inr h1.t, fun p np => q _ p vs _ w (Grow.new np) np upd_same z1 (r1.new np)⟩
  | _ => exact w.elim
theorem c_all (hc : X.calm = true) : CallR X (.builtin "all") (r1 X.K (b1W .all)) := by
  intro pins s σ H xs us Q I r h
  obtain ⟨M, d, x, P, rfl, mok, hd, w, q⟩ := h
  cases d with
  | list ds =>
    obtain ⟨bs, rfl, hp⟩ := w
    obtain ⟨l, vs, rfl, h1, z1, r1⟩ := hd.list
    obtain rfl := r1.bls
    exact cr_all hc pins s σ H _ us Q I r ⟨l, bs, rfl, h1.l, q _ _ H hp Grow.refl (.bl _)⟩
  | _ => exact w.elim
theorem c_any (hc : X.calm = true) : CallR X (.builtin "any") (r1 X.K (b1W .any)) := by
  intro pins s σ H xs us Q I r h
  obtain ⟨M, d, x, P, rfl, mok, hd, w, q⟩ := h
  cases d with
  | list ds =>
    obtain ⟨bs, rfl, hp⟩ := w
    obtain ⟨l, vs, rfl, h1, z1, r1⟩ := hd.list
    obtain rfl := r1.bls
    exact cr_any hc pins s σ H _ us Q I r ⟨l, bs, rfl, h1.l, q _ _ H hp Grow.refl (.bl _)⟩
  | _ => exact w.elim
theorem c_sum (hc : X.calm = true) : CallR X (.builtin "sum") (r1 X.K (b1W .sum)) := by
  intro pins s σ H xs us Q I r h
  obtain ⟨M, d, x, P, rfl, mok, hd, w, q⟩ := h
  cases d with
  | list ds =>
    obtain ⟨bs, rfl, hp⟩ := w
    obtain ⟨l, vs, rfl, h1, z1, r1⟩ := hd.list
    obtain rfl := r1.ints
    exact cr_sum hc pins s σ H _ us Q I r ⟨l, bs, rfl, h1.l, q _ _ H hp Grow.refl (.int _)⟩
  | _ => exact w.elim
theorem c_int : CallR X (.type "int") (r1 X.K (b1W .int)) := by
  intro pins s σ H xs us Q I r h
  obtain ⟨M, d, x, P, rfl, mok, hd, w, q⟩ := h
  cases d with
  | int i => exact call_int1 pins s σ H _ us Q I r (.inl ⟨i, by rw [hd.int], q _ _ H w Grow.refl (.int _)⟩)
  | bool b => exact call_int1 pins s σ H _ us Q I r (.inr ⟨b, by rw [hd.bl], q _ _ H w Grow.refl (.int _)⟩)
  | _ => exact w.elim
theorem c_abs : CallR X (.builtin "abs") (r1 X.K (b1W .abs)) := by
  intro pins s σ H xs us Q I r h
  obtain ⟨M, d, x, P, rfl, mok, hd, w, q⟩ := h
  cases d with
  | int i => exact call_abs pins s σ H _ us Q I r ⟨i, by rw [hd.int], q _ _ H w Grow.refl (by rw [natAbs_if]; exact .int _)⟩
  | _ => exact w.elim
theorem c_str : CallR X (.type "str") (r1 X.K (b1W .str)) := by
  intro pins s σ H xs us Q I r h
  obtain ⟨M, d, x, P, rfl, mok, hd, w, q⟩ := h
  cases d with
  | int i => exact call_str_int pins s σ H _ us Q I r ⟨i, by rw [hd.int], w.1, q _ _ H w.2 Grow.refl (.str _)⟩
  | _ => exact w.elim
end
end DH

/-! P9 -/
set_option Elab.async false
set_option linter.all false
set_option maxRecDepth 100000
set_option maxHeartbeats 4000000
namespace DH
open PySem PySem.Spec PyProof.Rows L2
section
variable {X : Cx}
theorem c_repr (hg : X.A.guards = some []) (hu : X.A.units + 65 < cLine) : CallR X (.builtin "repr") (r1 X.K (b1W .repr)) := by
  intro pins s σ H xs us Q I r h
  obtain ⟨M, d, x, P, rfl, mok, hd, w, q⟩ := h
  cases d with
  | list ds =>
    obtain ⟨w1, w2, w3, w4, w5⟩ := w
    have hdp := hd.dp w2
    obtain ⟨l, vs, rfl, h1, z1, r1⟩ := hd.list
    obtain rfl := Vals.ref1 r
    obtain ⟨as, rd⟩ := Dp.reads I _ _ (.ref l) hdp rfl
    refine repr_of_reads' rd w1 (PyData.noDict_hsm w2) hg (by omega) (fun b o e => e) (fun h' u tk kp => ?_) w4
    exact ⟨.str _, H, I.kept kp, ⟨_, rfl⟩, q _ _ H w5 Grow.refl (.str _)⟩
  | tuple ds =>
    obtain ⟨w1, w2, w3, w4, w5⟩ := w
    have hdp := hd.dp w2
    have hst := hd.strong (by intro ds h; cases h)
    cases hst with
    | tup t1 t2 t3 =>
      rename_i l vs
      obtain rfl := Vals.ref1 r
      obtain ⟨as, rd⟩ := Dp.reads I _ _ (.ref l) hdp rfl
      refine repr_of_reads' rd w1 (PyData.noDict_hsm w2) hg (by omega) (fun b o e => e) (fun h' u tk kp => ?_) w4
      exact ⟨.str _, H, I.kept kp, ⟨_, rfl⟩, q _ _ H w5 Grow.refl (.str _)⟩
  | _ => exact w.elim
def r12 (K : PySem.W.Frag) (f : D → D → (D → Prop) → Prop) : List V → Hp → VK → Prop := fun xs H Q => ∃ (M : Addr → Prop) (d e : D) (x y : V) (P : D → Prop), xs = [x, y] ∧ Rw K M H d x ∧ Rw K M H e y ∧ f d e P ∧ ∀ d' v, P d' → Rp K M H d' v → Q v H
theorem max_if (i j : Int) : (if j > i then j else i) = max i j := by
  split <;> omega
theorem min_if (i j : Int) : (if j < i then j else i) = min i j := by
  split <;> omega
theorem c_max (hc : X.calm = true) : CallR X (.builtin "max") (r12 X.K (b2W .max)) := by
  intro pins s σ H xs us Q I r h
  obtain ⟨M, d, e, x, y, P, rfl, hd, he, w, q⟩ := h
  cases d with
  | int i => cases e with
    | int j => exact call_max2 hc pins s σ H _ us Q I r ⟨i, j, by rw [hd.int, he.int], q _ _ w (by rw [max_if]; exact .int _)⟩
    | _ => exact w.elim
  | _ => exact w.elim
theorem c_min (hc : X.calm = true) : CallR X (.builtin "min") (r12 X.K (b2W .min)) := by
  intro pins s σ H xs us Q I r h
  obtain ⟨M, d, e, x, y, P, rfl, hd, he, w, q⟩ := h
  cases d with
  | int i => cases e with
    | int j => exact call_min2 hc pins s σ H _ us Q I r ⟨i, j, by rw [hd.int, he.int], q _ _ w (by rw [min_if]; exact .int _)⟩
    | _ => exact w.elim
  | _ => exact w.elim
theorem c_gcd : CallR X (.builtin "math.gcd") (r12 X.K (b2W .gcd)) := by
  intro pins s σ H xs us Q I r h
  obtain ⟨M, d, e, x, y, P, rfl, hd, he, w, q⟩ := h
  cases d with
  | int i => cases e with
    | int j => exact cr_gcd pins s σ H _ us Q I r ⟨i, j, by rw [hd.int, he.int], q _ _ w (.int _)⟩
    | _ => exact w.elim
  | _ => exact w.elim
theorem c_lcm : CallR X (.builtin "math.lcm") (r12 X.K (b2W .lcm)) := by
  intro pins s σ H xs us Q I r h
  obtain ⟨M, d, e, x, y, P, rfl, hd, he, w, q⟩ := h
  cases d with
  | int i => cases e with
    | int j =>
      obtain ⟨w1, w2, w3⟩ := w
      obtain rfl := hd.int
      obtain rfl := he.int
      obtain ⟨t, u, rfl⟩ := Vals.int2 r
      have e1 : (Nat.lcm 1 i.natAbs).lcm j.natAbs = Nat.lcm i.natAbs j.natAbs := by rw [PySem.W.mc_lcm_one]
      have lt : ∀ n : Nat, n.log2 < 13000 → n < 2 ^ 13000 := fun n h => by
        by_cases z : n = 0
        · subst z; exact Nat.two_pow_pos 13000
        · exact (Nat.log2_lt z).mp h
      have hi := lt _ w1
      have hj := lt _ w2
      have mx : ∀ a b : Nat, a < 2 ^ 13000 → b < 2 ^ 13000 → (max a b).log2 / 30 + 1 ≤ 450 := fun a b ha hb => by
        have := PySem.Flt.log2_lt_of (by decide : 0 < 13000) (Nat.max_lt.mpr ⟨ha, hb⟩)
        omega
      have hs : (((Nat.lcm 1 i.natAbs).lcm j.natAbs : Nat) : Int).natAbs.log2 < bitsLine := by
        rw [e1, Int.natAbs_natCast]
        have hle := PySem.W.mc_lcm_le i.natAbs j.natAbs
        have hm : i.natAbs * j.natAbs < 2 ^ 13000 * 2 ^ 13000 := Nat.mul_lt_mul'' hi hj
        rw [← Nat.pow_add] at hm
        exact Nat.lt_of_lt_of_le (PySem.Flt.log2_lt_of (by decide) (Nat.lt_of_le_of_lt hle hm)) (by decide)
      have h1 : 1 < 2 ^ 13000 := Nat.one_lt_two_pow (by decide)
      have m1 := mx 1 i.natAbs h1 hi
      have m2 := mx i.natAbs j.natAbs hi hj
      refine call_function_meets PySem.W.MGF.kind_lcm PySem.W.MGF.plain_lcm PySem.W.MGF.entry_lcm (PySem.W.MGF.args_lcm _ _) (PySem.W.mg_run_lcm i t j u (by omega) (by omega) hs).meets ?_
      rw [e1]
      exact ⟨.int _, H, I.tok _, ⟨_, rfl⟩, q _ _ w3 (.int _)⟩
    | _ => exact w.elim
  | _ => exact w.elim
/-! ### isinstance -/
def tyT : Ty → String
  | .tuple => "tuple"
  | .int => "int"
  | .bool => "bool"
theorem isi_ty {M : Addr → Prop} {H : Hp} {t : Ty} {d : D} {x : V} (h : Rp X.K M H d x) (nl : ∀ ds, d ≠ .list ds) : ∃ a, TyX X.K H x (.type a) ∧ kitB a (tyT t) = some (isiD t d) := by
  cases h with
  | lst _ _ _ _ => exact absurd rfl (nl _)
  | lsf _ _ _ => exact absurd rfl (nl _)
  | non => exact ⟨"NoneType", .base .non, by cases t <;> decide +kernel⟩
  | bl b => exact ⟨"bool", .base (.bl b), by cases t <;> (simp only [isiD, tyT]; decide +kernel)⟩
  | int i => exact ⟨"int", .base (.int i), by cases t <;> (simp only [isiD, tyT]; decide +kernel)⟩
  | str y => exact ⟨"str", .base (.str y), by cases t <;> (simp only [isiD, tyT]; decide +kernel)⟩
  | tup h z r =>
    have e : kitB "tuple" (tyT t) = some (isiD t (.tuple ‹_›)) := by cases t <;> (simp only [isiD, tyT]; decide +kernel)
    rcases h with ⟨o, h, _⟩ | ⟨o, its, n, h1, h2, _⟩
    · exact ⟨"tuple", .fTuple h, e⟩
    · exact ⟨"tuple", .kTuple h1 h2, e⟩
  | dic h e r => exact ⟨"dict", .base (.dK h), by cases t <;> (simp only [isiD, tyT]; decide +kernel)⟩
theorem c_isi (t : Ty) : CallR X (.builtin "isinstance") (fun xs H Q => ∃ (M : Addr → Prop) (d : D) (x : V), xs = [x, .ty (tyT t)] ∧ Rp X.K M H d x ∧ Q (.bl (isiD t d)) H) := by
  intro pins s σ H xs us Q I r h
  obtain ⟨M, d, x, rfl, hd, q⟩ := h
  by_cases hl : ∃ ds, d = .list ds
  · obtain ⟨ds, rfl⟩ := hl
    obtain ⟨l, vs, rfl, e, _⟩ := (Rw.of hd).list
    obtain ⟨_, its, n, _, _, e2⟩ := inv_lstE I e
    obtain ⟨u1, u2, rfl, r1, r2⟩ := vals2 r
    cases r1
    cases r2
    have kb : kitB "list" (tyT t) = some (isiD t (.list ds)) := by cases t <;> (simp only [isiD, tyT]; decide +kernel)
    exact PySem.W.kia_one (PySem.W.kitx_list) I.kIn ⟨_, e2, rfl⟩ (kit_ty kb) (fun z => nomatch z) fun tk => ⟨.bl _, H, I.tok tk, rfl, q⟩
  obtain ⟨a, h1, h2⟩ := isi_ty (t := t) hd fun ds e => hl ⟨ds, e⟩
  exact call_isi pins s σ H _ us Q I r ⟨x, .ty (tyT t), .type a, .type (tyT t), _, rfl, .ty _, h1, kit_ty h2, q⟩
end
/-! ### all turned round -/
theorem fm_congr {α β : Type} {f g : α → Option β} : ∀ {l : List α}, (∀ a ∈ l, f a = g a) → l.filterMap f = l.filterMap g
  | [], _ => rfl
  | a :: l, h => by
    rw [List.filterMap_cons, List.filterMap_cons, h a (List.mem_cons_self ..), fm_congr fun b hb => h b (List.mem_cons_of_mem _ hb)]
theorem fm_rev {α : Type} : ∀ (n : Nat) (xs : List α), xs.length = n → (List.range n).filterMap (fun m => xs[n - 1 - m]?) = xs.reverse
  | 0, xs, h => by
    rw [List.length_eq_zero_iff.mp h]
    rfl
  | n + 1, xs, h => by
    have hne : xs ≠ [] := fun z => by
      rw [z] at h
      cases h
    obtain ⟨ys, z, rfl⟩ : ∃ ys z, xs = ys ++ [z] := ⟨xs.dropLast, xs.getLast hne, (List.dropLast_concat_getLast hne).symm⟩
    have hl : ys.length = n := by
      rw [List.length_append] at h
      exact Nat.succ.inj h
    rw [List.range_succ_eq_map, List.filterMap_cons, List.filterMap_map, List.reverse_append]
    have e0 : (ys ++ [z])[n + 1 - 1 - 0]? = some z := by
      rw [Nat.sub_zero, Nat.add_sub_cancel, List.getElem?_append_right (by omega), hl, Nat.sub_self]
      rfl
    rw [e0]
    have e1 : List.filterMap ((fun m => (ys ++ [z])[n + 1 - 1 - m]?) ∘ Nat.succ) (List.range n) = List.filterMap (fun m => ys[n - 1 - m]?) (List.range n) := fm_congr fun m hm => by
      have hm' := List.mem_range.mp hm
      show (ys ++ [z])[n + 1 - 1 - (m + 1)]? = ys[n - 1 - m]?
      rw [show n + 1 - 1 - (m + 1) = n - 1 - m by omega, List.getElem?_append_left (by omega)]
    rw [e1, fm_rev n ys hl]
    rfl
theorem rev_pick (items : Array Value) : ((List.range items.size).filterMap fun (m : Nat) => items[((items.size : Int) - 1 + (m : Int) * (-1)).toNat]?).toArray = items.toList.reverse.toArray := by
  have h := fm_rev items.size items.toList (Array.length_toList ..)
  rw [← h]
  congr 1
  refine fm_congr fun m hm => ?_
  have hm' := List.mem_range.mp hm
  rw [show ((items.size : Int) - 1 + (m : Int) * (-1)).toNat = items.size - 1 - m by omega, Array.getElem?_toList]
section
variable {prog : Program} {w : World} {A : Around} {E : Value → Shared → Prop} {s : Shared}
theorem applied_rev {sl : Addr} {vm : Value} {n : Nat} {Q : Int × Int × Nat → Shared → Prop} (hs : s.heap.IsSliceOf sl .none .none vm) (pm : IsPart vm (some (-1))) (h : Q ((n : Int) - 1, -1, n) s) :
    wpAny (model prog w) A (Builtin.Slice.sliceApplied (.ref sl) (pure (n : Int))) Q E s := by
  obtain ⟨os, hos, hcs, hds⟩ := id hs
  unfold Builtin.Slice.sliceApplied Builtin.Slice.sliceFields
  refine wpAny_bind (wpAny_bind (wpAny_field hos hds (x := .none) rfl (wpAny_bind (wpAny_field hos hds (x := .none) rfl (wpAny_bind (wpAny_field hos hds (x := vm) rfl (wpAny_pure ?_)))))))
  refine wpAny_bind (HT.slicePart_ pm ?_)
  show wpAny _ _ (if ((-1 : Int) == 0) = true then _ else _) _ _ s
  rw [if_neg (by decide)]
  refine wpAny_bind (HT.slicePart_ .none (wpAny_bind (HT.slicePart_ .none (wpAny_bind (wpAny_pure ?_)))))
  show wpAny _ _ (pure ((n : Int) - 1, (-1 : Int), Builtin.Slice.slicePlaces ((n : Int) - 1) (-1) (-1))) _ _ s
  have e : Builtin.Slice.slicePlaces ((n : Int) - 1) (-1) (-1) = n := by
    unfold Builtin.Slice.slicePlaces
    have h1 : ¬ ((-1 : Int) > 0) := by omega
    simp only [h1, if_false]
    split
    · rw [show -(-1 : Int) = 1 by omega, Int.ediv_one]
      omega
    · omega
  rw [e]
  exact wpAny_pure h
theorem get_tuple_rev {t sl : Addr} {items : Array Value} {vm : Value} {Q : Value → Shared → Prop} (ht : IsTup s.heap t items) (hs : s.heap.IsSliceOf sl .none .none vm) (pm : IsPart vm (some (-1)))
    (h : Q (.ref s.heap.objs.size) { s with heap := s.heap.push { cls := .type "tuple", data := .seq items.toList.reverse.toArray } }) (hsz : items.size ≤ sizeLine) : wpAny (model prog w) A (getItem (.ref t) (.ref sl)) Q E s := by
  have hok : sizeOk (.seq items.toList.reverse.toArray) := by
    show items.toList.reverse.toArray.size ≤ sizeLine
    rw [List.size_toArray, List.length_reverse, Array.length_toList]
    exact hsz
  obtain ⟨os, hos, hcs, hds⟩ := id hs
  have hTs : s.TypeIs (.ref sl) "slice" := ⟨os, hos, hcs⟩
  unfold getItem
  try with_reducible refine wpAny_holding ?_
  first | refine wpAny_bind (wpAny_pure ?_) | skip
  refine wpAny_bind (wpAny_sequenceKey ht.typeIs (by decide) ?_)
  refine wpAny_bind (wpAny_callSpecial?_slot (name := Str.ofString "__getitem__") ht.typeIs slot_tuple_getitem (wpAny_call_entry slot_tuple_getitem ht.typeIs entry_tuple_getitem ?_ (args_tuple_getitem _ _)))
  show wpAny _ _ (Builtin.Tuple.tupleItemsOf (.ref t) >>= _) _ _ s
  refine wpAny_bind (tupleItemsOf_ ht ?_)
  refine wpAny_bind (wpAny_typeOf hTs ?_)
  rw [if_pos (by decide)]
  refine wpAny_bind (applied_rev (n := items.size) hs pm ?_)
  have hno : ¬ ((((items.size : Int) - 1) == 0 && (-1 : Int) == 1 && items.size == items.size) = true) := by
    intro z
    rw [Bool.and_eq_true, Bool.and_eq_true] at z
    have z2 : ((-1 : Int) == 1) = true := z.1.2
    exact absurd z2 (by decide)
  show wpAny _ _ (if ((((items.size : Int) - 1) == 0 && (-1 : Int) == 1 && items.size == items.size) = true) then _ else _) _ _ s
  rw [if_neg hno, rev_pick]
  first
    | exact wpAny_bind (m := Builtin.Tuple.tupleExact _) (wpAny_newObj_type (wpAny_pure ⟨_, rfl, wpAny_pure h⟩) hok)
    | exact wpAny_bind (m := Builtin.Tuple.tupleExact _) (wpAny_newObj_type (wpAny_bind (wpAny_pure (wpAny_pure ⟨_, rfl, wpAny_pure h⟩))) hok)
    | exact wpAny_bind (wpAny_bind (m := Builtin.Tuple.tupleExact _) (wpAny_newObj_type (wpAny_pure (wpAny_pure ⟨_, rfl, wpAny_pure h⟩)) hok))
    | exact wpAny_bind (wpAny_bind (m := Builtin.Tuple.tupleExact _) (wpAny_newObj_type (wpAny_pure ⟨_, rfl, wpAny_pure h⟩) hok))
end
section
variable {X : Cx}
def tRevD (K : PySem.W.Frag) (te : TE) : TE := fun σ H Q => te σ H fun x H1 => ∃ (M : Addr → Prop) (d : D) (P : D → Prop), MOk M H1 ∧ Rw K M H1 d x ∧ revW d P ∧ ∀ d' v H', P d' → Grow H1 H' → Rp K M H' d' v → Q v H'
theorem rpl_rev {K : PySem.W.Frag} {M : Addr → Prop} {H : Hp} {ds : List D} {vs : List V} (r : RpL K M H ds vs) : RpL K M H ds.reverse vs.reverse := r.reverse
theorem pe_revD {e : Expr} {te : TE} {k : Nat} {p1 p2 p3 pos : Pos} (he : PE X e te) : PE X (.Subscript e (.Slice none none (some (.UnaryOp .USub (.Constant (.int 1) k p1) p2)) p3) pos) (tRevD X.K te) := by
  refine ⟨fun pins s σ H Q I h => ?_⟩
  refine Subscript_ (thn (he.run pins s σ H _ I h) fun v s1 ⟨x, H1, I1, rx, M, d, P, mok, hd, w, q⟩ => ?_)
  have hst : PO X (some (.UnaryOp .USub (.Constant (.int 1) k p1) p2)) (tPart (tUn (rU fun i => .int (-i)) (tC (.int 1)))) := po_some (pe_un un_neg pe_int)
  refine wpAny_Slice (thn (po_none.run pins s1 σ H1 (fun o H2 => o = none ∧ H2 = H1) I1 ⟨rfl, rfl⟩) fun vl s2 ⟨l, H2, I2, pl, el, e2⟩ => ?_)
  subst el e2
  refine thn (po_none.run pins s2 σ H2 (fun o H3 => o = none ∧ H3 = H2) I2 ⟨rfl, rfl⟩) fun vu s3 ⟨u, H3, I3, pu, eu, e3⟩ => ?_
  subst eu e3
  refine thn (hst.run pins s3 σ H3 (fun o H4 => o = some (-1) ∧ H4 = H3) I3 ⟨1, rfl, -1, rfl, rfl, rfl⟩) fun vm s4 ⟨o, H4, I4, ps, eo, e4⟩ => ?_
  subst eo e4
  have I5 : Inv X pins σ H4 { s4 with heap := s4.heap.push { cls := .type "slice", data := .fields #[vl, vu, vm] } } := I4.kept (t' := s4.toks) fun b ob z => Heap.get?_push_of_some _ z
  show wpAny (model X.prog X.w) X.A (subscriptTail e (.Slice none none (some (.UnaryOp .USub (.Constant (.int 1) k p1) p2)) p3) v (.ref s4.heap.objs.size)) (EP X pins σ Q) X.xe { s4 with heap := s4.heap.push { cls := .type "slice", data := .fields #[vl, vu, vm] } }
  cases d with
  | list ds =>
    obtain ⟨a, vs, rfl, h1, z1, r1⟩ := hd.list
    cases rx
    obtain ⟨its, r, ht, hz⟩ := I5.list h1.l
    refine tail_any (ops := [.ref a, .ref s4.heap.objs.size]) ht.isList.typeIs (PySem.slot_list_getitem.lookup) ?_ (by with_unfolding_all rfl)
    refine wpAny_getItem_list_slice ht.isList (Heap.IsSliceOf.new _ vl vu vm) pl pu ps (by decide) ?_ (by rw [List.size_toArray, ← r.length]; exact hz)
    rw [PySem.W.krv_pick]
    have hn := I5.hok.fresh (Nat.le_refl _)
    have hz2 : vs.reverse.length ≤ sizeLine := by rw [List.length_reverse]; exact hz
    refine ⟨.ref _, _, I5.laid (t' := s4.toks) (o := .lst vs.reverse) (fun b ob z => Heap.get?_push_of_some _ z) (Nat.le_refl _) ?_, rfl, q _ _ _ w (Grow.new hn) (.lst upd_same (mok.fresh hn) hz2 (r1.reverse.grow (Grow.new hn)))⟩
    exact ⟨hz2, _, 0, r.reverse, Heap.get?_push_size _ rfl⟩
  | tuple ds =>
    obtain ⟨a, vs, rfl, h1, z1, r1⟩ := hd.tuple
    cases rx
    obtain ⟨its, r, ht, hz⟩ := I5.tuple h1.t
    cases pl
    cases pu
    refine tail_any (ops := [.ref a, .ref s4.heap.objs.size]) ht.typeIs (slot_tuple_getitem.lookup) ?_ (by with_unfolding_all rfl)
    refine get_tuple_rev ht (Heap.IsSliceOf.new _ .none .none vm) ps ?_ (by rw [List.size_toArray, ← r.length]; exact hz)
    have hn := I5.hok.fresh (Nat.le_refl _)
    have hz2 : vs.reverse.length ≤ sizeLine := by rw [List.length_reverse]; exact hz
    exact NewT.here (t' := s4.toks) I5 r.reverse hz2 fun p o eo np => q _ _ _ w (Grow.new np) (.tup (.inl ⟨o, upd_same, eo⟩) hz2 (r1.reverse.grow (Grow.new np)))
  | _ => exact w.elim
/-! ### dict(t) -/
theorem rpl_pairs {K : PySem.W.Frag} {M : Addr → Prop} {H : Hp} : ∀ {es : List (Key × D)} {vs : List V}, RpL K M H (es.map fun p => PyData.tuple [kD p.1, p.2]) vs →
    ∃ (ps : List Addr) (kvs : List (Key × V)), vs = ps.map V.ref ∧ Paired (fun p (kv : Key × V) => SqT K H p [kV kv.1, kv.2]) ps kvs ∧ es.map (·.1) = kvs.map (·.1) ∧ RpL K M H (es.map (·.2)) (kvs.map (·.2))
  | [], _, .nil => ⟨[], [], rfl, .nil, rfl, .nil⟩
  | (k, d) :: es, _, .cons h t => by
    obtain ⟨ps, kvs, rfl, h1, h2, h3⟩ := rpl_pairs t
    cases h with
    | tup g z r =>
      cases r with
      | cons r1 r2 =>
        cases r2 with
        | cons r2 r3 =>
          cases r3
          rename_i a v1 v2
          have e : v1 = kV k := by
            cases k <;> cases r1 <;> rfl
          subst e
          exact ⟨a :: ps, (k, v2) :: kvs, rfl, .cons g.t h1, by simp [h2], .cons r2 h3⟩
theorem c_dict (hc : X.calm = true) : CallR X (.type "dict") (r1 X.K (b1W .dict)) := by
  rintro pins s σ H _ us Q I r ⟨M, d, x, P, rfl, mok, hd, w, q⟩
  cases d with
  | tuple ds =>
    obtain ⟨es, rfl, nd, w⟩ := w
    obtain ⟨l, vs, rfl, h1, z1, r1⟩ := hd.tuple
    obtain ⟨ps, kvs, rfl, g1, g2, g3⟩ := rpl_pairs r1
    exact call_dictT hc pins s σ H _ us Q I r ⟨l, ps, kvs, rfl, h1, g1, by rw [← g2]; exact nd, fun p np => q _ _ _ w (Grow.new np) (.dic upd_same g2 (g3.grow (Grow.new np)))⟩
  | _ => exact w.elim
end
end DH

/-! P10 -/
set_option Elab.async false
set_option linter.all false
set_option maxRecDepth 100000
set_option maxHeartbeats 4000000
namespace DH
open PySem PySem.Spec PyProof.Rows L2
/-! ### what a loop leaves as it was -/
def LKh (M : Addr → Prop) (H H' : Hp) : Prop := ∀ b o, ¬ M b → H b = some o → H' b = some o
def LKm (M : Addr → Prop) (H : Hp) (M' : Addr → Prop) : Prop := ∀ b, M' b → M b ∨ H b = none
structure LK (M : Addr → Prop) (H : Hp) (M' : Addr → Prop) (H' : Hp) : Prop where
  h : LKh M H H'
  m : LKm M H M'
section
variable {Γ : Cn} {M M' M1 M2 : Addr → Prop} {H H' H1 H2 : Hp} {σ : L2.St} {ρ : Env}
theorem LK.refl : LK M H M H := ⟨fun _ _ _ e => e, fun _ m => .inl m⟩
theorem LK.trans (a : LK M H M1 H1) (b : LK M1 H1 M2 H2) : LK M H M2 H2 := by
  refine ⟨fun c o n e => b.h c o (fun z => ?_) (a.h c o n e), fun c z => ?_⟩
  · rcases a.m c z with y | y
    · exact n y
    · rw [e] at y
      cases y
  · rcases b.m c z with y | y
    · exact a.m c y
    · cases e : H c with
      | none => exact .inr rfl
      | some o =>
        by_cases n : M c
        · exact .inl n
        · rw [a.h c o n e] at y
          cases y
theorem StOk.lk (s : StOk Γ M H σ ρ) (a : Aft Γ.sp H H') : LK M H M H' := ⟨s.keepR a, fun _ m => .inl m⟩
theorem LKh.sqT {K : PySem.W.Frag} (l : LKh M H H') (m : MOk M H) {a : Addr} {vs : List V} (h : SqT K H a vs) : SqT K H' a vs :=
  sqT_keep (fun b o e n => l b o (fun z => by
    obtain ⟨xs, y⟩ := m b z
    rw [e] at y
    exact n xs (Option.some.inj y)) e) h
theorem LKh.sqD {K : PySem.W.Frag} (l : LKh M H H') (m : MOk M H) {a : Addr} {vs : List V} (h : SqD K H a vs) : SqD K H' a vs :=
  sqD_keep (fun b o e n => l b o (fun z => by
    obtain ⟨xs, y⟩ := m b z
    rw [e] at y
    exact n xs (Option.some.inj y)) e) h
theorem LKh.sqF {K : PySem.W.Frag} (l : LKh M H H') (m : MOk M H) {a : Addr} {vs : List V} (h : SqF K H a vs) : SqF K H' a vs :=
  sqF_keep (fun b o e n => l b o (fun z => by
    obtain ⟨xs, y⟩ := m b z
    rw [e] at y
    exact n xs (Option.some.inj y)) e) h
theorem LKh.rp {K : PySem.W.Frag} (l : LKh M H H') (m : MOk M H) (lm : LKm M H M') {d : D} {v : V} (h : Rp K M H d v) : Rp K M' H' d v :=
  h.mono (fun a vs n e => ⟨l a _ n e, fun z => (lm a z).elim n fun y => by rw [e] at y; cases y⟩) (fun a vs t => l.sqD m t) (fun a vs t => l.sqF m t) fun a kvs e => l a _ (fun z => by
    obtain ⟨xs, y⟩ := m a z
    rw [e] at y
    cases y) e
theorem LKh.rpL {K : PySem.W.Frag} (l : LKh M H H') (m : MOk M H) (lm : LKm M H M') {ds : List D} {vs : List V} (h : RpL K M H ds vs) : RpL K M' H' ds vs :=
  h.mono (fun a vs n e => ⟨l a _ n e, fun z => (lm a z).elim n fun y => by rw [e] at y; cases y⟩) (fun a vs t => l.sqD m t) (fun a vs t => l.sqF m t) fun a kvs e => l a _ (fun z => by
    obtain ⟨xs, y⟩ := m a z
    rw [e] at y
    cases y) e
end
/-! ### what is walked, over data -/
/-- an item; b: a tuple, to be taken apart at once -/
def Rb (b : Bool) (K : PySem.W.Frag) (M : Addr → Prop) (H : Hp) (d : D) (v : V) : Prop := match b with
  | false => Rp K M H d v
  | true => ∃ (a : Addr) (ds : List D) (vs : List V), d = .tuple ds ∧ v = .ref a ∧ SqT K H a vs ∧ RpL K M H ds vs
structure SrcW (b : Bool) (K : PySem.W.Frag) (M : Addr → Prop) (H1 : Hp) (items : List D) (J : It) : Prop where
  len : items.length ≤ sizeLine
  goes : ∀ i H, i < items.length → LKh M H1 H → J.go i H
  stops : ∀ H, LKh M H1 H → J.stop items.length H
  yields : ∀ i H x H', i < items.length → LKh M H1 H → J.yld i H x H' → Grow H H' ∧ ∀ M', LKm M H1 M' → ∃ d, items[i]? = some d ∧ Rb b K M' H' d x
def weakS : Src → Bool
  | .z2 .. => true
  | .z3 .. => true
  | .enu .. => true
  | _ => false
def tSrc (Γ : Cn) (T : Tb) (s : Src) : TI := fun σ H R => ∃ (M : Addr → Prop) (ρ : Env) (P : List D → Prop), StOk Γ M H σ ρ ∧ wpSrc T s ρ P ∧ ∀ items J H', P items → Aft Γ.sp H H' → SrcW (weakS s) Γ.K M H' items J → R J H'
section
variable {K : PySem.W.Frag} {M : Addr → Prop} {H : Hp} {v : V}
theorem items_sq {d : D} {ds : List D} (h : Rp K M H d v) (m : MOk M H) (e : itemsOf d = some ds) : ∃ (t : Bool) (a : Addr) (vs : List V), v = .ref a ∧ (∀ H', LKh M H H' → SqX K t H' a vs) ∧ SqX K t H a vs ∧ vs.length ≤ sizeLine ∧ RpL K M H ds vs := by
  cases d with
  | list xs =>
    cases e
    cases h with
    | lst h1 n z r => exact ⟨false, _, _, rfl, fun H' l => .inl (.inl (l _ _ n h1)), .inl (.inl h1), z, r⟩
    | lsf h1 z r => exact ⟨false, _, _, rfl, fun H' l => SqE.l (.inr (l.sqF m h1)), SqE.l (.inr h1), z, r⟩
  | tuple xs =>
    cases e
    cases h with
    | tup h1 z r => exact ⟨true, _, _, rfl, fun H' l => l.sqT m h1.t, h1.t, z, r⟩
  | _ => cases e
theorem LKh.refl : LKh M H H := fun _ _ _ e => e
theorem srcW_sq {t : Bool} {a : Addr} {ds : List D} {vs : List V} {J : It} (m : MOk M H) (k : ∀ H', LKh M H H' → SqX K t H' a vs) (z : vs.length ≤ sizeLine) (r : RpL K M H ds vs)
    (w : Walk J vs.length (fun H => SqX K t H a vs) (YAt vs)) : SrcW false K M H ds J := by
  have hl := r.length
  refine ⟨by rw [hl]; exact z, fun i H' hi l => w.goes i H' (by rw [← hl]; exact hi) (k H' l), fun H' l => by rw [hl]; exact w.stops H' (k H' l), fun i H' x H2 hi l y => ?_⟩
  obtain ⟨rfl, hx⟩ := w.yields i H' x H2 (by rw [← hl]; exact hi) (k H' l) y
  refine ⟨Grow.refl, fun M' lm => ?_⟩
  obtain ⟨d, h1, h2⟩ := r.getV hx
  exact ⟨d, h1, l.rp m lm h2⟩
theorem zip_get {α β : Type} : ∀ {xs : List α} {ys : List β} {i : Nat} {x : α} {y : β}, xs[i]? = some x → ys[i]? = some y → (xs.zip ys)[i]? = some (x, y)
  | [], _, _, _, _, h, _ => by simp at h
  | _ :: _, [], _, _, _, _, h => by simp at h
  | a :: xs, b :: ys, 0, x, y, h1, h2 => by
    simp at h1 h2
    simp [h1, h2]
  | a :: xs, b :: ys, i + 1, x, y, h1, h2 => by
    simp only [List.getElem?_cons_succ] at h1 h2
    simp only [List.zip_cons_cons, List.getElem?_cons_succ]
    exact zip_get h1 h2
theorem srcW_z2 {t1 t2 : Bool} {a b : Addr} {ds es : List D} {xs ys : List V} (m : MOk M H) (k1 : ∀ H', LKh M H H' → SqX K t1 H' a xs) (k2 : ∀ H', LKh M H H' → SqX K t2 H' b ys) (z1 : xs.length ≤ sizeLine) (r1 : RpL K M H ds xs) (r2 : RpL K M H es ys) :
    SrcW true K M H (z2D ds es) (ItW (min xs.length ys.length) (fun H => SqX K t1 H a xs ∧ SqX K t2 H b ys) (YZ2 xs ys)) := by
  have hl : (z2D ds es).length = min xs.length ys.length := by
    unfold z2D
    rw [List.length_map, List.length_zip, r1.length, r2.length]
  refine ⟨by rw [hl]; exact Nat.le_trans (Nat.min_le_left _ _) z1, fun i H' hi l => ⟨by rw [← hl]; exact hi, k1 H' l, k2 H' l⟩, fun H' l => ⟨hl, k1 H' l, k2 H' l⟩, fun i H' x H2 hi l y => ?_⟩
  obtain ⟨T, vs, rfl, nT, rfl, x', y', hx, hy, rfl⟩ := y
  refine ⟨Grow.new nT, fun M' lm => ?_⟩
  obtain ⟨d, h1, h2⟩ := r1.getV hx
  obtain ⟨e, h3, h4⟩ := r2.getV hy
  refine ⟨.tuple [d, e], ?_, T, _, _, rfl, rfl, .inl (.inl upd_same), (.cons ((l.rp m lm h2).grow (Grow.new nT)) (.cons ((l.rp m lm h4).grow (Grow.new nT)) .nil))⟩
  unfold z2D
  rw [List.getElem?_map, zip_get h1 h3]
  rfl
theorem srcW_z3 {t1 t2 t3 : Bool} {a b c : Addr} {ds es fs : List D} {xs ys zs : List V} (m : MOk M H) (k1 : ∀ H', LKh M H H' → SqX K t1 H' a xs) (k2 : ∀ H', LKh M H H' → SqX K t2 H' b ys) (k3 : ∀ H', LKh M H H' → SqX K t3 H' c zs) (z1 : xs.length ≤ sizeLine) (r1 : RpL K M H ds xs) (r2 : RpL K M H es ys) (r3 : RpL K M H fs zs) :
    SrcW true K M H (z3D ds es fs) (ItW (min (min xs.length ys.length) zs.length) (fun H => SqX K t1 H a xs ∧ SqX K t2 H b ys ∧ SqX K t3 H c zs) (YZ3 xs ys zs)) := by
  have hl : (z3D ds es fs).length = min (min xs.length ys.length) zs.length := by
    unfold z3D
    rw [List.length_map, List.length_zip, List.length_zip, r1.length, r2.length, r3.length, Nat.min_assoc]
  refine ⟨by rw [hl]; exact Nat.le_trans (Nat.min_le_left _ _) (Nat.le_trans (Nat.min_le_left _ _) z1), fun i H' hi l => ⟨by rw [← hl]; exact hi, k1 H' l, k2 H' l, k3 H' l⟩, fun H' l => ⟨hl, k1 H' l, k2 H' l, k3 H' l⟩, fun i H' x H2 hi l y => ?_⟩
  obtain ⟨T, vs, rfl, nT, rfl, x', y', w', hx, hy, hw, rfl⟩ := y
  refine ⟨Grow.new nT, fun M' lm => ?_⟩
  obtain ⟨d, h1, h2⟩ := r1.getV hx
  obtain ⟨e, h3, h4⟩ := r2.getV hy
  obtain ⟨f, h5, h6⟩ := r3.getV hw
  refine ⟨.tuple [d, e, f], ?_, T, _, _, rfl, rfl, .inl (.inl upd_same), (.cons ((l.rp m lm h2).grow (Grow.new nT)) (.cons ((l.rp m lm h4).grow (Grow.new nT)) (.cons ((l.rp m lm h6).grow (Grow.new nT)) .nil)))⟩
  unfold z3D
  rw [List.getElem?_map, zip_get h1 (zip_get h3 h5)]
  rfl
theorem srcW_en {t : Bool} {a : Addr} {ds : List D} {xs : List V} (m : MOk M H) (k : ∀ H', LKh M H H' → SqX K t H' a xs) (z : xs.length ≤ sizeLine) (r : RpL K M H ds xs) :
    SrcW true K M H (enD ds) (ItW xs.length (fun H => SqX K t H a xs) (YEn xs)) := by
  have hl : (enD ds).length = xs.length := by
    unfold enD
    rw [List.length_map, List.length_zipIdx, r.length]
  refine ⟨by rw [hl]; exact z, fun i H' hi l => ⟨by rw [← hl]; exact hi, k H' l⟩, fun H' l => ⟨hl, k H' l⟩, fun i H' x H2 hi l y => ?_⟩
  obtain ⟨T, vs, rfl, nT, rfl, x', hx, rfl⟩ := y
  refine ⟨Grow.new nT, fun M' lm => ?_⟩
  obtain ⟨d, h1, h2⟩ := r.getV hx
  refine ⟨.tuple [.int (i : Nat), d], ?_, T, _, _, rfl, rfl, .inl (.inl upd_same), (.cons (.int _) (.cons ((l.rp m lm h2).grow (Grow.new nT)) .nil))⟩
  unfold enD
  rw [List.getElem?_map, List.getElem?_zipIdx, h1]
  simp
theorem rngD_get {lo : Int} {n i : Nat} (h : i < n) : (rngD lo n)[i]? = some (.int (lo + i)) := by
  unfold rngD
  rw [List.getElem?_map, List.getElem?_range h]
  rfl
theorem rngD_len {lo : Int} {n : Nat} : (rngD lo n).length = n := by
  unfold rngD
  rw [List.length_map, List.length_range]
theorem srcW_rng {lo : Int} {n : Nat} (h : n ≤ sizeLine) : SrcW false K M H (rngD lo n) (Itr lo n) := by
  refine ⟨by rw [rngD_len]; exact h, fun i H' hi _ => by rw [rngD_len] at hi; exact hi, fun H' _ => by rw [rngD_len]; exact Nat.le_refl _, fun i H' x H2 hi l y => ?_⟩
  rw [rngD_len] at hi
  obtain ⟨rfl, rfl⟩ := y
  exact ⟨Grow.refl, fun M' _ => ⟨_, rngD_get hi, .int _⟩⟩
theorem srcW_rev {n : Nat} (h : n ≤ sizeLine) : SrcW false K M H (rngD 0 n).reverse (Itc ((0 : Int) + ((n : Nat) : Int) - 1) (-1) n) := by
  refine ⟨by rw [List.length_reverse, rngD_len]; exact h, fun i H' hi _ => by rw [List.length_reverse, rngD_len] at hi; exact hi, fun H' _ => by rw [List.length_reverse, rngD_len]; exact Nat.le_refl _, fun i H' x H2 hi l y => ?_⟩
  rw [List.length_reverse, rngD_len] at hi
  obtain ⟨rfl, rfl⟩ := y
  refine ⟨Grow.refl, fun M' _ => ⟨.int (0 + ((n - 1 - i : Nat) : Int)), ?_, ?_⟩⟩
  · rw [List.getElem?_reverse (by rw [rngD_len]; exact hi), rngD_len]
    exact rngD_get (by omega)
  · have e : (0 : Int) + (n : Int) - 1 + (i : Nat) * (-1) = 0 + ((n - 1 - i : Nat) : Int) := by omega
    rw [e]
    exact .int _
end
section
variable {Γ : Cn} {X : Cx} {k : Ck} {T : Tb} {lv : Nat} {pos p : Pos} {tg x y z : Expr} {a b c : E}
theorem i_seq (G : Gd Γ X k T lv) (h : PE X x (tE Γ T a)) (n : isPeek a = false) : PI X tg x (tSrc Γ T (.seq a)) := by
  refine (pi_sq h).wk fun σ H R ⟨M, ρ, P, st, w, q⟩ => ⟨M, ρ, _, st, w, fun d v H1 ⟨ds, e, hp⟩ af r => ?_⟩
  rw [n] at r
  have m := st.mokA af
  obtain ⟨t, l, vs, rfl, k1, k0, z, rl⟩ := items_sq r.1 m e
  refine ⟨l, rfl, ?_⟩
  rw [← G.gk]
  cases t with
  | true => exact .inr ⟨⟨vs, k0⟩, q ds _ _ hp af (srcW_sq m k1 z rl walk_tup)⟩
  | false => exact .inl ⟨⟨vs, k0⟩, q ds _ _ hp af (srcW_sq m k1 z rl walk_list)⟩
theorem i_rng (G : Gd Γ X k T lv) {f : Str} (h : PE X x (tE Γ T a)) (hf : bltB k f "range" = true) (ns : isStar x = false) : PI X tg (.Call (.Name f p) [x] [] pos) (tSrc Γ T (.rng a)) := by
  obtain ⟨rfl, g⟩ := G.blt hf
  refine (pi_range1 g (G.bt _ (by simp [blts])) (pa_cons h pa_nil (star_cons ns)) (star_cons ns)).wk fun σ H R ⟨M, ρ, P, st, w, q⟩ => ⟨M, ρ, _, st, w, fun d v H1 ⟨j, ej, j1, j2, hp⟩ af r => ?_⟩
  subst ej
  refine ⟨j, by rw [r.w.int], by omega, by omega, q _ _ _ hp af (srcW_rng (Nat.le_trans (by omega) m6))⟩
theorem i_rng2 (G : Gd Γ X k T lv) {f : Str} (h : PE X x (tE Γ T a)) (h2 : PE X y (tE Γ T b)) (hf : bltB k f "range" = true) (ns : isStar x = false) (ns2 : isStar y = false) : PI X tg (.Call (.Name f p) [x, y] [] pos) (tSrc Γ T (.rng2 a b)) := by
  obtain ⟨rfl, g⟩ := G.blt hf
  refine (pi_range2 g (G.bt _ (by simp [blts])) (pa_cons h (pa_cons h2 pa_nil (star_cons ns2)) (star_cons ns)) (by rw [star_cons ns, star_cons ns2]; rfl) (by rw [star_cons ns2]; rfl)).wk fun σ H R ⟨M, ρ, P, st, w, q⟩ => ⟨M, ρ, _, st, w, fun d v H1 w2 af r => ⟨M, ρ, _, st.aft af, w2, fun d2 v2 H2 ⟨i, j, ei, ej, ij, hp⟩ af2 r2 => ?_⟩⟩
  subst ei ej
  refine ⟨i, j, by rw [r.w.int, r2.w.int], by omega, q _ _ _ hp (af.trans af2) (srcW_rng (Nat.le_trans (by omega) (show (2000000 : Nat) ≤ sizeLine by decide)))⟩
theorem i_z2 (G : Gd Γ X k T lv) {f : Str} {elts : List Expr} {kk : Nat} {tp : Pos} (h : PE X x (tE Γ T a)) (h2 : PE X y (tE Γ T b)) (na : isPeek a = false) (nb : isPeek b = false) (hf : bltB k f "zip" = true) (ns : isStar x = false) (ns2 : isStar y = false) :
    PI X (.Tuple elts kk tp) (.Call (.Name f p) [x, y] [] pos) (tSrc Γ T (.z2 a b)) := by
  obtain ⟨rfl, g⟩ := G.blt hf
  refine (pi_z2 g (G.bt _ (by simp [blts])) (pa_cons h (pa_cons h2 pa_nil (star_cons ns2)) (star_cons ns)) (star_cons ns) (by rw [star_cons ns2]; rfl)).wk fun σ H R ⟨M, ρ, P, st, w, q⟩ =>
    ⟨M, ρ, _, st, w, fun d v H1 w2 af r => ⟨M, ρ, _, st.aft af, w2, fun d2 v2 H2 ⟨xs, ys, ex, ey, hp⟩ af2 r2 => ?_⟩⟩
  have m := st.mokA (af.trans af2)
  have r' := r.aft (st.aft af) af2
  rw [na] at r'
  rw [nb] at r2
  obtain ⟨t1, l1, vs, rfl, k1, k0, z, rl⟩ := items_sq r'.1 m ex
  obtain ⟨t2, l2, ws, rfl, k2, k3, z2, rl2⟩ := items_sq r2.1 m ey
  rw [← G.gk]
  exact ⟨l1, l2, t1, t2, vs, ws, rfl, k0, k3, q _ _ _ hp (af.trans af2) (srcW_z2 m k1 k2 z rl rl2)⟩
theorem i_z3 (G : Gd Γ X k T lv) {f : Str} {elts : List Expr} {kk : Nat} {tp : Pos} (h : PE X x (tE Γ T a)) (h2 : PE X y (tE Γ T b)) (h3 : PE X z (tE Γ T c)) (na : isPeek a = false) (nb : isPeek b = false) (nc : isPeek c = false) (hf : bltB k f "zip" = true) (ns : isStar x = false) (ns2 : isStar y = false) (ns3 : isStar z = false) :
    PI X (.Tuple elts kk tp) (.Call (.Name f p) [x, y, z] [] pos) (tSrc Γ T (.z3 a b c)) := by
  obtain ⟨rfl, g⟩ := G.blt hf
  refine (pi_z3 g (G.bt _ (by simp [blts])) (pa_cons h (pa_cons h2 (pa_cons h3 pa_nil (star_cons ns3)) (star_cons ns2)) (star_cons ns)) (star_cons ns) (by rw [star_cons ns2, star_cons ns3]; rfl)).wk fun σ H R ⟨M, ρ, P, st, w, q⟩ =>
    ⟨M, ρ, _, st, w, fun d v H1 w2 af r => ⟨M, ρ, _, st.aft af, w2, fun d2 v2 H2 w3 af2 r2 => ⟨M, ρ, _, st.aft (af.trans af2), w3, fun d3 v3 H3 ⟨xs, ys, zs, ex, ey, ez, hp⟩ af3 r3 => ?_⟩⟩⟩
  have m := st.mokA ((af.trans af2).trans af3)
  have r' := (r.aft (st.aft af) af2).aft (st.aft (af.trans af2)) af3
  have r2' := r2.aft (st.aft (af.trans af2)) af3
  rw [na] at r'
  rw [nb] at r2'
  rw [nc] at r3
  obtain ⟨t1, l1, vs, rfl, k1, k0, z, rl⟩ := items_sq r'.1 m ex
  obtain ⟨t2, l2, ws, rfl, k2, k3, z2, rl2⟩ := items_sq r2'.1 m ey
  obtain ⟨t3, l3, us, rfl, k4, k5, z3, rl3⟩ := items_sq r3.1 m ez
  rw [← G.gk]
  exact ⟨l1, l2, l3, t1, t2, t3, vs, ws, us, rfl, k0, k3, k5, q _ _ _ hp ((af.trans af2).trans af3) (srcW_z3 m k1 k2 k4 z rl rl2 rl3)⟩
theorem i_en (G : Gd Γ X k T lv) {f : Str} {elts : List Expr} {kk : Nat} {tp : Pos} (h : PE X x (tE Γ T a)) (na : isPeek a = false) (hf : bltB k f "enumerate" = true) (ns : isStar x = false) :
    PI X (.Tuple elts kk tp) (.Call (.Name f p) [x] [] pos) (tSrc Γ T (.enu a)) := by
  obtain ⟨rfl, g⟩ := G.blt hf
  refine (pi_en g (G.bt _ (by simp [blts])) (pa_cons h pa_nil (star_cons ns)) (star_cons ns)).wk fun σ H R ⟨M, ρ, P, st, w, q⟩ => ⟨M, ρ, _, st, w, fun d v H1 ⟨xs, ex, hp⟩ af r => ?_⟩
  have m := st.mokA af
  rw [na] at r
  obtain ⟨t1, l1, vs, rfl, k1, k0, z, rl⟩ := items_sq r.1 m ex
  rw [← G.gk]
  exact ⟨l1, t1, vs, rfl, k0, q _ _ _ hp af (srcW_en m k1 z rl)⟩
theorem i_rev (G : Gd Γ X k T lv) {f g' : Str} {p' pos' : Pos} (h : PE X x (tE Γ T a)) (hf : bltB k f "reversed" = true) (hf2 : bltB k g' "range" = true) (ns : isStar x = false) :
    PI X tg (.Call (.Name f p) [.Call (.Name g' p') [x] [] pos'] [] pos) (tSrc Γ T (.revR a)) := by
  obtain ⟨rfl, g⟩ := G.blt hf
  obtain ⟨rfl, g2⟩ := G.blt hf2
  refine (pi_revR g (G.bt _ (by simp [blts])) (prg_1 g2 (G.bt _ (by simp [blts])) h (star_cons ns)) rfl).wk fun σ H R ⟨M, ρ, P, st, w, q⟩ => ?_
  refine ⟨M, ρ, _, st, w, fun d v H1 ⟨j, ej, j1, j2, hp⟩ af r => ?_⟩
  subst ej
  refine ⟨j, by rw [r.w.int], by omega, by omega, by omega, by omega, ?_⟩
  rw [Int.sub_zero]
  exact q _ _ _ hp af (srcW_rev (Nat.le_trans (by omega) m6))
end
end DH

/-! P11 -/
set_option Elab.async false
set_option linter.all false
set_option maxRecDepth 100000
set_option maxHeartbeats 4000000
namespace DH
open PySem PySem.Spec PyProof.Rows L2
/-! ### targets -/
section
variable {Γ : Cn} {M : Addr → Prop} {H : Hp} {σ : L2.St} {ρ : Env}
theorem StOk.setV (s : StOk Γ M H σ ρ) {i : Nat} {d : D} {v : V} (r : Rp Γ.K M H d v) (hi : i < Γ.n) (h0 : Γ.sp ≠ none → i ≠ 0) : StOk Γ M H (σ.set i (some v)) (ρ.set i (some (Sl.val d))) := by
  have hσ : i < σ.length := by rw [s.lenN]; exact hi
  have hρ : i < ρ.length := by rw [s.len]; exact hσ
  refine ⟨by rw [List.length_set, List.length_set]; exact s.len, by rw [List.length_set]; exact s.lenN, fun j e h => ?_, fun j ds h => ?_, fun j l dj dl q hne h1 h2 h3 => ?_, s.sub, s.mok, s.ext, fun a e => ?_, s.sph, s.new⟩
  · by_cases hj : i = j
    · subst hj
      rw [List.getElem?_set_self hρ] at h
      cases h
      exact ⟨v, List.getElem?_set_self hσ, r⟩
    · rw [List.getElem?_set_ne hj] at h
      rw [List.getElem?_set_ne hj]
      exact s.val j e h
  · by_cases hj : i = j
    · subst hj
      rw [List.getElem?_set_self hρ] at h
      cases h
    · rw [List.getElem?_set_ne hj] at h
      rw [List.getElem?_set_ne hj]
      exact s.own j ds h
  · have hj : i ≠ j := fun z => by
      subst z
      rw [List.getElem?_set_self hρ] at h1
      cases h1
    have hl : i ≠ l := fun z => by
      subst z
      rw [List.getElem?_set_self hρ] at h2
      cases h2
    rw [List.getElem?_set_ne hj] at h1 h3
    rw [List.getElem?_set_ne hl] at h2
    rw [List.getElem?_set_ne hl]
    exact s.dist j l dj dl q hne h1 h2 h3
  · obtain ⟨m, e1, e2⟩ := s.spm a e
    have hne : i ≠ 0 := h0 (by rw [e]; exact Option.some_ne_none a)
    exact ⟨m, by rw [List.getElem?_set_ne hne]; exact e1, by rw [List.getElem?_set_ne hne]; exact e2⟩
end
def gD (Γ : Cn) (w : Bool) (t : Tg) : TG := fun v σ H Q => ∃ (M : Addr → Prop) (d : D) (ρ : Env) (k : Env → Prop), StOk Γ M H σ ρ ∧ Rb w Γ.K M H d v ∧ asgW t d ρ k ∧ ∀ ρ' σ', k ρ' → StOk Γ M H σ' ρ' → (∀ j, j ∉ tslots t → σ'[j]? = σ[j]?) → Q σ' H
def gDL (Γ : Cn) (ts : TgL) : TGs := fun vs σ H Q => ∃ (M : Addr → Prop) (ds : List D) (ρ : Env) (k : Env → Prop), StOk Γ M H σ ρ ∧ RpL Γ.K M H ds vs ∧ (∃ ρ', asgL ts ds ρ = some ρ' ∧ k ρ') ∧ ∀ ρ' σ', k ρ' → StOk Γ M H σ' ρ' → (∀ j, j ∉ tslotsL ts → σ'[j]? = σ[j]?) → Q σ' H
theorem _root_.L2.PG.wk {X : Cx} {e : Expr} {t t' : TG} (h : PG X e t) (c : ∀ v σ H Q, t' v σ H Q → t v σ H Q) : PG X e t' := ⟨fun pins s σ H v u Q I r q => h.run pins s σ H v u Q I r (c v σ H Q q)⟩
theorem _root_.L2.PGs.wk {X : Cx} {e : List Expr} {t t' : TGs} (h : PGs X e t) (c : ∀ v σ H Q, t' v σ H Q → t v σ H Q) : PGs X e t' := ⟨fun pins s σ H v u Q I r q => h.run pins s σ H v u Q I r (c v σ H Q q)⟩
theorem asEach_len {env : PySem.Env} : ∀ es : List Expr, (assignEach es env).length = es.length
  | [] => rfl
  | e :: es => by cases e <;> exact congrArg Nat.succ (asEach_len es)
theorem asEach_star {env : PySem.Env} : ∀ {es : List Expr}, noStars es → (assignEach es env).findIdx? (·.1) = none
  | [], _ => rfl
  | e :: es, h => by
    have ih := asEach_star (env := env) (es := es) fun y hy => h y (List.mem_cons_of_mem _ hy)
    have h1 := h e (List.mem_cons_self ..)
    have e1 : assignEach (e :: es) env = (false, assign e env) :: assignEach es env := by cases e <;> first | rfl | cases h1
    rw [e1, List.findIdx?_cons, ih]
    rfl
theorem asEach_cons {env : PySem.Env} {e : Expr} {es : List Expr} (h : isStar e = false) : (assignEach (e :: es) env).map (·.2) = assign e env :: (assignEach es env).map (·.2) := by
  cases e <;> first | rfl | cases h
theorem chkTg_star {k : Ck} {t : Tg} {x : Expr} (h : chkTg k t x = true) : isStar x = false := by
  cases x <;> first | rfl | (cases t <;> simp [chkTg] at h)
theorem chkTgL_star {k : Ck} : ∀ {ts : TgL} {xs : List Expr}, chkTgL k ts xs = true → noStars xs
  | .nil, [], _ => fun x hx => by cases hx
  | .nil, _ :: _, h => by simp [chkTgL] at h
  | .cons _ _, [], h => by simp [chkTgL] at h
  | .cons t ts, x :: xs, h => by
    simp only [chkTgL] at h
    obtain ⟨h1, h2⟩ := an h
    intro y hy
    rcases List.mem_cons.mp hy with rfl | hy
    · exact chkTg_star h1
    · exact chkTgL_star h2 y hy
theorem asgL_len : ∀ {ts : TgL} {ds : List D} {ρ ρ' : Env} {k : Ck} {xs : List Expr}, asgL ts ds ρ = some ρ' → chkTgL k ts xs = true → ds.length = xs.length
  | .nil, [], _, _, _, [], _, _ => rfl
  | .nil, [], _, _, _, _ :: _, _, h => by simp [chkTgL] at h
  | .nil, _ :: _, _, _, _, _, h, _ => by simp [asgL] at h
  | .cons _ _, [], _, _, _, _, h, _ => by simp [asgL] at h
  | .cons _ _, _ :: _, _, _, _, [], _, h => by simp [chkTgL] at h
  | .cons t ts, d :: ds, ρ, ρ', k, x :: xs, h, hc => by
    simp only [asgL] at h
    simp only [chkTgL] at hc
    cases e : asg t d ρ with
    | none =>
      rw [e] at h
      cases h
    | some ρ1 =>
      rw [e] at h
      exact congrArg Nat.succ (asgL_len (ts := ts) (ds := ds) (ρ := ρ1) h (an hc).2)
section
variable {Γ : Cn} {X : Cx} {k : Ck} {T : Tb} {lv : Nat}
theorem Gd.lt (G : Gd Γ X k T lv) {i : Nat} {x : Str} (h : stoB k i x = true) : i < Γ.n := by
  have h1 := of_decide_eq_true (an h).1
  rw [G.gn]
  exact (List.getElem?_eq_some_iff.mp h1).1
mutual
theorem s_tg (G : Gd Γ X k T lv) (t : Tg) (x : Expr) (h : chkTg k t x = true) (h0 : Γ.sp ≠ none → no0 t = true) (w : Bool) (hw : w = true → isTup x = true) : PG X x (gD Γ w t) := by
  match t with
  | .nm i =>
    cases x with
    | Name y p =>
      obtain rfl : w = false := by
        cases w with
        | false => rfl
        | true => cases hw rfl
      have h1 : stoB k i y = true := by simpa only [chkTg] using h
      obtain ⟨e1, e2, e3⟩ := G.sto h1
      refine (pg_name G.nd e1 e2 e3).wk fun v σ H Q ⟨M, d, ρ, kk, st, r, ⟨ρ', e, hk⟩, q⟩ => ?_
      simp only [asg, Option.some.injEq] at e
      subst e
      refine q _ _ hk (st.setV r (G.lt h1) fun z => of_decide_eq_true (by simpa only [no0] using h0 z)) fun j hj => ?_
      rw [List.getElem?_set_ne]
      intro z
      exact hj (by simp [tslots, z])
    | _ => simp [chkTg] at h
  | .tp ts =>
    cases x with
    | Tuple es n p =>
      have h1 : chkTgL k ts es = true := by simpa only [chkTg] using h
      have hs := chkTgL_star h1
      refine (pg_tup G.calm (s_tgL G ts es h1 fun z => by simpa only [no0] using h0 z) (asEach_len es) (asEach_star hs)).wk fun v σ H Q ⟨M, d, ρ, kk, st, r, ⟨ρ', e, hk⟩, q⟩ => ?_
      have weak : Rb true Γ.K M H d v := by
        cases w with
        | true => exact r
        | false =>
          cases d with
          | tuple ds => cases (show Rp _ _ _ _ _ from r) with
            | tup h2 z r2 => exact ⟨_, _, _, rfl, rfl, h2.t, r2⟩
          | _ => simp [asg] at e
      obtain ⟨a, ds, vs, rfl, rfl, h2, r2⟩ := weak
      simp only [asg] at e
      refine ⟨_, _, rfl, by rw [← G.gk]; exact h2, ?_, M, ds, ρ, kk, st, r2, ⟨ρ', e, hk⟩, fun ρ2 σ2 h3 h4 h5 => q ρ2 σ2 h3 h4 h5⟩
      rw [← r2.length]
      exact asgL_len e h1
    | _ => simp [chkTg] at h
theorem s_tgL (G : Gd Γ X k T lv) (ts : TgL) (xs : List Expr) (h : chkTgL k ts xs = true) (h0 : Γ.sp ≠ none → no0L ts = true) : PGs X xs (gDL Γ ts) := by
  match ts, xs with
  | .nil, [] =>
    refine pgs_nil.wk fun v σ H Q ⟨M, ds, ρ, kk, st, r, ⟨ρ', e, hk⟩, q⟩ => ?_
    cases ds with
    | nil =>
      cases r
      simp only [asgL, Option.some.injEq] at e
      subst e
      exact ⟨rfl, q _ _ hk st fun _ _ => rfl⟩
    | cons d ds => simp [asgL] at e
  | .cons t ts, x :: xs =>
    simp only [chkTgL] at h
    obtain ⟨h1, h2⟩ := an h
    have g1 := s_tg G t x h1 (fun z => (an (by simpa only [no0L] using h0 z)).1) false (fun z => by cases z)
    have g2 := s_tgL G ts xs h2 fun z => (an (by simpa only [no0L] using h0 z)).2
    refine (pgs_cons g1 g2 (asEach_cons (chkTg_star h1))).wk fun v σ H Q ⟨M, ds, ρ, kk, st, r, ⟨ρ', e, hk⟩, q⟩ => ?_
    cases ds with
    | nil => simp [asgL] at e
    | cons d ds =>
      simp only [asgL] at e
      cases e1 : asg t d ρ with
      | none =>
        rw [e1] at e
        cases e
      | some ρ1 =>
        rw [e1] at e
        cases r with
        | cons r1 r2 =>
          refine ⟨_, _, rfl, M, d, ρ, fun z => z = ρ1, st, r1, ⟨ρ1, e1, rfl⟩, fun ρ2 σ2 h3 h4 h5 => ?_⟩
          subst h3
          refine ⟨M, ds, ρ2, kk, h4, r2, ⟨ρ', e, hk⟩, fun ρ3 σ3 h6 h7 h8 => q ρ3 σ3 h6 h7 fun j hj => ?_⟩
          simp only [tslotsL, List.mem_append, not_or] at hj
          rw [h8 j hj.2, h5 j hj.1]
  | .nil, _ :: _ => simp [chkTgL] at h
  | .cons _ _, [] => simp [chkTgL] at h
end
end
mutual
theorem asg_own : ∀ (t : Tg) {d : D} {ρ ρ' : Env} {j : Nat} {ds : List D}, asg t d ρ = some ρ' → ρ'[j]? = some (some (.own ds)) → ρ[j]? = some (some (.own ds)) ∧ j ∉ tslots t
  | .nm i, d, ρ, ρ', j, ds, h, e => by
    simp only [asg, Option.some.injEq] at h
    subst h
    by_cases hj : i = j
    · subst hj
      by_cases hl : i < ρ.length
      · rw [List.getElem?_set_self hl] at e
        cases e
      · rw [List.getElem?_eq_none (by simpa using hl)] at e
        cases e
    · rw [List.getElem?_set_ne hj] at e
      exact ⟨e, by simp [tslots, Ne.symm hj]⟩
  | .tp ts, d, ρ, ρ', j, ds, h, e => by
    cases d with
    | tuple xs =>
      have := asgL_own ts (by simpa only [asg] using h) e
      simpa only [tslots] using this
    | _ => simp [asg] at h
theorem asgL_own : ∀ (ts : TgL) {xs : List D} {ρ ρ' : Env} {j : Nat} {ds : List D}, asgL ts xs ρ = some ρ' → ρ'[j]? = some (some (.own ds)) → ρ[j]? = some (some (.own ds)) ∧ j ∉ tslotsL ts
  | .nil, xs, ρ, ρ', j, ds, h, e => by
    cases xs with
    | nil =>
      simp only [asgL, Option.some.injEq] at h
      subst h
      exact ⟨e, by simp [tslotsL]⟩
    | cons => simp [asgL] at h
  | .cons t ts, xs, ρ, ρ', j, ds, h, e => by
    cases xs with
    | nil => simp [asgL] at h
    | cons x xs =>
      simp only [asgL] at h
      cases e1 : asg t x ρ with
      | none =>
        rw [e1] at h
        cases h
      | some ρ1 =>
        rw [e1] at h
        obtain ⟨a1, a2⟩ := asgL_own ts (show asgL ts xs ρ1 = some ρ' from h) e
        obtain ⟨b1, b2⟩ := asg_own t e1 a1
        exact ⟨b1, by simp only [tslotsL, List.mem_append, not_or]; exact ⟨b2, a2⟩⟩
end
/-! ### comprehensions -/
theorem wipe_at {σ : L2.St} {i : Nat} : ∀ {vs : List Nat}, i ∉ vs → (wipe σ vs)[i]? = σ[i]?
  | [], _ => rfl
  | v :: vs, h => by
    simp only [List.mem_cons, not_or] at h
    unfold wipe
    rw [List.getElem?_set_ne (Ne.symm h.1)]
    exact wipe_at h.2
theorem wipe_in {σ : L2.St} {i : Nat} : ∀ {vs : List Nat}, i ∈ vs → i < σ.length → (wipe σ vs)[i]? = some none
  | [], h, _ => by cases h
  | v :: vs, h, hi => by
    unfold wipe
    by_cases e : v = i
    · subst e
      rw [List.getElem?_set_self (by rw [wipe_length]; exact hi)]
    · rw [List.getElem?_set_ne e]
      exact wipe_in ((List.mem_cons.mp h).resolve_left (Ne.symm e)) hi
theorem wipe_same {σ σ' : L2.St} {vs : List Nat} (hl : σ'.length = σ.length) (h : ∀ j, j ∉ vs → σ'[j]? = σ[j]?) : wipe σ' vs = wipe σ vs := by
  apply List.ext_getElem?
  intro i
  by_cases hi : i ∈ vs
  · by_cases hl2 : i < σ.length
    · rw [wipe_in hi hl2, wipe_in hi (by rw [hl]; exact hl2)]
    · rw [List.getElem?_eq_none (by rw [wipe_length]; omega), List.getElem?_eq_none (by rw [wipe_length]; omega)]
  · rw [wipe_at hi, wipe_at hi, h i hi]
theorem wipe_wipe {σ : L2.St} {vs : List Nat} : wipe (wipe σ vs) vs = wipe σ vs := wipe_same (wipe_length σ vs) fun j hj => wipe_at hj
theorem wipeE_len {ρ : Env} : ∀ vs : List Nat, (wipeE ρ vs).length = ρ.length
  | [] => rfl
  | v :: vs => by
    unfold wipeE
    rw [List.length_set, wipeE_len vs]
theorem wipeE_some {ρ : Env} {i : Nat} {s : Sl} : ∀ {vs : List Nat}, (wipeE ρ vs)[i]? = some (some s) → ρ[i]? = some (some s) ∧ i ∉ vs
  | [], h => ⟨h, by simp⟩
  | v :: vs, h => by
    unfold wipeE at h
    by_cases e : v = i
    · subst e
      by_cases hv : v < (wipeE ρ vs).length
      · rw [List.getElem?_set_self hv] at h
        cases h
      · rw [List.getElem?_eq_none (by simpa using hv)] at h
        cases h
    · rw [List.getElem?_set_ne e] at h
      obtain ⟨h1, h2⟩ := wipeE_some h
      exact ⟨h1, by simp only [List.mem_cons, not_or]; exact ⟨Ne.symm e, h2⟩⟩
theorem wipeE_at {ρ : Env} {i : Nat} : ∀ {vs : List Nat}, i ∉ vs → (wipeE ρ vs)[i]? = ρ[i]?
  | [], _ => rfl
  | v :: vs, h => by
    simp only [List.mem_cons, not_or] at h
    unfold wipeE
    rw [List.getElem?_set_ne (Ne.symm h.1)]
    exact wipeE_at h.2
section
variable {Γ : Cn} {M : Addr → Prop} {H : Hp} {σ : L2.St} {ρ : Env}
theorem StOk.wipe (s : StOk Γ M H σ ρ) {own : List Nat} (h0 : Γ.sp ≠ none → 0 ∉ own) : StOk Γ M H (L2.wipe σ own) (wipeE ρ own) := by
  refine ⟨by rw [wipeE_len, wipe_length]; exact s.len, by rw [wipe_length]; exact s.lenN, fun j e h => ?_, fun j ds h => ?_, fun j l dj dl q hne h1 h2 h3 => ?_, s.sub, s.mok, s.ext, fun a e => ?_, s.sph, s.new⟩
  · obtain ⟨h1, h2⟩ := wipeE_some h
    rw [wipe_at h2]
    exact s.val j e h1
  · obtain ⟨h1, h2⟩ := wipeE_some h
    rw [wipe_at h2]
    exact s.own j ds h1
  · obtain ⟨a1, a2⟩ := wipeE_some h1
    obtain ⟨b1, b2⟩ := wipeE_some h2
    rw [wipe_at a2] at h3
    rw [wipe_at b2]
    exact s.dist j l dj dl q hne a1 b1 h3
  · obtain ⟨m, e1, e2⟩ := s.spm a e
    have hn := h0 (by rw [e]; exact Option.some_ne_none a)
    exact ⟨m, by rw [wipe_at hn]; exact e1, by rw [wipeE_at hn]; exact e2⟩
theorem StOk.old0 (s : StOk Γ M H σ ρ) {p : Addr} (np : H p = none) : Γ.H0 p = none := by
  cases e : Γ.H0 p with
  | none => rfl
  | some o =>
    by_cases z : Γ.sp = some p
    · obtain ⟨a, b, c, y, _⟩ := s.sph p z
      rw [np] at y
      cases y
    · rw [s.ext p o e z] at np
      cases np
/-- one more address may change -/
theorem StOk.more (s : StOk Γ M H σ ρ) {p : Addr} {vs : List V} (np : H p = none) : StOk Γ (fun b => M b ∨ b = p) (upd H p (.lst vs)) σ ρ := by
  have g : Grow H (upd H p (.lst vs)) := Grow.new np
  have ac : ∀ {a : Addr} {xs : List V}, H a = some (.lst xs) → ¬ M a → ¬ (M a ∨ a = p) := fun {a xs} e n z => z.elim n fun y => by
    rw [y, np] at e
    cases e
  have conv : ∀ {d : D} {v : V}, Rp Γ.K M H d v → Rp Γ.K (fun b => M b ∨ b = p) (upd H p (.lst vs)) d v := fun r =>
    r.mono (fun a vs n e => ⟨g a _ e, ac e n⟩) (fun a vs t => sqD_keep (fun b o e _ => g b o e) t) (fun a vs t => sqF_keep (fun b o e _ => g b o e) t) fun a kvs e => g a _ e
  have convL : ∀ {d : List D} {v : List V}, RpL Γ.K M H d v → RpL Γ.K (fun b => M b ∨ b = p) (upd H p (.lst vs)) d v := fun r =>
    r.mono (fun a vs n e => ⟨g a _ e, ac e n⟩) (fun a vs t => sqD_keep (fun b o e _ => g b o e) t) (fun a vs t => sqF_keep (fun b o e _ => g b o e) t) fun a kvs e => g a _ e
  refine ⟨s.len, s.lenN, fun j e h => ?_, fun j ds h => ?_, s.dist, fun b m => .inl (s.sub b m), fun b m => ?_, fun b o e n => g b o (s.ext b o e n), s.spm, s.sph.grow g, fun b m n => m.elim (fun z => s.new b z n) fun z => s.old0 (by rw [z]; exact np)⟩
  · obtain ⟨v, h1, h2⟩ := s.val j e h
    exact ⟨v, h1, conv h2⟩
  · obtain ⟨q, ws, h1, h2, h3, h4, h5, h6⟩ := s.own j ds h
    exact ⟨q, ws, h1, g q _ h2, .inl h3, h4, h5, convL h6⟩
  · rcases m with m | m
    · obtain ⟨ws, e⟩ := s.mok b m
      exact ⟨ws, g b _ e⟩
    · subst m
      exact ⟨vs, upd_same⟩
/-- a list that may change is changed -/
theorem StOk.chg (s : StOk Γ M H σ ρ) {p : Addr} {vs : List V} (mp : M p) (hn : ∀ (j : Nat) (ds : List D), ρ[j]? = some (some (Sl.own ds)) → σ[j]? ≠ some (some (.ref p))) (hs : ¬ Γ.M0 p) : StOk Γ M (upd H p (.lst vs)) σ ρ := by
  have keep : ∀ b o, ¬ M b → H b = some o → upd H p (.lst vs) b = some o := fun b o n e => by
    rw [upd_ne (fun z => n (by rw [z]; exact mp))]
    exact e
  refine ⟨s.len, s.lenN, fun j e h => ?_, fun j ds h => ?_, s.dist, s.sub, fun b m => ?_, fun b o e n => ?_, s.spm, fun a e => ?_, s.new⟩
  · obtain ⟨v, h1, h2⟩ := s.val j e h
    exact ⟨v, h1, h2.keep s.mok keep⟩
  · obtain ⟨q, ws, h1, h2, h3, h4, h5, h6⟩ := s.own j ds h
    have hq : q ≠ p := fun z => hn j ds h (by rw [h1, z])
    exact ⟨q, ws, h1, by rw [upd_ne hq]; exact h2, h3, h4, h5, h6.keep s.mok keep⟩
  · by_cases hb : b = p
    · subst hb
      exact ⟨vs, upd_same⟩
    · rw [upd_ne hb]
      exact s.mok b m
  · have hb : b ≠ p := fun z => by
      subst z
      rw [s.new b mp hs] at e
      cases e
    rw [upd_ne hb]
    exact s.ext b o e n
  · have hb : a ≠ p := fun z => hs (by rw [← z]; exact (s.spm a e).1)
    obtain ⟨x, y, z, h1, h2⟩ := s.sph a e
    exact ⟨x, y, z, by rw [upd_ne hb]; exact h1, h2⟩
end
end DH

/-! P12 -/
set_option Elab.async false
set_option linter.all false
set_option maxRecDepth 100000
set_option maxHeartbeats 4000000
namespace DH
open PySem PySem.Spec PyProof.Rows L2
/-! ### comprehensions -/
def tCt (Γ : Cn) (T : Tb) (c : EO) : TT := fun σ H Q => ∃ (M : Addr → Prop) (ρ : Env) (P : Bool → Prop), StOk Γ M H σ ρ ∧ wpC T c ρ P ∧ ∀ b H', P b → Aft Γ.sp H H' → Q b H'
theorem _root_.L2.PTs.wk {X : Cx} {e : List Expr} {t t' : TT} (h : PTs X e t) (c : ∀ σ H Q, t' σ H Q → t σ H Q) : PTs X e t' := ⟨fun pins s σ H Q I q => h.run pins s σ H Q I (c σ H Q q)⟩
theorem relE {scope : Scope} {cl : List (Str × Addr)} {C : Addr} {env : PySem.Env} : (compEnvC scope cl C env).scope = relS scope env.scope := rfl
section
variable {Γ : Cn} {X : Cx} {k : Ck} {T : Tb} {lv : Nat}
theorem Gd.blk (G : Gd Γ X k T lv) {scope : Scope} (fk : scope.kind = .function) (u : ∀ y ∈ scope.names, scope.names.lookup y.1 = some y.2) (s : Shared) (H : Hp) (C : Addr) (cl : List (Str × Addr)) (fp : List Addr) :
    Gd Γ (X.blk s H scope (compEnvC scope cl C X.env) fp) (blkCk k scope) T lv where
  calm := G.calm
  kd := fk
  nd := G.nd
  hN := G.hN
  hsc := by
    show relS scope X.env.scope = relS scope k.sc
    rw [G.hsc]
  xe := rfl
  room := G.room
  grd := G.grd
  fn := fun x h => by
    show (scope.names.lookup x == some NameKind.cell) = true
    have h : (false || ((scope.names.filter fun p => p.2 == .cell).map (·.1)).contains x) = true := h
    rw [Bool.false_or, List.contains_iff_mem, List.mem_map] at h
    obtain ⟨p, hp, rfl⟩ := h
    rw [List.mem_filter] at hp
    rw [u p hp.1, show p.2 = .cell from by simpa using hp.2]
    rfl
  fs := G.fs
  cs := G.cs
  bt := G.bt
  mt := G.mt
  gk := G.gk
  gn := G.gn
  ps := G.ps
  fr := G.fr
  spn := G.spn
  spf := G.spf
theorem ct_no : PTs X [] (tCt Γ T .no) := pts_nil.wk fun σ H Q ⟨M, ρ, P, st, w, q⟩ => q true H w (Aft.of st.sph Grow.refl)
theorem ct_yes {x : Expr} {a : E} (h : PT X x (tT Γ T a)) : PTs X [x] (tCt Γ T (.yes a)) := (pts_one h).wk fun σ H Q ⟨M, ρ, P, st, w, q⟩ => ⟨M, ρ, _, st, w, fun d H' ⟨b, eb, hb⟩ af => ⟨b, eb, q b H' hb af⟩⟩
theorem drop_get {α : Type} {l : List α} {i : Nat} {d : α} (h : l[i]? = some d) : l.drop i = d :: l.drop (i + 1) := by
  obtain ⟨hi, e⟩ := List.getElem?_eq_some_iff.mp h
  rw [List.drop_eq_getElem_cons hi, e]
/-- the reading of a comprehension, in the rule's own words -/
theorem comp_lc {own : List Nat} {t : Tg} {s : Src} {c : EO} {b : E} {σ : L2.St} {H : Hp} {Q : VK} (hb : isPeek b = false) (ho : ∀ i ∈ tslots t, i ∈ own) (h0 : Γ.sp ≠ none → 0 ∉ own)
    (h : tF Γ T (.comp own t s c b) σ H Q) : tLc (tSrc Γ T s) (gD Γ (weakS s) t) (tCt Γ T c) (tE Γ T b) own σ H Q := by
  obtain ⟨M, ρ, P, st, w, q⟩ := h
  refine ⟨M, ρ, _, st, w, fun items J H1 hw af sw L nD => ?_⟩
  have st1 := st.aft af
  have nM0 : ¬ Γ.M0 L := fun z => by
    obtain ⟨vs, e⟩ := st1.mok L (st1.sub L z)
    rw [nD] at e
    cases e
  have nown : ∀ (j : Nat) (ds : List D), ρ[j]? = some (some (Sl.own ds)) → σ[j]? ≠ some (some (.ref L)) := fun j ds e z => by
    obtain ⟨q', vs, e1, e2, _⟩ := st1.own j ds e
    rw [z] at e1
    cases e1
    rw [nD] at e2
    cases e2
  have spD : Γ.sp ≠ some L := fun z => nM0 (st1.spm L z).1
  have lm : LKm M H1 (fun b => M b ∨ b = L) := fun b z => z.elim .inl fun e => .inr (by rw [e]; exact nD)
  have kb : ∀ {H' : Hp}, (∀ b o, H1 b = some o → Γ.sp ≠ some b → H' b = some o) → LKh M H1 H' := fun k b o n e => k b o e fun z => n (st1.spM z)
  refine ⟨fun i m H' => m = items.length - i ∧ i ≤ items.length ∧ ∃ (acc : List D) (vs : List V), compW (fun d k => asgW t d (wipeE ρ own) k) (fun ρ1 k => wpC T c ρ1 k) (fun ρ1 k => wpE T b ρ1 k) (items.drop i) acc (fun ys => P (.list ys)) ∧
    StOk Γ (fun b => M b ∨ b = L) H' σ ρ ∧ H' L = some (.lst vs) ∧ RpL Γ.K (fun b => M b ∨ b = L) H' acc vs ∧ vs.length ≤ i ∧ ∀ b o, H1 b = some o → Γ.sp ≠ some b → H' b = some o, ⟨_, rfl, Nat.zero_le _, [], [], hw, st1.more nD, upd_same, .nil, Nat.le_refl _, fun b o e _ => by
      rw [upd_ne (ne_of_none e nD)]
      exact e⟩, ?_⟩
  rintro i m H' ⟨rfl, hi, acc, vs, cw, s', hD, r, hl, kp⟩
  by_cases hlt : i < items.length
  · refine .inr ⟨sw.goes i H' hlt (kb kp), fun H2 => ∃ m', m' < items.length - i ∧ m' = items.length - (i + 1) ∧ i + 1 ≤ items.length ∧ ∃ (acc : List D) (vs : List V), compW (fun d k => asgW t d (wipeE ρ own) k) (fun ρ1 k => wpC T c ρ1 k) (fun ρ1 k => wpE T b ρ1 k) (items.drop (i + 1)) acc (fun ys => P (.list ys)) ∧
      StOk Γ (fun b => M b ∨ b = L) H2 σ ρ ∧ H2 L = some (.lst vs) ∧ RpL Γ.K (fun b => M b ∨ b = L) H2 acc vs ∧ vs.length ≤ i + 1 ∧ ∀ b o, H1 b = some o → Γ.sp ≠ some b → H2 b = some o, fun H2 z => z, fun x H2 y => ?_⟩
    obtain ⟨g, f⟩ := sw.yields i H' x H2 hlt (kb kp) y
    obtain ⟨d, e1, rx⟩ := f _ lm
    rw [drop_get e1] at cw
    have s2 := s'.aft (Aft.of s'.sph g)
    refine ⟨_, d, wipeE ρ own, _, s2.wipe h0, rx, cw, fun ρ' σ' hk st' hne => ⟨?_, _, ρ', _, st', hk, fun bb H3 hb3 af3 => ?_⟩⟩
    · rw [wipe_same (σ := L2.wipe σ own) (st'.lenN.trans (s2.wipe h0).lenN.symm) fun j hj => hne j fun z => hj (ho j z)]
      exact wipe_wipe
    · have s3 := s2.aft af3
      have r3 := s2.rpL af3 (r.grow g)
      have k3 : ∀ b o, H1 b = some o → Γ.sp ≠ some b → H3 b = some o := fun b o e n => af3.1 b o (g b o (kp b o e n)) n
      have d3 : H3 L = some (.lst vs) := af3.1 L _ (g L _ hD) spD
      cases bb with
      | false =>
        simp only [Bool.false_eq_true, if_false]
        exact ⟨_, by omega, rfl, hlt, acc, vs, hb3, s3, d3, r3, by omega, k3⟩
      | true =>
        simp only [if_true]
        refine ⟨_, ρ', _, st'.aft af3, hb3, fun yd v H4 hy af4 rv => ?_⟩
        rw [hb] at rv
        have s4 := s3.aft af4
        have r4 := s3.rpL af4 r3
        have d4 : H4 L = some (.lst vs) := af4.1 L _ d3 spD
        have keep : ∀ b o, ¬ (M b ∨ b = L) → H4 b = some o → upd H4 L (.lst (vs ++ [v])) b = some o := fun b o n e => by
          rw [upd_ne fun z => n (.inr z)]
          exact e
        refine ⟨vs, d4, Nat.lt_of_le_of_lt hl (Nat.lt_of_lt_of_le hlt sw.len), _, by omega, rfl, hlt, acc ++ [yd], vs ++ [v], hy, s4.chg (.inr rfl) nown nM0, upd_same, (r4.keep s4.mok keep).append (.cons (Rp.keep s4.mok keep rv.1) .nil), by rw [List.length_append]; exact Nat.succ_le_succ hl, fun b o e n => ?_⟩
        rw [upd_ne (ne_of_none e nD)]
        exact af4.1 b o (k3 b o e n) n
  · have e : i = items.length := by omega
    subst e
    rw [List.drop_length] at cw
    refine .inl ⟨sw.stops H' (kb kp), q acc L vs H' cw (af.trans ⟨kp, s'.sph⟩) (af.back st.sph nD) hD (Nat.le_trans hl sw.len) r⟩
/-- the same with two clauses -/
theorem comp_lc2 {own : List Nat} {t t1 : Tg} {s s1 : Src} {c c1 : EO} {b : E} {σ : L2.St} {H : Hp} {Q : VK} (hb : isPeek b = false) (ho : ∀ i ∈ tslots t, i ∈ own) (ho1 : ∀ i ∈ tslots t1, i ∈ own) (h0 : Γ.sp ≠ none → 0 ∉ own)
    (h : tF Γ T (.comp2 own t s c t1 s1 c1 b) σ H Q) : tLc2 (tSrc Γ T s) (gD Γ (weakS s) t) (tCt Γ T c) (tSrc Γ T s1) (gD Γ (weakS s1) t1) (tCt Γ T c1) (tE Γ T b) own (tslots t1) σ H Q := by
  obtain ⟨M, ρ, P, st, w, q⟩ := h
  refine ⟨M, ρ, _, st, w, fun items J H1 ⟨hsm, hw⟩ af sw L nD => ?_⟩
  have st1 := st.aft af
  have nM0 : ¬ Γ.M0 L := fun z => by
    obtain ⟨vs, e⟩ := st1.mok L (st1.sub L z)
    rw [nD] at e
    cases e
  have nown : ∀ (j : Nat) (ds : List D), ρ[j]? = some (some (Sl.own ds)) → σ[j]? ≠ some (some (.ref L)) := fun j ds e z => by
    obtain ⟨q', vs, e1, e2, _⟩ := st1.own j ds e
    rw [z] at e1
    cases e1
    rw [nD] at e2
    cases e2
  have spD : Γ.sp ≠ some L := fun z => nM0 (st1.spm L z).1
  have lm : LKm M H1 (fun b => M b ∨ b = L) := fun b z => z.elim .inl fun e => .inr (by rw [e]; exact nD)
  have kb : ∀ {H' : Hp}, (∀ b o, H1 b = some o → Γ.sp ≠ some b → H' b = some o) → LKh M H1 H' := fun k b o n e => k b o e fun z => n (st1.spM z)
  have h01 : Γ.sp ≠ none → 0 ∉ tslots t1 := fun z y => h0 z (ho1 0 y)
  have big : (1000000 : Nat) ≤ sizeLine := m6
  let CW : List D → List D → (List D → Prop) → Prop := compW2 (fun d k => asgW t d (wipeE ρ own) k) (fun ρ1 k => wpC T c ρ1 k) (fun ρ1 k => wpSrc T s1 ρ1 k) (fun ρ1 d k => asgW t1 d (wipeE ρ1 (tslots t1)) k) (fun ρ1 k => wpC T c1 ρ1 k) (fun ρ1 k => wpE T b ρ1 k)
  refine ⟨fun i m H' => m = items.length - i ∧ i ≤ items.length ∧ ∃ (acc : List D) (vs : List V), CW (items.drop i) acc (fun ys => P (.list ys)) ∧
    StOk Γ (fun b => M b ∨ b = L) H' σ ρ ∧ H' L = some (.lst vs) ∧ RpL Γ.K (fun b => M b ∨ b = L) H' acc vs ∧ vs.length ≤ i * 1000 ∧ ∀ b o, H1 b = some o → Γ.sp ≠ some b → H' b = some o, ⟨_, rfl, Nat.zero_le _, [], [], hw, st1.more nD, upd_same, .nil, Nat.le_refl _, fun b o e _ => by
      rw [upd_ne (ne_of_none e nD)]
      exact e⟩, ?_⟩
  rintro i m H' ⟨rfl, hi, acc, vs, cw, s', hD, r, hl, kp⟩
  by_cases hlt : i < items.length
  · refine .inr ⟨sw.goes i H' hlt (kb kp), fun H2 => ∃ m', m' < items.length - i ∧ m' = items.length - (i + 1) ∧ i + 1 ≤ items.length ∧ ∃ (acc : List D) (vs : List V), CW (items.drop (i + 1)) acc (fun ys => P (.list ys)) ∧
      StOk Γ (fun b => M b ∨ b = L) H2 σ ρ ∧ H2 L = some (.lst vs) ∧ RpL Γ.K (fun b => M b ∨ b = L) H2 acc vs ∧ vs.length ≤ (i + 1) * 1000 ∧ ∀ b o, H1 b = some o → Γ.sp ≠ some b → H2 b = some o, fun H2 z => z, fun x H2 y => ?_⟩
    obtain ⟨g, f⟩ := sw.yields i H' x H2 hlt (kb kp) y
    obtain ⟨d, e1, rx⟩ := f _ lm
    rw [drop_get e1] at cw
    have s2 := s'.aft (Aft.of s'.sph g)
    obtain ⟨ρ0, ea, hb0⟩ := cw
    refine ⟨_, d, wipeE ρ own, fun ρ1 => asg t d (wipeE ρ own) = some ρ1 ∧ ρ1 = ρ0, s2.wipe h0, rx, ⟨ρ0, ea, ea, rfl⟩, fun ρ' σ' hkk st' hne => ?_⟩
    obtain ⟨hk0, rfl⟩ := hkk
    refine ⟨?_, _, ρ', _, st', hb0, fun bb H3 hb3 af3 => ?_⟩
    · rw [wipe_same (σ := L2.wipe σ own) (st'.lenN.trans (s2.wipe h0).lenN.symm) fun j hj => hne j fun z => hj (ho j z)]
      exact wipe_wipe
    · have s3 := s2.aft af3
      have r3 := s2.rpL af3 (r.grow g)
      have k3 : ∀ b o, H1 b = some o → Γ.sp ≠ some b → H3 b = some o := fun b o e n => af3.1 b o (g b o (kp b o e n)) n
      have d3 : H3 L = some (.lst vs) := af3.1 L _ (g L _ hD) spD
      cases bb with
      | false =>
        simp only [Bool.false_eq_true, if_false]
        exact ⟨_, by omega, rfl, hlt, acc, vs, hb3, s3, d3, r3, by omega, k3⟩
      | true =>
        simp only [if_true]
        have t3 := st'.aft af3
        refine ⟨_, ρ', _, t3, hb3, fun items1 J1 H4 ⟨hsm1, hw1⟩ af4 sw1 => ?_⟩
        have spM : ∀ {b : Addr}, Γ.sp = some b → M b ∨ b = L := fun {b} z => .inl (st.spM z)
        refine ⟨fun j k H5 => k = items1.length - j ∧ j ≤ items1.length ∧ ∃ (acc : List D) (vs : List V), compW (fun d k => asgW t1 d (wipeE ρ' (tslots t1)) k) (fun ρ1 k => wpC T c1 ρ1 k) (fun ρ1 k => wpE T b ρ1 k) (items1.drop j) acc (fun acc' => CW (items.drop (i + 1)) acc' fun ys => P (.list ys)) ∧
          StOk Γ (fun b => M b ∨ b = L) H5 σ ρ ∧ StOk Γ (fun b => M b ∨ b = L) H5 σ' ρ' ∧ H5 L = some (.lst vs) ∧ RpL Γ.K (fun b => M b ∨ b = L) H5 acc vs ∧ vs.length ≤ i * 1000 + j ∧ LKh (fun b => M b ∨ b = L) H4 H5 ∧ ∀ b o, H1 b = some o → Γ.sp ≠ some b → H5 b = some o,
          ⟨_, rfl, Nat.zero_le _, acc, vs, hw1, s3.aft af4, t3.aft af4, af4.1 L _ d3 spD, s3.rpL af4 r3, by omega, LKh.refl, fun b o e n => af4.1 b o (k3 b o e n) n⟩, ?_⟩
        rintro j k H5 ⟨rfl, hj, acc2, vs2, cw2, s5, t5, d5, r5, l5, lk5, k5⟩
        by_cases hlt1 : j < items1.length
        · refine .inr ⟨sw1.goes j H5 hlt1 lk5, fun H6 => ∃ k', k' < items1.length - j ∧ k' = items1.length - (j + 1) ∧ j + 1 ≤ items1.length ∧ ∃ (acc : List D) (vs : List V), compW (fun d k => asgW t1 d (wipeE ρ' (tslots t1)) k) (fun ρ1 k => wpC T c1 ρ1 k) (fun ρ1 k => wpE T b ρ1 k) (items1.drop (j + 1)) acc (fun acc' => CW (items.drop (i + 1)) acc' fun ys => P (.list ys)) ∧
            StOk Γ (fun b => M b ∨ b = L) H6 σ ρ ∧ StOk Γ (fun b => M b ∨ b = L) H6 σ' ρ' ∧ H6 L = some (.lst vs) ∧ RpL Γ.K (fun b => M b ∨ b = L) H6 acc vs ∧ vs.length ≤ i * 1000 + (j + 1) ∧ LKh (fun b => M b ∨ b = L) H4 H6 ∧ ∀ b o, H1 b = some o → Γ.sp ≠ some b → H6 b = some o, fun H6 z => z, fun x1 H6 y1 => ?_⟩
          obtain ⟨g1, f1⟩ := sw1.yields j H5 x1 H6 hlt1 lk5 y1
          obtain ⟨d1, e2, rx1⟩ := f1 (fun b => M b ∨ b = L) fun b z => .inl z
          rw [drop_get e2] at cw2
          have a6 := Aft.of s5.sph g1
          have s6 := s5.aft a6
          have t6 := t5.aft a6
          have d6 := g1 L _ d5
          have r6 := r5.grow g1
          have lk6 : LKh (fun b => M b ∨ b = L) H4 H6 := fun b o n e => g1 b o (lk5 b o n e)
          have k6 : ∀ b o, H1 b = some o → Γ.sp ≠ some b → H6 b = some o := fun b o e n => g1 b o (k5 b o e n)
          refine ⟨_, d1, wipeE ρ' (tslots t1), _, t6.wipe h01, rx1, cw2, fun ρ2 σ2 hk2 st2 hne2 => ⟨?_, _, ρ2, _, st2, hk2, fun b3 H7 hb7 af7 => ?_⟩⟩
          · rw [wipe_same (σ := L2.wipe σ' (tslots t1)) (st2.lenN.trans (t6.wipe h01).lenN.symm) fun j hj => hne2 j hj]
            exact wipe_wipe
          · have s7 := s6.aft af7
            have t7 := t6.aft af7
            have d7 : H7 L = some (.lst vs2) := af7.1 L _ d6 spD
            have r7 := s6.rpL af7 r6
            have lk7 : LKh (fun b => M b ∨ b = L) H4 H7 := fun b o n e => af7.1 b o (lk6 b o n e) fun z => n (spM z)
            have k7 : ∀ b o, H1 b = some o → Γ.sp ≠ some b → H7 b = some o := fun b o e n => af7.1 b o (k6 b o e n) n
            cases b3 with
            | false =>
              simp only [Bool.false_eq_true, if_false]
              exact ⟨_, by omega, rfl, hlt1, acc2, vs2, hb7, s7, t7, d7, r7, by omega, lk7, k7⟩
            | true =>
              simp only [if_true]
              refine ⟨_, ρ2, _, st2.aft af7, hb7, fun yd v H8 hy af8 rv => ?_⟩
              rw [hb] at rv
              have s8 := s7.aft af8
              have t8 := t7.aft af8
              have r8 := s7.rpL af8 r7
              have d8 : H8 L = some (.lst vs2) := af8.1 L _ d7 spD
              have nown' : ∀ (j : Nat) (ds : List D), ρ'[j]? = some (some (Sl.own ds)) → σ'[j]? ≠ some (some (.ref L)) := fun j ds e z => by
                obtain ⟨e1, e2⟩ := asg_own t hk0 e
                obtain ⟨e3, e4⟩ := wipeE_some e1
                rw [hne j e2, wipe_at e4] at z
                exact nown j ds e3 z
              have keep : ∀ b o, ¬ (M b ∨ b = L) → H8 b = some o → upd H8 L (.lst (vs2 ++ [v])) b = some o := fun b o n e => by
                rw [upd_ne fun z => n (.inr z)]
                exact e
              have il : i * 1000 + j < 1000000 := by
                have : i + 1 ≤ 1000 := Nat.le_trans hlt hsm
                omega
              refine ⟨vs2, d8, by omega, _, by omega, rfl, hlt1, acc2 ++ [yd], vs2 ++ [v], hy, s8.chg (.inr rfl) nown nM0, t8.chg (.inr rfl) nown' nM0, upd_same, (r8.keep s8.mok keep).append (.cons (Rp.keep s8.mok keep rv.1) .nil), by rw [List.length_append]; exact Nat.succ_le_succ l5, fun b o n e => keep b o n (af8.1 b o (lk7 b o n e) fun z => n (spM z)), fun b o e n => ?_⟩
              rw [upd_ne (ne_of_none e nD)]
              exact af8.1 b o (k7 b o e n) n
        · have e : j = items1.length := by omega
          subst e
          rw [List.drop_length] at cw2
          refine .inl ⟨sw1.stops H5 lk5, _, by omega, rfl, hlt, acc2, vs2, cw2, s5, d5, r5, by omega, k5⟩
  · have e : i = items.length := by omega
    subst e
    rw [List.drop_length] at cw
    refine .inl ⟨sw.stops H' (kb kp), q acc L vs H' cw (af.trans ⟨kp, s'.sph⟩) (af.back st.sph nD) hD (Nat.le_trans hl (Nat.le_trans (Nat.mul_le_mul_right 1000 hsm) big)) r⟩
end
end DH

/-! P13 -/
set_option Elab.async false
set_option linter.all false
set_option maxRecDepth 100000
set_option maxHeartbeats 4000000
namespace DH
open PySem PySem.Spec PyProof.Rows L2
/-! ### truth -/
theorem tru_v {K : PySem.W.Frag} {M : Addr → Prop} {H : Hp} {d : D} {v : V} {b : Bool} (h : Rw K M H d v) (e : tru d = some b) : TruV K v H b := by
  cases d with
  | bool c =>
    cases e
    rw [h.bl]
    rfl
  | list ds =>
    obtain ⟨q, vs, rfl, e1, _, r⟩ := h.list
    refine .inl ⟨vs, e1.l, ?_⟩
    cases e
    cases r <;> rfl
  | tuple ds =>
    obtain ⟨q, vs, rfl, e1, _, r⟩ := h.tuple
    refine .inr (.inl ⟨vs, e1.t, ?_⟩)
    cases e
    cases r <;> rfl
  | _ => cases e
def plainT : Expr → Bool
  | .UnaryOp .Not _ _ => false
  | .BoolOp .. => false
  | .IfExp .. => false
  | .Compare .. => false
  | _ => true
theorem plainT_is {x : Expr} (h : plainT x = true) (env : PySem.Env) : ∀ whole, isTrue x env whole = (do let v ← whole; standAt x.pos; holding [v] (truthy v)) := by
  cases x with
  | UnaryOp op y p => cases op <;> first | (intro _; rfl) | cases h
  | BoolOp => cases h
  | IfExp => cases h
  | Compare => cases h
  | _ => intro _; rfl
/-! ### lists of arguments -/
section
variable {Γ : Cn} {X : Cx} {k : Ck} {T : Tb} {lv : Nat} {pos : Pos} {x y z : Expr} {xs : List Expr} {a b c : E} {es : EL}
theorem l_nil : PA X [] (tL Γ T .nil) := pa_nil.wk fun σ H Q ⟨M, ρ, P, st, w, q⟩ => q [] [] H w (Aft.of st.sph Grow.refl) .nil rfl
theorem l_cons (h1 : PE X x (tE Γ T a)) (h2 : PA X xs (tL Γ T es)) (hs : isStar x = false) (hp : isPeek a = false) : PA X (x :: xs) (tL Γ T (.cons a es)) :=
  (pa_cons h1 h2 (star_cons hs)).wk fun σ H Q ⟨M, ρ, P, st, w, q⟩ => ⟨M, ρ, _, st, w, fun d v H1 w2 af r => ⟨M, ρ, _, st.aft af, w2, fun ds vs H2 hp2 af2 r2 l => by
    rw [hp] at r
    exact q (d :: ds) (v :: vs) H2 hp2 (af.trans af2) (.cons ((st.aft af).rp af2 r.1) r2) (congrArg Nat.succ l)⟩⟩
/-! ### operators -/
theorem s_bin (G : Gd Γ X k T lv) {op : Operator} {o : BO} (ho : chkBO o op = true) (h1 : PE X x (tE Γ T a)) (h2 : PE X y (tE Γ T b)) : PE X (.BinOp x op y pos) (tE Γ T (.bin o a b)) := by
  rw [chkBO_eq ho]
  refine (pe_op (op_bin o) h1 h2).wk fun σ H Q ⟨M, ρ, P, st, w, q⟩ => ⟨M, ρ, _, st, w, fun d v H1 w2 af r => ⟨M, ρ, _, st.aft af, w2, fun e u H2 w3 af2 r2 => ?_⟩⟩
  refine ⟨M, d, e, P, st.mokA (af.trans af2), ?_, ?_, w3, fun d' v' H' hp g rp => q d' v' H' hp ((af.trans af2).grow g) (rv0 (by rw [G.gk]; exact rp))⟩
  · rw [← G.gk]
    exact (r.aft (st.aft af) af2).w
  · rw [← G.gk]
    exact r2.w
theorem f_mul (G : Gd Γ X k T lv) {op : Operator} (ho : chkBO .mul op = true) (h1 : PE X x (tE Γ T (.lst es))) (h2 : PE X y (tE Γ T b)) : PE X (.BinOp x op y pos) (tF Γ T (.bin .mul (.lst es) b)) := by
  rw [chkBO_eq ho]
  refine (pe_op op_mulF h1 h2).wk fun σ H Q ⟨M, ρ, P, st, w, q⟩ => ⟨M, ρ, fun d => ∃ a, d = .list a ∧ wpE T b ρ fun e => binW .mul d e P, st, ?_, fun d v H1 ⟨a, ed, w2⟩ af r => ⟨M, ρ, _, st.aft af, w2, fun e u H2 w3 af2 r2 => ?_⟩⟩
  · have e : (fun ds : List D => ∃ a, PyData.list ds = .list a ∧ wpE T b ρ fun e => binW .mul (.list ds) e P) = fun ds => wpE T b ρ fun e => binW .mul (.list ds) e P := by
      funext ds
      exact propext ⟨fun ⟨_, _, z⟩ => z, fun z => ⟨_, rfl, z⟩⟩
    show wpL T es ρ (fun ds : List D => ∃ a, PyData.list ds = .list a ∧ wpE T b ρ fun e => binW .mul (.list ds) e P)
    rw [e]
    exact w
  · subst ed
    refine ⟨M, a, e, P, ?_, ?_, w3, fun ds p vs H' hp g np ep z rr => ?_⟩
    · rw [← G.gk]
      exact (r.aft (st.aft af) af2).w
    · rw [← G.gk]
      exact r2.w
    · rw [← G.gk] at rr
      exact q ds p vs H' hp ((af.trans af2).grow g) ((af.trans af2).back st.sph np) ep z rr
theorem s_neg (G : Gd Γ X k T lv) (h1 : PE X x (tE Γ T a)) : PE X (.UnaryOp .USub x pos) (tE Γ T (.neg a)) :=
  (pe_un un_neg h1).wk fun σ H Q ⟨M, ρ, P, st, w, q⟩ => ⟨M, ρ, _, st, w, fun d v H1 ⟨i, ei, hp⟩ af r => by
    subst ei
    exact ⟨i, r.w.int, q _ _ H1 hp af (rv0 (.int _))⟩⟩
theorem s_not (G : Gd Γ X k T lv) (h1 : PE X x (tE Γ T a)) : PE X (.UnaryOp .Not x pos) (tE Γ T (.not a)) :=
  (pe_notT h1).wk fun σ H Q ⟨M, ρ, P, st, w, q⟩ => ⟨M, ρ, _, st, w, fun d v H1 ⟨b, eb, hp⟩ af r => ⟨b, by
    rw [← G.gk]
    exact tru_v r.w eb, q _ _ H1 hp af (rv0 (.bl _))⟩⟩
theorem hu (G : Gd Γ X k T lv) : X.A.units + 65 < cLine := by
  have h1 := G.room.un
  have h2 : cLine = 9900 := by decide
  omega
theorem s_cmp (G : Gd Γ X k T lv) {op : CmpOp} {o : CO} (ho : chkCO o op = true) (h1 : PE X x (tE Γ T a)) (h2 : PE X y (tE Γ T b)) (hs : isSet y = false) : PE X (.Compare x [op] [y] pos) (tE Γ T (.cmp o a b)) := by
  rw [chkCO_eq ho]
  refine (pe_cmpR (op_cmp (hu G) o) h1 h2 (by cases y <;> first | rfl | cases hs)).wk fun σ H Q ⟨M, ρ, P, st, w, q⟩ => ⟨M, ρ, _, st, w, fun d v H1 w2 af r => ⟨M, ρ, _, st.aft af, w2, fun e u H2 w3 af2 r2 => ?_⟩⟩
  refine ⟨M, d, e, _, ?_, ?_, w3, fun b hb => q _ _ H2 hb (af.trans af2) (rv0 (.bl b))⟩
  · rw [← G.gk]
    exact (r.aft (st.aft af) af2).w
  · rw [← G.gk]
    exact r2.w
theorem t_cmp (G : Gd Γ X k T lv) {op : CmpOp} {o : CO} (ho : chkCO o op = true) (h1 : PE X x (tE Γ T a)) (h2 : PE X y (tE Γ T b)) (hs : isSet y = false) : PT X (.Compare x [op] [y] pos) (tT Γ T (.cmp o a b)) := by
  rw [chkCO_eq ho]
  refine (pt_cmpR (op_cmp (hu G) o) h1 h2 (by cases y <;> first | rfl | cases hs)).wk fun σ H Q ⟨M, ρ, P, st, w, q⟩ => ⟨M, ρ, _, st, w, fun d v H1 w2 af r => ⟨M, ρ, _, st.aft af, w2, fun e u H2 w3 af2 r2 => ?_⟩⟩
  refine ⟨M, d, e, _, ?_, ?_, w3, fun b hb => ⟨b, rfl, ?_⟩⟩
  · rw [← G.gk]
    exact (r.aft (st.aft af) af2).w
  · rw [← G.gk]
    exact r2.w
  · obtain ⟨c, hc, q2⟩ := q _ H2 hb (af.trans af2)
    cases hc
    exact q2
theorem lm_false {op op' : CmpOp} {y z : Expr} {o : CO} (h : chkCO o op' = true) (hc : chkCC o = true) : lastMarks [op, op'] [y, z] = false := by
  have e := chkCO_eq h
  subst e
  show behindInMarks (opC o) z = false
  cases o <;> first | (cases hc; done) | exact nomark z
theorem s_chain (G : Gd Γ X k T lv) {op op' : CmpOp} {o p : CO} (ho : chkCO o op = true) (hp : chkCO p op' = true) (hcc : chkCC p = true) (h1 : PE X x (tE Γ T a)) (h2 : PE X y (tE Γ T b)) (h3 : PE X z (tE Γ T c)) : PE X (.Compare x [op, op'] [y, z] pos) (tE Γ T (.chain o p a b c)) := by
  have lm := lm_false (op := op) (y := y) (z := z) hp hcc
  rw [chkCO_eq ho, chkCO_eq hp] at lm ⊢
  refine (pe_chain (op_cmp (hu G) o) (op_cmp (hu G) p) h1 h2 h3 lm).wk fun σ H Q ⟨M, ρ, P, st, w, q⟩ => ⟨M, ρ, _, st, w, fun d v H1 w2 af r => ⟨M, ρ, _, st.aft af, w2, fun e u H2 w3 af2 r2 => ?_⟩⟩
  have st2 := st.aft (af.trans af2)
  refine ⟨M, d, e, _, ?_, ?_, w3, fun kk hk => ⟨kk, rfl, ?_⟩⟩
  · rw [← G.gk]
    exact (r.aft (st.aft af) af2).w
  · rw [← G.gk]
    exact r2.w
  · cases kk with
    | false =>
      simp only [Bool.false_eq_true, if_false]
      exact q _ _ H2 hk (af.trans af2) (rv0 (.bl _))
    | true =>
      simp only [if_true]
      refine ⟨M, ρ, _, st2, hk, fun f t H3 w4 af3 r3 => ⟨M, e, f, _, ?_, ?_, w4, fun b hb => q _ _ H3 hb ((af.trans af2).trans af3) (rv0 (.bl b))⟩⟩
      · rw [← G.gk]
        exact (r2.aft st2 af3).w
      · rw [← G.gk]
        exact r3.w
theorem t_chain (G : Gd Γ X k T lv) {op op' : CmpOp} {o p : CO} (ho : chkCO o op = true) (hp : chkCO p op' = true) (hcc : chkCC p = true) (h1 : PE X x (tE Γ T a)) (h2 : PE X y (tE Γ T b)) (h3 : PE X z (tE Γ T c)) : PT X (.Compare x [op, op'] [y, z] pos) (tT Γ T (.chain o p a b c)) := by
  have lm := lm_false (op := op) (y := y) (z := z) hp hcc
  rw [chkCO_eq ho, chkCO_eq hp] at lm ⊢
  refine (pt_chain (op_cmp (hu G) o) (op_cmp (hu G) p) h1 h2 h3 lm).wk fun σ H Q ⟨M, ρ, P, st, w, q⟩ => ⟨M, ρ, _, st, w, fun d v H1 w2 af r => ⟨M, ρ, _, st.aft af, w2, fun e u H2 w3 af2 r2 => ?_⟩⟩
  have st2 := st.aft (af.trans af2)
  refine ⟨M, d, e, _, ?_, ?_, w3, fun kk hk => ⟨kk, rfl, ?_⟩⟩
  · rw [← G.gk]
    exact (r.aft (st.aft af) af2).w
  · rw [← G.gk]
    exact r2.w
  · cases kk with
    | false =>
      simp only [Bool.false_eq_true, if_false]
      obtain ⟨b', eb, q2⟩ := q _ H2 hk (af.trans af2)
      cases eb
      exact ⟨false, rfl, q2⟩
    | true =>
      simp only [if_true]
      refine ⟨M, ρ, _, st2, hk, fun f t H3 w4 af3 r3 => ⟨M, e, f, _, ?_, ?_, w4, fun b hb => ⟨b, rfl, ?_⟩⟩⟩
      · rw [← G.gk]
        exact (r2.aft st2 af3).w
      · rw [← G.gk]
        exact r3.w
      · obtain ⟨c, hc, q2⟩ := q _ H3 hb ((af.trans af2).trans af3)
        cases hc
        exact q2
def isNonD : D → Bool
  | .none => true
  | _ => false
theorem non_iff {K : PySem.W.Frag} {M : Addr → Prop} {H : Hp} {d : D} {v : V} (h : Rw K M H d v) : decide (v = .non) = isNonD d := by
  obtain ⟨p, h⟩ := h
  cases p with
  | false => cases (show Rp K M H _ _ from h) <;> first | rfl | exact decide_eq_true rfl | exact decide_eq_false (fun e => by cases e)
  | true =>
    obtain ⟨q, vs, ds, rfl, rfl, _⟩ := h
    exact decide_eq_false (fun e => by cases e)
theorem pc_N (n : Bool) {j : Nat} {p' : Pos} {te : TE} (h1 : PE X x te) : PC X (bif n then .IsNot else .Is) x (.Constant .none j p') (fun σ H Q => te σ H fun v H1 => Q (.bl (n ^^ decide (v = .non))) H1) := by
  cases n with
  | false => exact ⟨fun pins s σ H Q I h => (pc_isN h1).run pins s σ H Q I (by unfold tIsN; simpa using h)⟩
  | true => exact ⟨fun pins s σ H Q I h => (pc_notN h1).run pins s σ H Q I (by unfold tNotN; simpa using h)⟩
theorem bm_N (n : Bool) {y : Expr} : behindInMarks (bif n then .IsNot else .Is) y = false := by
  cases n <;> exact nomark y
theorem s_isN (n : Bool) {j : Nat} {p' : Pos} (h1 : PE X x (tE Γ T a)) : PE X (.Compare x [bif n then .IsNot else .Is] [.Constant .none j p'] pos) (tE Γ T (.isN n a)) :=
  (pe_cmp (pc_N n h1) (bm_N n)).wk fun σ H Q ⟨M, ρ, P, st, w, q⟩ => ⟨M, ρ, _, st, w, fun d v H1 hp af r => by
    show Q (.bl (n ^^ decide (v = .non))) H1
    rw [non_iff r.w]
    exact q _ _ H1 hp af (rv0 (.bl _))⟩
theorem t_isN (n : Bool) {j : Nat} {p' : Pos} (h1 : PE X x (tE Γ T a)) : PT X (.Compare x [bif n then .IsNot else .Is] [.Constant .none j p'] pos) (tT Γ T (.isN n a)) :=
  (pt_cmp (pc_N n h1) (bm_N n)).wk fun σ H Q ⟨M, ρ, P, st, w, q⟩ => ⟨M, ρ, _, st, w, fun d v H1 hp af r => by
    refine ⟨n ^^ decide (v = .non), rfl, ?_⟩
    rw [non_iff r.w]
    obtain ⟨b, eb, hb⟩ := q _ H1 hp af
    cases eb
    exact hb⟩
/-! ### and, or, one of two -/
theorem s_and1 (h : PE X x (tE Γ T a)) : PE X (.BoolOp .And [x] pos) (tE Γ T (.and (.cons a .nil))) :=
  (pe_one h).wk fun σ H Q ⟨M, ρ, P, st, w, q⟩ => ⟨M, ρ, _, st, w, fun d v H1 ⟨b, eb, hp⟩ af r => by
    subst eb
    rw [r.w.bl]
    exact q _ _ H1 hp af (rv0 (.bl b))⟩
theorem s_or1 (h : PE X x (tE Γ T a)) : PE X (.BoolOp .Or [x] pos) (tE Γ T (.or (.cons a .nil))) :=
  (pe_one h).wk fun σ H Q ⟨M, ρ, P, st, w, q⟩ => ⟨M, ρ, _, st, w, fun d v H1 ⟨b, eb, hp⟩ af r => by
    subst eb
    rw [r.w.bl]
    exact q _ _ H1 hp af (rv0 (.bl b))⟩
theorem s_and (h : PE X x (tE Γ T a)) (h2 : PE X (.BoolOp .And (y :: xs) pos) (tE Γ T (.and (.cons b es)))) : PE X (.BoolOp .And (x :: y :: xs) pos) (tE Γ T (.and (.cons a (.cons b es)))) :=
  (pe_and h h2).wk fun σ H Q ⟨M, ρ, P, st, w, q⟩ => ⟨M, ρ, _, st, w, fun d v H1 ⟨b, eb, hp⟩ af r => by
    subst eb
    refine ⟨b, r.w.bl, ?_⟩
    cases b with
    | true =>
      simp only [if_true]
      exact ⟨M, ρ, P, st.aft af, hp, fun d v H2 hp2 af2 r2 => q d v H2 hp2 (af.trans af2) r2⟩
    | false =>
      simp only [Bool.false_eq_true, if_false]
      exact q _ _ H1 hp af (rv0 (.bl _))⟩
theorem s_or (h : PE X x (tE Γ T a)) (h2 : PE X (.BoolOp .Or (y :: xs) pos) (tE Γ T (.or (.cons b es)))) : PE X (.BoolOp .Or (x :: y :: xs) pos) (tE Γ T (.or (.cons a (.cons b es)))) :=
  (pe_or h h2).wk fun σ H Q ⟨M, ρ, P, st, w, q⟩ => ⟨M, ρ, _, st, w, fun d v H1 ⟨b, eb, hp⟩ af r => by
    subst eb
    refine ⟨b, r.w.bl, ?_⟩
    cases b with
    | true =>
      simp only [if_true]
      exact q _ _ H1 hp af (rv0 (.bl _))
    | false =>
      simp only [Bool.false_eq_true, if_false]
      exact ⟨M, ρ, P, st.aft af, hp, fun d v H2 hp2 af2 r2 => q d v H2 hp2 (af.trans af2) r2⟩⟩
theorem w_and1 (h : PT X x (tT Γ T a)) : PW X (.BoolOp .And [x] pos) (tT Γ T (.and (.cons a .nil))) :=
  ⟨fun whole pins s σ H Q I ⟨M, ρ, P, st, w, q⟩ => (pw_and1 h).run whole pins s σ H Q I ⟨M, ρ, _, st, w, fun d H' ⟨b, eb, hp⟩ af => by
    subst eb
    exact q _ H' hp af⟩⟩
theorem w_or1 (h : PT X x (tT Γ T a)) : PW X (.BoolOp .Or [x] pos) (tT Γ T (.or (.cons a .nil))) :=
  ⟨fun whole pins s σ H Q I ⟨M, ρ, P, st, w, q⟩ => (pw_or1 h).run whole pins s σ H Q I ⟨M, ρ, _, st, w, fun d H' ⟨b, eb, hp⟩ af => by
    subst eb
    exact q _ H' hp af⟩⟩
theorem w_and (h : PT X x (tT Γ T a)) (h2 : PW X (.BoolOp .And (y :: xs) pos) (tT Γ T (.and (.cons b es)))) : PW X (.BoolOp .And (x :: y :: xs) pos) (tT Γ T (.and (.cons a (.cons b es)))) :=
  ⟨fun whole pins s σ H Q I ⟨M, ρ, P, st, w, q⟩ => (pw_and h h2).run whole pins s σ H Q I ⟨M, ρ, _, st, w, fun d H1 ⟨b, eb, hp⟩ af => by
    subst eb
    refine ⟨b, rfl, ?_⟩
    cases b with
    | true =>
      simp only [if_true]
      exact ⟨M, ρ, P, st.aft af, hp, fun d H2 hp2 af2 => q d H2 hp2 (af.trans af2)⟩
    | false =>
      simp only [Bool.false_eq_true, if_false]
      obtain ⟨c, ec, q2⟩ := q _ H1 hp af
      cases ec
      exact q2⟩⟩
theorem w_or (h : PT X x (tT Γ T a)) (h2 : PW X (.BoolOp .Or (y :: xs) pos) (tT Γ T (.or (.cons b es)))) : PW X (.BoolOp .Or (x :: y :: xs) pos) (tT Γ T (.or (.cons a (.cons b es)))) :=
  ⟨fun whole pins s σ H Q I ⟨M, ρ, P, st, w, q⟩ => (pw_or h h2).run whole pins s σ H Q I ⟨M, ρ, _, st, w, fun d H1 ⟨b, eb, hp⟩ af => by
    subst eb
    refine ⟨b, rfl, ?_⟩
    cases b with
    | true =>
      simp only [if_true]
      obtain ⟨c, ec, q2⟩ := q _ H1 hp af
      cases ec
      exact q2
    | false =>
      simp only [Bool.false_eq_true, if_false]
      exact ⟨M, ρ, P, st.aft af, hp, fun d H2 hp2 af2 => q d H2 hp2 (af.trans af2)⟩⟩⟩
theorem t_not (h : PT X x (tT Γ T a)) : PT X (.UnaryOp .Not x pos) (tT Γ T (.not a)) :=
  (pt_not h).wk fun σ H Q ⟨M, ρ, P, st, w, q⟩ => ⟨M, ρ, _, st, w, fun d H1 ⟨b, eb, hp⟩ af => by
    obtain ⟨c, ec, q2⟩ := q _ H1 hp af
    cases ec
    exact ⟨b, eb, q2⟩⟩
/-- a test by its value -/
theorem t_val (G : Gd Γ X k T lv) (h : PE X x (tE Γ T a)) (hp : plainT x = true) : PT X x (tT Γ T a) :=
  (pt_truth h (plainT_is hp X.env)).wk fun σ H Q ⟨M, ρ, P, st, w, q⟩ => ⟨M, ρ, P, st, w, fun d v H1 hp af r => by
    obtain ⟨b, eb, q2⟩ := q d H1 hp af
    refine ⟨b, ?_, q2⟩
    rw [← G.gk]
    exact tru_v r.w eb⟩
theorem s_ite (hc : PT X x (tT Γ T a)) (h1 : PE X y (tE Γ T b)) (h2 : PE X z (tE Γ T c)) (n1 : isPeek b = false) (n2 : isPeek c = false) : PE X (.IfExp x y z pos) (tE Γ T (.ite a b c)) :=
  (pe_ifExp hc h1 h2).wk fun σ H Q ⟨M, ρ, P, st, w, q⟩ => ⟨M, ρ, _, st, w, fun d H1 ⟨b', eb, hp⟩ af => by
    refine ⟨b', eb, ?_⟩
    cases b' with
    | true =>
      simp only [if_true]
      exact ⟨M, ρ, P, st.aft af, hp, fun d v H2 hp2 af2 r2 => q d v H2 hp2 (af.trans af2) (by rw [n1] at r2; exact r2)⟩
    | false =>
      simp only [Bool.false_eq_true, if_false]
      exact ⟨M, ρ, P, st.aft af, hp, fun d v H2 hp2 af2 r2 => q d v H2 hp2 (af.trans af2) (by rw [n2] at r2; exact r2)⟩⟩
/-! ### subscripts, slices -/
theorem s_ix (G : Gd Γ X k T lv) (h1 : PE X x (tE Γ T a)) (h2 : PE X y (tE Γ T b)) (hs : isSlc y = false) : PE X (.Subscript x y pos) (tE Γ T (.ix a b)) := by
  refine (pe_ix ix_d h1 h2 (by cases y <;> first | (intro _ _; rfl) | cases hs)).wk fun σ H Q ⟨M, ρ, P, st, w, q⟩ => ⟨M, ρ, _, st, w, fun d v H1 w2 af r => ⟨M, ρ, _, st.aft af, w2, fun e u H2 w3 af2 r2 => ?_⟩⟩
  refine ⟨M, d, e, P, st.mokA (af.trans af2), ?_, ?_, w3, fun d' v' H' hp g rp => q d' v' H' hp ((af.trans af2).grow g) (rv0 (by rw [G.gk]; exact rp))⟩
  · rw [← G.gk]
    exact (r.aft (st.aft af) af2).w
  · rw [← G.gk]
    exact r2.w
def tO (Γ : Cn) (T : Tb) (o : EO) : TO := fun σ H Q => ∃ (M : Addr → Prop) (ρ : Env) (P : Option Int → Prop), StOk Γ M H σ ρ ∧ wpO T o ρ P ∧ ∀ l H', P l → Aft Γ.sp H H' → Q l H'
theorem _root_.L2.PO.wk {X : Cx} {e : Option Expr} {t t' : TO} (h : PO X e t) (c : ∀ σ H Q, t' σ H Q → t σ H Q) : PO X e t' := ⟨fun pins s σ H Q I q => h.run pins s σ H Q I (c σ H Q q)⟩
theorem o_no : PO X none (tO Γ T .no) := po_none.wk fun σ H Q ⟨M, ρ, P, st, w, q⟩ => q none H w (Aft.of st.sph Grow.refl)
theorem o_yes (h : PE X x (tE Γ T a)) : PO X (some x) (tO Γ T (.yes a)) := (po_some h).wk fun σ H Q ⟨M, ρ, P, st, w, q⟩ => ⟨M, ρ, _, st, w, fun d v H1 ⟨i, ei, hp⟩ af r => by
  subst ei
  exact ⟨i, r.w.int, q _ H1 hp af⟩⟩
theorem s_slc (G : Gd Γ X k T lv) {lo hi : EO} {l h : Option Expr} {p2 : Pos} (h1 : PE X x (tE Γ T a)) (h2 : PO X l (tO Γ T lo)) (h3 : PO X h (tO Γ T hi)) : PE X (.Subscript x (.Slice l h none p2) pos) (tE Γ T (.slc a lo hi)) := by
  refine (pe_slice sl_d h1 h2 h3).wk fun σ H Q ⟨M, ρ, P, st, w, q⟩ => ⟨M, ρ, _, st, w, fun d v H1 w2 af r => ⟨M, ρ, _, st.aft af, w2, fun i H2 w3 af2 => ⟨M, ρ, _, st.aft (af.trans af2), w3, fun j H3 w4 af3 => ?_⟩⟩⟩
  refine ⟨M, d, P, st.mokA ((af.trans af2).trans af3), ?_, w4, fun d' v' H' hp g rp => q d' v' H' hp (((af.trans af2).trans af3).grow g) (rv0 (by rw [G.gk]; exact rp))⟩
  rw [← G.gk]
  exact ((r.aft (st.aft af) af2).aft (st.aft (af.trans af2)) af3).w
theorem s_rev (G : Gd Γ X k T lv) {kk : Nat} {p1 p2 p3 : Pos} (h1 : PE X x (tE Γ T a)) : PE X (.Subscript x (.Slice none none (some (.UnaryOp .USub (.Constant (.int 1) kk p1) p2)) p3) pos) (tE Γ T (.rev a)) := by
  refine (pe_revD h1).wk fun σ H Q ⟨M, ρ, P, st, w, q⟩ => ⟨M, ρ, _, st, w, fun d v H1 w2 af r => ?_⟩
  refine ⟨M, d, P, st.mokA af, ?_, w2, fun d' v' H' hp g rp => q d' v' H' hp (af.grow g) (rv0 (by rw [G.gk]; exact rp))⟩
  rw [← G.gk]
  exact r.w
end
end DH

/-! P14 -/
set_option Elab.async false
set_option linter.all false
set_option maxRecDepth 100000
set_option maxHeartbeats 4000000
namespace DH
open PySem PySem.Spec PyProof.Rows L2
/-! ### calls of defs -/
theorem vals_pm {vs : List V} {ws : List Value} (r : Vals vs ws) : ∀ {pm : List Nat}, (∀ i ∈ pm, i < vs.length) → Vals (pm.map fun i => vs.getD i V.non) (pm.map fun i => ws.getD i Value.none)
  | [], _ => .nil
  | i :: pm, h => by
    have hi := h i (List.mem_cons_self ..)
    obtain ⟨u, hu, ru⟩ := r.get (List.getElem?_eq_getElem hi)
    refine .cons ?_ (vals_pm r fun j hj => h j (List.mem_cons_of_mem _ hj))
    show L2.RelV (vs.getD i V.non) (ws.getD i Value.none)
    rw [List.getD_eq_getElem?_getD, List.getD_eq_getElem?_getD, hu, List.getElem?_eq_getElem hi]
    exact ru
theorem rpl_pm {K : PySem.W.Frag} {M : Addr → Prop} {H : Hp} {ds : List D} {vs : List V} (r : RpL K M H ds vs) : ∀ {pm : List Nat}, (∀ i ∈ pm, i < vs.length) → RpL K M H (pm.map fun i => ds.getD i PyData.none) (pm.map fun i => vs.getD i V.non)
  | [], _ => .nil
  | i :: pm, h => by
    have hi := h i (List.mem_cons_self ..)
    obtain ⟨d, hd, rd⟩ := r.getV (List.getElem?_eq_getElem hi)
    refine .cons ?_ (rpl_pm r fun j hj => h j (List.mem_cons_of_mem _ hj))
    show Rp K M H (ds.getD i PyData.none) (vs.getD i V.non)
    rw [List.getD_eq_getElem?_getD, List.getD_eq_getElem?_getD, hd, List.getElem?_eq_getElem hi]
    exact rd
section
variable {Γ : Cn} {X : Cx} {k : Ck} {T : Tb} {lv : Nat} {p pos : Pos} {x y z : Expr} {xs : List Expr} {a b c : E} {es : EL} {f g : Str}
theorem passes0 : Passes CX0 X E0 := fun _ _ _ _ _ _ _ z => z.elim
theorem use_sp {j n : Nat} {M : Addr → Prop} {H : Hp} {σ : L2.St} {ρ : Env} {ds : List D} {vs : List V} {P : D → Prop} {Q : VK} (G : Gd Γ X k T lv) (st : StOk Γ M H σ ρ) (r : RpL Γ.K M H ds vs) (l : ds.length = n) (hp : T.f j ds P) (q : ∀ d v H', P d → Aft Γ.sp H H' → Rv Γ false M H' d v → Q v H') : spG X.K false n (T.f j) vs H Q E0 :=
  ⟨none, M, ds, vs, P, ⟨rfl, rfl⟩, l, by rw [← G.gk]; exact r, st.mok, (fun a e => by cases e), hp, fun d v H' hp2 af2 r2 => q d v H' hp2 ⟨fun b o e _ => af2.1 b o e (by simp), st.sph.grow fun b o e => af2.1 b o e (by simp)⟩ (rv0 (by rw [G.gk]; exact r2))⟩
theorem use_spS {j n : Nat} {M : Addr → Prop} {H : Hp} {σ : L2.St} {ρ : Env} {ds : List D} {vs : List V} {P : D → Prop} {Q : VK} {s : Addr} (G : Gd Γ X k T lv) (st : StOk Γ M H σ ρ) (hs : Γ.sp = some s) (r : RpL Γ.K M H ds vs) (l : ds.length = n) (hp : T.f j ds P) (q : ∀ d v H', P d → Aft Γ.sp H H' → Rv Γ false M H' d v → Q v H') : spG X.K true n (T.f j) (.ref s :: vs) H Q E0 :=
  ⟨some s, M, ds, vs, P, ⟨s, rfl, st.spM hs, rfl⟩, l, by rw [← G.gk]; exact r, st.mok, by rw [← hs]; exact st.sph, hp, fun d v H' hp2 af2 r2 => q d v H' hp2 (by rw [hs]; exact af2) (rv0 (by rw [G.gk]; exact r2))⟩
theorem s_call (G : Gd Γ X k T lv) {j : Nat} (hg : gloB k f = true) (hF : (j, f, false, elLen es) ∈ k.F) (hl : xs.length = elLen es) (ns : noStars xs) (h : PA X xs (tL Γ T es)) : PE X (.Call (.Name f p) xs [] pos) (tE Γ T (.call j es)) := by
  obtain ⟨fa, fd, ps, hm, hk, hb, F, hps, _⟩ := G.fs _ _ _ _ hF
  obtain ⟨g1, g2⟩ := G.glo hg
  cases xs with
  | nil =>
    have e0 : elLen es = 0 := hl.symm
    have ep : ps = [] := List.eq_nil_of_length_eq_zero (by rw [hps, e0]; rfl)
    subst ep
    have ee : es = .nil := by cases es <;> first | rfl | (simp [elLen] at e0)
    subst ee
    refine (pe_callG0 F G.room G.grd g1 hm hk hb passes0 g2).wk fun σ H Q ⟨M, ρ, P, st, w, q⟩ => ?_
    exact use_sp G st .nil rfl w q
  | cons e es' =>
    refine (pe_callG F G.room G.grd g1 hm hk hb passes0 h g2 (star_cons (ns e (List.mem_cons_self ..))) (star_any fun y hy => ns y (List.mem_cons_of_mem _ hy))).wk fun σ H Q ⟨M, ρ, P, st, w, q⟩ => ?_
    exact ⟨M, ρ, _, st, w, fun ds vs H1 hp af r l => use_sp G (st.aft af) r l hp fun d v H' hp2 af2 r2 => q d v H' hp2 (af.trans af2) r2⟩
theorem s_callS (G : Gd Γ X k T lv) {j : Nat} {y : Str} {p2 : Pos} (hg : gloB k f = true) (hF : (j, f, true, elLen es) ∈ k.F) (hs : k.spn = true) (hy : visB k 0 y = true) (ns : noStars xs) (h : PA X xs (tL Γ T es)) : PE X (.Call (.Name f p) (.Name y p2 :: xs) [] pos) (tE Γ T (.callS j es)) := by
  obtain ⟨fa, fd, ps, hm, hk, hb, F, hps, _⟩ := G.fs _ _ _ _ hF
  obtain ⟨g1, g2⟩ := G.glo hg
  obtain ⟨s, es'⟩ := G.spn hs
  obtain ⟨v1, v2, v3, v4⟩ := G.vis hy
  refine (pe_callG F G.room G.grd g1 hm hk hb passes0 (pa_cons (pe_var v1 v2 v3 v4) h rfl) g2 rfl (star_any ns)).wk fun σ H Q ⟨M, ρ, P, st, w, q⟩ => ?_
  exact ⟨.ref s, (st.spm s es').2.1, M, ρ, _, st, w, fun ds vs H1 hp af r l => use_spS G (st.aft af) es' r l hp fun d v H' hp2 af2 r2 => q d v H' hp2 (af.trans af2) r2⟩
/-! ### the spring -/
theorem SpH.get {sp : Option Addr} {H : Hp} {a : Addr} (s : SpH sp H) (e : sp = some a) {c : Nat} (hc : c < 3) : ∃ (xs : List V) (n : Int), H a = some (.lst xs) ∧ xs.length = 3 ∧ atI xs (c : Int) = some (.int n) ∧ sprI c n := by
  obtain ⟨x, y, z, h, hx, hy, hy2, hz⟩ := s a e
  match c, hc with
  | 0, _ => exact ⟨_, x, h, rfl, rfl, hx⟩
  | 1, _ => exact ⟨_, y, h, rfl, rfl, hy, hy2⟩
  | 2, _ => exact ⟨_, z, h, rfl, rfl, hz⟩
theorem s_spr (G : Gd Γ X k T lv) {cc j' : Nat} {j : Int} {y : Str} {p2 : Pos} (hs : k.spn = true) (hy : visB k 0 y = true) (hj : j = (cc : Int)) (hc : cc < 3) : PE X (.Subscript (.Name y p) (.Constant (.int j) j' p2) pos) (tE Γ T (.spr cc)) := by
  obtain ⟨s, es'⟩ := G.spn hs
  obtain ⟨v1, v2, v3, v4⟩ := G.vis hy
  subst hj
  refine (pe_ix ix_list (pe_var v1 v2 v3 v4) pe_int (fun _ _ => rfl)).wk fun σ H Q ⟨M, ρ, P, st, w, q⟩ => ?_
  obtain ⟨xs, n, h1, _, h2, h3⟩ := st.sph.get es' hc
  exact ⟨.ref s, (st.spm s es').2.1, s, xs, (cc : Int), .int n, rfl, rfl, .inl (.inl h1), h2, q _ _ H (w n h3) (Aft.of st.sph Grow.refl) (rv0 (.int n))⟩
/-- a call with a spring that is made on the way -/
theorem s_callP (G : Gd Γ X k T lv) {j gg : Nat} {pg posg : Pos} (hg : gloB k f = true) (hF : (j, f, true, 0) ∈ k.F) (hg2 : gloB k g = true) (hS : (gg, g, elLen es) ∈ k.S) (hl : xs.length = elLen es) (ns : noStars xs) (h : PA X xs (tL Γ T es)) :
    PE X (.Call (.Name f p) [.Call (.Name g pg) xs [] posg] [] pos) (tE Γ T (.callP j gg es)) := by
  obtain ⟨fa, fd, ps, hm, hk, hb, F, hps, _⟩ := G.fs _ _ _ _ hF
  obtain ⟨ga, gd, qs, hm2, hk2, hb2, F2, hqs⟩ := G.ps _ _ _ hS
  obtain ⟨g1, g2⟩ := G.glo hg
  obtain ⟨g3, g4⟩ := G.glo hg2
  have inner : ∃ t, PE X (.Call (.Name g pg) xs [] posg) t ∧ ∀ σ H Q, tE Γ T (.callP j gg es) σ H Q → t σ H fun v H1 => spG X.K true 0 (T.f j) [v] H1 Q E0 := by
    have core : ∀ {σ : L2.St} {H H1 : Hp} {Q : VK} {M : Addr → Prop} {ρ : Env} {P : D → Prop} {ds : List D} {vs : List V}, StOk Γ M H σ ρ → Aft Γ.sp H H1 → RpL Γ.K M H1 ds vs → ds.length = elLen es → T.f gg ds (fun d => ∃ x y z : Int, d = .list [.int x, .int y, .int z] ∧ (sprI 0 x ∧ sprI 1 y ∧ sprI 2 z) ∧ T.f j [] P) → (∀ d v H', P d → Aft Γ.sp H H' → Rv Γ false M H' d v → Q v H') →
        spN X.K (elLen es) (T.f gg) vs H1 (fun v H1 => spG X.K true 0 (T.f j) [v] H1 Q E0) E0 := fun {σ H H1 Q M ρ P ds vs} st af r l hp q => by
      refine ⟨M, ds, _, l, by rw [← G.gk]; exact r, st.mokA af, hp, fun es2 q2 us H2 ⟨x, y, z, ed, ⟨hx, hy, hz⟩, hp2⟩ gr np e2 r2 => ?_⟩
      cases ed
      have st2 := (st.aft af).aft (Aft.of af.2 gr)
      have mok2 : MOk (fun b => M b ∨ b = q2) H2 := fun b m => m.elim (fun m => st2.mok b m) fun e => ⟨us, by rw [e]; exact e2⟩
      have eu : us = [.int x, .int y, .int z] := RpL.ints (ns := [x, y, z]) r2
      subst eu
      have nsp : Γ.sp ≠ some q2 := fun w => by
        obtain ⟨a, b, c, y, _⟩ := af.2 q2 w
        rw [np] at y
        cases y
      refine ⟨some q2, fun b => M b ∨ b = q2, [], [], P, ⟨q2, rfl, .inr rfl, rfl⟩, rfl, .nil, mok2, fun a ea => ?_, hp2, fun d v H3 hp3 af3 r3 => ?_⟩
      · cases ea
        exact ⟨x, y, z, e2, hx, hy.1, hy.2, hz⟩
      · refine q d v H3 hp3 ⟨fun b o e n => ?_, fun a ea => ?_⟩ (rv0 (by rw [G.gk]; exact r3.anti fun _ _ _ m => .inl m))
        · have e1 := gr b o (af.1 b o e n)
          refine af3.1 b o e1 fun w => ?_
          have w : q2 = b := Option.some.inj w
          have e4 := af.1 b o e n
          rw [← w, np] at e4
          cases e4
        · obtain ⟨i, m, c, e5, rest⟩ := af.2 a ea
          refine ⟨i, m, c, af3.1 a _ (gr a _ e5) fun w => ?_, rest⟩
          have w : q2 = a := Option.some.inj w
          rw [← w, np] at e5
          cases e5
    cases xs with
    | nil =>
      have e0 : elLen es = 0 := hl.symm
      have ep : qs = [] := List.eq_nil_of_length_eq_zero (by rw [hqs, e0])
      subst ep
      have ee : es = .nil := by cases es <;> first | rfl | (simp [elLen] at e0)
      subst ee
      exact ⟨_, pe_callG0 F2 G.room G.grd g3 hm2 hk2 hb2 passes0 g4, fun σ H Q ⟨M, ρ, P, st, w, q⟩ => core st (Aft.of st.sph Grow.refl) .nil rfl w q⟩
    | cons e es' =>
      exact ⟨_, pe_callG F2 G.room G.grd g3 hm2 hk2 hb2 passes0 h g4 (star_cons (ns e (List.mem_cons_self ..))) (star_any fun y hy => ns y (List.mem_cons_of_mem _ hy)), fun σ H Q ⟨M, ρ, P, st, w, q⟩ => ⟨M, ρ, _, st, w, fun ds vs H1 hp af r l => core st af r l hp q⟩⟩
  obtain ⟨t, ht, hq⟩ := inner
  exact (pe_callG F G.room G.grd g1 hm hk hb passes0 (pa_cons ht pa_nil rfl) g2 rfl rfl).wk fun σ H Q h => hq σ H Q h
/-! ### keywords -/
structure PKd (X : Cx) (kws : List Keyword) (t : TA) : Prop where
  run : PK X kws t
theorem _root_.L2.PK.wk {X : Cx} {e : List Keyword} {t t' : TA} (h : PK X e t) (c : ∀ σ H Q, t' σ H Q → t σ H Q) : PK X e t' := ⟨fun pos pins s σ H Q I q => h.run pos pins s σ H Q I (c σ H Q q)⟩
theorem k_nil : PK X [] (tL Γ T .nil) := pk_nil.wk fun σ H Q ⟨M, ρ, P, st, w, q⟩ => q [] [] H w (Aft.of st.sph Grow.refl) .nil rfl
theorem k_cons {nm : Option Str} {kp : Pos} {kws : List Keyword} (h1 : PE X x (tE Γ T a)) (h2 : PK X kws (tL Γ T es)) (hp : isPeek a = false) : PK X (⟨nm, x, kp⟩ :: kws) (tL Γ T (.cons a es)) :=
  (pk_cons h1 h2).wk fun σ H Q ⟨M, ρ, P, st, w, q⟩ => ⟨M, ρ, _, st, w, fun d v H1 w2 af r => ⟨M, ρ, _, st.aft af, w2, fun ds vs H2 hp2 af2 r2 l => by
    rw [hp] at r
    exact q (d :: ds) (v :: vs) H2 hp2 (af.trans af2) (.cons ((st.aft af).rp af2 r.1) r2) (congrArg Nat.succ l)⟩⟩
theorem kw_names {env : PySem.Env} {pos : Pos} : ∀ {kws : List Keyword}, (backToKw pos (keywordEach kws env)).map (·.1) = kwN kws
  | [] => rfl
  | ⟨nm, x, kp⟩ :: kws => by
    show nm :: (backToKw pos (keywordEach kws env)).map (·.1) = nm :: kwN kws
    rw [kw_names]
theorem kw_all {α : Type} {ks : List Str} {l : List (Option Str × α)} (h : l.map (·.1) = ks.map some) : l.all (·.1.isSome) = true ∧ l.any (·.1.isNone) = false ∧ l.filterMap (·.1) = ks := by
  induction l generalizing ks with
  | nil =>
    cases ks with
    | nil => exact ⟨rfl, rfl, rfl⟩
    | cons => cases h
  | cons a l ih =>
    cases ks with
    | nil => cases h
    | cons c ks =>
      obtain ⟨a1, a2⟩ := a
      simp only [List.map_cons, List.cons.injEq] at h
      obtain ⟨h1, h2⟩ := h
      subst h1
      obtain ⟨i1, i2, i3⟩ := ih h2
      exact ⟨by simpa using i1, by simpa using i2, by simpa using i3⟩
theorem s_callK (G : Gd Γ X k T lv) {j : Nat} {pm : List Nat} {kws : List Keyword} {ks : List Str} (hg : gloB k f = true) (hF : (j, f, false, elLen es) ∈ k.F) (hW : (j, ks, pm) ∈ k.W) (hn : kwN kws = ks.map some) (hlen : ks.length = elLen es) (h : PK X kws (tL Γ T es)) :
    PE X (.Call (.Name f p) [] kws pos) (tE Γ T (.callK j pm es)) := by
  obtain ⟨fa, fd, ps, hm, hk, hb, F, hps, hKW⟩ := G.fs _ _ _ _ hF
  obtain ⟨g1, g2⟩ := G.glo hg
  obtain ⟨kb, kl, ki⟩ := hKW ks pm hW
  have hnm : (backToKw pos (keywordEach kws X.env)).map (·.1) = ks.map some := kw_names.trans hn
  obtain ⟨a1, a2, a3⟩ := kw_all hnm
  refine ⟨fun pins s σ H Q I ⟨M, ρ, P, st, w, q⟩ => wpAny_Call_Name_kw (ld_glob I g1 hm ?_ g2)⟩
  refine PySem.W.callWith_KW0 (h₀ := X.base) I.ok.mod.kin hk a1 (thn (h.run pos pins s σ H (fun vs H1 => ∃ ds, T.f j (pm.map fun i => ds.getD i .none) P ∧ Aft Γ.sp H H1 ∧ RpL Γ.K M H1 ds vs ∧ ds.length = elLen es) I ⟨M, ρ, _, st, w, fun ds vs H1 hp af r l => ⟨ds, hp, af, r, l⟩⟩) fun ws s1 ⟨vs, H1, I1, rv, ds, hp, af, r, l⟩ => ⟨I1.kIn, ?_⟩) (by rw [a2]; rfl)
  have lv' : vs.length = ks.length := by rw [← r.length, l, hlen]
  have lw : ws.length = ks.length := by rw [← rv.length, lv']
  rw [a3]
  refine call_g (args := ⟨[], ks.zip ws⟩) F G.room G.grd passes0 I1 (kb s1 ws I1.kIn lw) (vals_pm rv (pm := pm) fun i hi => by rw [lv']; exact ki i hi) ?_
  exact use_sp G (st.aft af) (rpl_pm r fun i hi => by rw [lv']; exact ki i hi) (by rw [List.length_map, kl, hps]; rfl) hp fun d v H' hp2 af2 r2 => q d v H' hp2 (af.trans af2) r2
/-! ### built-ins -/
theorem one_a (h : PE X x (tE Γ T a)) (ns : isStar x = false) : PA X [x] (fun σ H Q => tE Γ T a σ H fun v H1 => Q [v] H1) := pa_cons h pa_nil (star_cons ns)
theorem two_a (h : PE X x (tE Γ T a)) (h2 : PE X y (tE Γ T b)) (ns : isStar x = false) (ns2 : isStar y = false) : PA X [x, y] (fun σ H Q => tE Γ T a σ H fun v H1 => tE Γ T b σ H1 fun u H2 => Q [v, u] H2) := pa_cons h (pa_cons h2 pa_nil (star_cons ns2)) (star_cons ns)
theorem r1_of (G : Gd Γ X k T lv) {o : B1} {M : Addr → Prop} {ρ : Env} {P : D → Prop} {σ : L2.St} {H H1 : Hp} {Q : VK} {d : D} {v : V} (st : StOk Γ M H σ ρ) (af : Aft Γ.sp H H1) (hp : b1W o d P) (r : Rw Γ.K M H1 d v) (q : ∀ d v H', P d → Aft Γ.sp H H' → Rv Γ false M H' d v → Q v H') : r1 X.K (b1W o) [v] H1 Q :=
  ⟨M, d, v, P, rfl, st.mokA af, by rw [← G.gk]; exact r, hp, fun d' v' H' hp2 g r2 => q d' v' H' hp2 (af.grow g) (rv0 (by rw [G.gk]; exact r2))⟩
theorem bt_of (G : Gd Γ X k T lv) {y : Str} (h : y ∈ blts) : X.mg y = none := G.bt y h
theorem s_b1 (G : Gd Γ X k T lv) {o : B1} (hn : o ≠ .list) (hf : bltB k f (b1N o) = true) (h : PE X x (tE Γ T a)) (ns : isStar x = false) : PE X (.Call (.Name f p) [x] [] pos) (tE Γ T (.b1 o a)) := by
  obtain ⟨rfl, g⟩ := G.blt hf
  have pa := one_a h ns
  have hb : X.mg (b1N o) = none := G.bt _ (by cases o <;> simp [blts, b1N])
  have fin : ∀ {r : List V → Hp → VK → Prop}, (∀ xs H Q, r1 X.K (b1W o) xs H Q → r xs H Q) → ∀ σ H Q, tE Γ T (.b1 o a) σ H Q → tCB r (fun σ H Q => tE Γ T a σ H fun v H1 => Q [v] H1) σ H Q := fun {r} hr σ H Q ⟨M, ρ, P, st, w, q⟩ => ⟨M, ρ, _, st, w, fun d v H1 hp af rv => hr _ _ _ (r1_of G st af hp rv.w q)⟩
  cases o with
  | list => exact absurd rfl hn
  | len => exact (pe_callB c_len g hb PySem.boot_len pa (by decide) (by decide) (star_cons ns) rfl).wk (fin fun _ _ _ z => z)
  | tuple => exact (pe_callTy c_tuple g hb PyProof.Rows.boot_tuple pa (by decide) (by decide) (star_cons ns) rfl).wk (fin fun _ _ _ z => z)
  | all => exact (pe_callB (c_all G.calm) g hb boot_all pa (by decide) (by decide) (star_cons ns) rfl).wk (fin fun _ _ _ z => z)
  | any => exact (pe_callB (c_any G.calm) g hb boot_any pa (by decide) (by decide) (star_cons ns) rfl).wk (fin fun _ _ _ z => z)
  | sum => exact (pe_callB (c_sum G.calm) g hb boot_sum pa (by decide) (by decide) (star_cons ns) rfl).wk (fin fun _ _ _ z => z)
  | int => exact (pe_callTy c_int g hb PyProof.Rows.boot_int pa (by decide) (by decide) (star_cons ns) rfl).wk (fin fun _ _ _ z => z)
  | abs => exact (pe_callB c_abs g hb boot_abs pa (by decide) (by decide) (star_cons ns) rfl).wk (fin fun _ _ _ z => z)
  | repr => exact (pe_callB (c_repr G.grd (hu G)) g hb boot_repr pa (by decide) (by decide) (star_cons ns) rfl).wk (fin fun _ _ _ z => z)
  | str => exact (pe_callTy c_str g hb PyProof.Rows.boot_str pa (by decide) (by decide) (star_cons ns) rfl).wk (fin fun _ _ _ z => z)
  | dict => exact (pe_callTy (c_dict G.calm) g hb PyProof.Rows.boot_dict pa (by decide) (by decide) (star_cons ns) rfl).wk (fin fun _ _ _ z => z)
theorem f_list (G : Gd Γ X k T lv) (hf : bltB k f (b1N .list) = true) (h : PE X x (tE Γ T a)) (ns : isStar x = false) : PE X (.Call (.Name f p) [x] [] pos) (tF Γ T (.b1 .list a)) := by
  obtain ⟨rfl, g⟩ := G.blt hf
  have pa := one_a h ns
  have hb : X.mg (b1N .list) = none := G.bt _ (by simp [blts, b1N])
  refine (pe_callTy c_listF g hb PyProof.Rows.boot_list pa (by decide) (by decide) (star_cons ns) rfl).wk fun σ H Q ⟨M, ρ, P, st, w, q⟩ => ⟨M, ρ, _, st, w, fun d v H1 hp af rv => ?_⟩
  exact ⟨M, d, v, P, rfl, st.mokA af, by rw [← G.gk]; exact rv.w, hp, fun ds l vs H' hp2 gr np e z r => q ds l vs H' hp2 (af.grow gr) (af.back st.sph np) e z (by rw [G.gk]; exact r)⟩
theorem r12_of (G : Gd Γ X k T lv) {o : B2} {M : Addr → Prop} {ρ : Env} {P : D → Prop} {σ : L2.St} {H H1 : Hp} {Q : VK} {d e : D} {v u : V} (st : StOk Γ M H σ ρ) (af : Aft Γ.sp H H1) (hp : b2W o d e P) (r : Rw Γ.K M H1 d v) (r2 : Rw Γ.K M H1 e u) (q : ∀ d v H', P d → Aft Γ.sp H H' → Rv Γ false M H' d v → Q v H') : r12 X.K (b2W o) [v, u] H1 Q :=
  ⟨M, d, e, v, u, P, rfl, by rw [← G.gk]; exact r, by rw [← G.gk]; exact r2, hp, fun d' v' hp2 r2 => q d' v' H1 hp2 af (rv0 (by rw [G.gk]; exact r2))⟩
theorem pe_mb {id : String} {e : Expr} {es : List Expr} {t : TA} {r : List V → Hp → VK → Prop} (hc : CallR X (.builtin id) r) (g : Gl X f) (hm : X.mg f = some (.builtin id)) (ha : PA X (e :: es) t) (gd : (f == ("__debug__" : Str)) = false)
    (st1 : starEach (e :: es) X.env = (false, eval e X.env) :: starEach es X.env) (st2 : (backTo pos (starEach es X.env)).any (·.1) = false) : PE X (.Call (.Name f p) (e :: es) [] pos) (tCB r t) :=
  ⟨fun pins s σ H Q I h => wpAny_Call_Name_kw (ld_glob I g hm (PyProof.Rows.callWith_builtin1 (thn (ha.run pos pins s σ H _ I h) fun us s1 ⟨vs, H1, I1, r1, q1⟩ => hc pins s1 σ H1 vs us Q I1 r1 q1) st1 st2) gd)⟩
theorem s_b2 (G : Gd Γ X k T lv) {o : B2} (hf : gloB k f = true) (hfo : f = b2N o) (hm : mthB k o = true) (h : PE X x (tE Γ T a)) (h2 : PE X y (tE Γ T b)) (ns : isStar x = false) (ns2 : isStar y = false) : PE X (.Call (.Name f p) [x, y] [] pos) (tE Γ T (.b2 o a b)) := by
  subst hfo
  obtain ⟨g, gd⟩ := G.glo hf
  have pa := two_a h h2 ns ns2
  have fin : ∀ {r : List V → Hp → VK → Prop}, (∀ xs H Q, r12 X.K (b2W o) xs H Q → r xs H Q) → ∀ σ H Q, tE Γ T (.b2 o a b) σ H Q → tCB r (fun σ H Q => tE Γ T a σ H fun v H1 => tE Γ T b σ H1 fun u H2 => Q [v, u] H2) σ H Q := fun {r} hr σ H Q ⟨M, ρ, P, st, w, q⟩ =>
    ⟨M, ρ, _, st, w, fun d v H1 w2 af rv => ⟨M, ρ, _, st.aft af, w2, fun e u H2 hp af2 rv2 => hr _ _ _ (r12_of G st (af.trans af2) hp (rv.aft (st.aft af) af2).w rv2.w q)⟩⟩
  have an2 : (backTo pos (starEach [y] X.env)).any (·.1) = false := star_any (pos := pos) (env := X.env) (xs := [y]) fun z hz => by
    cases hz with
    | head => exact ns2
    | tail _ hz => cases hz
  cases o with
  | max => exact (pe_callB (c_max G.calm) g (G.bt _ (by simp [blts, b2N])) boot_max pa (by decide) (by decide) (star_cons ns) an2).wk (fin fun _ _ _ z => z)
  | min => exact (pe_callB (c_min G.calm) g (G.bt _ (by simp [blts, b2N])) boot_min pa (by decide) (by decide) (star_cons ns) an2).wk (fin fun _ _ _ z => z)
  | gcd => exact (pe_mb c_gcd g ((G.mt _ (List.contains_iff_mem.mp hm)).1 rfl) pa (by decide) (star_cons ns) an2).wk (fin fun _ _ _ z => z)
  | lcm => exact (pe_mb c_lcm g ((G.mt _ (List.contains_iff_mem.mp hm)).2 rfl) pa (by decide) (star_cons ns) an2).wk (fin fun _ _ _ z => z)
theorem boot_ty (t : Ty) : bootBuiltins (tyN t) = some (.type (tyT t)) := by
  cases t
  · exact PyProof.Rows.boot_tuple
  · exact PyProof.Rows.boot_int
  · exact PyProof.Rows.boot_bool
theorem s_isi (G : Gd Γ X k T lv) {t : Ty} {z : Str} {p2 : Pos} (hf : bltB k f "isinstance" = true) (hz : bltB k z (tyN t) = true) (h : PE X x (tE Γ T a)) (ns : isStar x = false) (np : isPeek a = false) : PE X (.Call (.Name f p) [x, .Name z p2] [] pos) (tE Γ T (.isi t a)) := by
  obtain ⟨rfl, g⟩ := G.blt hf
  obtain ⟨rfl, g2⟩ := G.blt hz
  have ht : PE X (.Name (tyN t) p2) (tC (.ty (tyT t))) := pe_bltn g2 (G.bt _ (by cases t <;> simp [blts, tyN])) (boot_ty t) rfl (by cases t <;> decide) (by cases t <;> decide)
  refine (pe_callB (c_isi t) g (G.bt _ (by simp [blts])) boot_isinstance (pa_cons h (pa_cons ht pa_nil rfl) (star_cons ns)) (by decide) (by decide) (star_cons ns) rfl).wk fun σ H Q ⟨M, ρ, P, st, w, q⟩ => ⟨M, ρ, _, st, w, fun d v H1 hp af rv => ?_⟩
  rw [np] at rv
  exact ⟨M, d, v, rfl, by rw [← G.gk]; exact rv.1, q _ _ H1 hp af (rv0 (.bl _))⟩
/-! ### dicts -/
theorem s_dic0 : PE X (.Dict [] [] pos) (tE Γ T .dic0) := pe_dnewK.wk fun σ H Q ⟨M, ρ, P, st, w, q⟩ l nl => q _ _ _ w (Aft.of st.sph (Grow.new nl)) (rv0 (.dic (es := []) upd_same rfl .nil))
mutual
theorem nd_mono {K : PySem.W.Frag} {M : Addr → Prop} {H H' : Hp} (hl : ∀ a vs, H a = some (.lst vs) → H' a = some (.lst vs)) (ht : ∀ a vs, SqD K H a vs → SqD K H' a vs) (hf : ∀ a vs, SqF K H a vs → SqF K H' a vs) : ∀ {d : D} {v : V}, Rp K M H d v → d.hasDict = false → Rp K M H' d v
  | _, _, .non, _ => .non
  | _, _, .bl b, _ => .bl b
  | _, _, .int i, _ => .int i
  | _, _, .str x, _ => .str x
  | _, _, .lst h m z r, n => .lst (hl _ _ h) m z (ndL_mono hl ht hf r (by simpa only [PyData.hasDict] using n))
  | _, _, .lsf h z r, n => .lsf (hf _ _ h) z (ndL_mono hl ht hf r (by simpa only [PyData.hasDict] using n))
  | _, _, .tup h z r, n => .tup (ht _ _ h) z (ndL_mono hl ht hf r (by simpa only [PyData.hasDict] using n))
  | _, _, .dic _ _ _, n => by simp [PyData.hasDict] at n
theorem ndL_mono {K : PySem.W.Frag} {M : Addr → Prop} {H H' : Hp} (hl : ∀ a vs, H a = some (.lst vs) → H' a = some (.lst vs)) (ht : ∀ a vs, SqD K H a vs → SqD K H' a vs) (hf : ∀ a vs, SqF K H a vs → SqF K H' a vs) : ∀ {ds : List D} {vs : List V}, RpL K M H ds vs → PyData.hasDictAll ds = false → RpL K M H' ds vs
  | _, _, .nil, _ => .nil
  | _, _, .cons h t, n => by
    simp only [PyData.hasDictAll, Bool.or_eq_false_iff] at n
    exact .cons (nd_mono hl ht hf h n.1) (ndL_mono hl ht hf t n.2)
end
theorem s_dic1 {y : Str} {j : Nat} {p2 : Pos} (h : PE X x (tE Γ T a)) (np : isPeek a = false) : PE X (.Dict [some (.Constant (.str y) j p2)] [x] pos) (tE Γ T (.dic1 y a)) := by
  refine (pe_disp (pps_cons pe_str h pps_nil) rfl rfl (by simp) (by simp)).wk fun σ H Q ⟨M, ρ, P, st, w, q⟩ l nl => ?_
  have gr : Grow H (upd H l (.dK [])) := Grow.new nl
  have af0 := Aft.of st.sph gr
  refine ⟨M, ρ, _, st.aft af0, w, fun d v H2 ⟨nd, hp⟩ af r => ?_⟩
  rw [np] at r
  have nsp : Γ.sp ≠ some l := fun z => by
    obtain ⟨a, b, c, e, _⟩ := st.sph l z
    rw [nl] at e
    cases e
  have e2 : H2 l = some (.dK []) := af.1 l _ upd_same nsp
  refine ⟨e2, [(.inr y, v)], rfl, by simp, q _ _ _ hp ⟨fun b o e n => ?_, fun b eb => ?_⟩ (rv0 (.dic (es := [(.inr y, d)]) (kvs := mergeK [] [(.inr y, v)]) upd_same rfl ?_))⟩
  · rw [upd_ne (ne_of_none e nl)]
    exact (af0.trans af).1 b o e n
  · obtain ⟨i, j, m, e, rest⟩ := (af0.trans af).2 b eb
    exact ⟨i, j, m, by rw [upd_ne (fun z => nsp (by rw [← z]; exact eb))]; exact e, rest⟩
  · refine .cons (nd_mono (fun b vs e => ?_) (fun b vs t => ?_) (fun b vs t => ?_) r.1 nd) .nil
    · rw [upd_ne (fun z => by rw [z, e2] at e; cases e)]
      exact e
    · rcases t with ⟨o, t, e⟩ | t
      · refine .inl ⟨o, ?_, e⟩
        rw [upd_ne]
        · exact t
        · intro z
          subst z
          rw [e2] at t
          cases t
      · exact .inr t
    · rcases t with ⟨o, t⟩ | t
      · refine .inl ⟨o, ?_⟩
        rw [upd_ne (fun z => by rw [z, e2] at t; cases t)]
        exact t
      · exact .inr t
end
/-! ### comprehensions -/
section
variable {Γ : Cn} {X : Cx} {k : Ck} {T : Tb} {lv : Nat} {pos p : Pos} {tg iter elt : Expr} {ifs : List Expr} {scope : Scope} {own : List Nat} {t : Tg} {s : Src} {c : EO} {b : E}
theorem fold_no (h : isSet iter = false) : ∀ x, foldedSetIterable iter X.env x = pure x := by
  cases iter <;> first | (intro _; rfl) | cases h
theorem ownP_eq {k : Ck} {own : List Nat} : (ownP k own).map (·.2) = own := by
  unfold ownP
  rw [List.map_map]
  exact List.map_id own
theorem f_comp (G : Gd Γ X k T lv) (hB : blkC k.N k.sc scope (ownP k own) = true) (hi : PI X tg iter (tSrc Γ T s)) (hw : weakS s = true → isTup tg = true) (hg : chkTg (blkCk k scope) t tg = true) (ht : ∀ {X' : Cx}, Gd Γ X' (blkCk k scope) T lv → PTs X' ifs (tCt Γ T c))
    (he : ∀ {X' : Cx}, Gd Γ X' (blkCk k scope) T lv → PE X' elt (tE Γ T b)) (hb : isPeek b = false) (hs : isSet iter = false) (h0 : (!k.spn || (no0 t && !own.contains 0)) = true) (ho : (tslots t).all (fun i => own.contains i) = true) :
    PE X (.ListComp elt [⟨tg, iter, ifs, 0⟩] scope pos) (tF Γ T (.comp own t s c b)) := by
  have ok : BlkOk X.N X.env.scope scope (ownP k own) := by
    rw [G.hN, G.hsc]
    exact blkOk_by hB
  have h0' : Γ.sp ≠ none → no0 t = true ∧ 0 ∉ own := fun z => by
    cases e : k.spn with
    | false => exact absurd (G.spf e) z
    | true =>
      rw [e] at h0
      simpa using h0
  refine (pe_lc G.calm G.nd hi ok (fun s H C cl fp => s_tg (G.blk ok.kind ok.uniq s H C cl fp) t tg hg (fun z => (h0' z).1) _ hw) (fun s H C cl fp => ht (G.blk ok.kind ok.uniq s H C cl fp)) (fun s H C cl fp => he (G.blk ok.kind ok.uniq s H C cl fp)) (fold_no hs)).wk fun σ H Q h => ?_
  rw [ownP_eq]
  exact comp_lc hb (fun i hi => by simpa using List.all_eq_true.mp ho i hi) (fun z => (h0' z).2) h
theorem chkS_weak {s : Src} {tg x : Expr} (h : chkS k s tg x = true) : weakS s = true → isTup tg = true := fun w => by
  cases s <;> first | (cases w; done) | (simp only [chkS] at h; exact (an h).1)
theorem f_comp2 {t1 : Tg} {s1 : Src} {c1 : EO} {tg1 iter1 : Expr} {ifs1 : List Expr} (G : Gd Γ X k T lv) (hB : blkC k.N k.sc scope (ownP k own) = true) (hi : PI X tg iter (tSrc Γ T s)) (hw : weakS s = true → isTup tg = true) (hg : chkTg (blkCk k scope) t tg = true)
    (ht : ∀ {X' : Cx}, Gd Γ X' (blkCk k scope) T lv → PTs X' ifs (tCt Γ T c)) (hi1 : ∀ {X' : Cx}, Gd Γ X' (blkCk k scope) T lv → PI X' tg1 iter1 (tSrc Γ T s1)) (hw1 : weakS s1 = true → isTup tg1 = true) (hg1 : chkTg (blkCk k scope) t1 tg1 = true) (ht1 : ∀ {X' : Cx}, Gd Γ X' (blkCk k scope) T lv → PTs X' ifs1 (tCt Γ T c1))
    (he : ∀ {X' : Cx}, Gd Γ X' (blkCk k scope) T lv → PE X' elt (tE Γ T b)) (hb : isPeek b = false) (hs : isSet iter = false) (hs1 : isSet iter1 = false) (h0 : (!k.spn || (no0 t && (no0 t1 && !own.contains 0))) = true) (ho : (tslots t).all (fun i => own.contains i) = true) (ho1 : (tslots t1).all (fun i => own.contains i) = true) :
    PE X (.ListComp elt [⟨tg, iter, ifs, 0⟩, ⟨tg1, iter1, ifs1, 0⟩] scope pos) (tF Γ T (.comp2 own t s c t1 s1 c1 b)) := by
  have ok : BlkOk X.N X.env.scope scope (ownP k own) := by
    rw [G.hN, G.hsc]
    exact blkOk_by hB
  have h0' : Γ.sp ≠ none → no0 t = true ∧ no0 t1 = true ∧ 0 ∉ own := fun z => by
    cases e : k.spn with
    | false => exact absurd (G.spf e) z
    | true =>
      rw [e] at h0
      simpa using h0
  have o1 : ∀ i ∈ tslots t, i ∈ own := fun i hi => by simpa using List.all_eq_true.mp ho i hi
  have o2 : ∀ i ∈ tslots t1, i ∈ own := fun i hi => by simpa using List.all_eq_true.mp ho1 i hi
  have gb := fun (s : Shared) (H : Hp) (C : Addr) (cl : List (Str × Addr)) (fp : List Addr) => G.blk ok.kind ok.uniq s H C cl fp
  refine (pe_lc2 (vs1 := tslots t1) G.calm G.nd hi ok (by rw [ownP_eq]; exact o2) (fun s H C cl fp => s_tg (gb s H C cl fp) t tg hg (fun z => (h0' z).1) _ hw) (fun s H C cl fp => ht (gb s H C cl fp))
    (fun s H C cl fp => hi1 (gb s H C cl fp)) (fun s H C cl fp => s_tg (gb s H C cl fp) t1 tg1 hg1 (fun z => (h0' z).2.1) _ hw1) (fun s H C cl fp => ht1 (gb s H C cl fp)) (fun s H C cl fp => he (gb s H C cl fp)) (fold_no hs) (fun env x => by cases iter1 <;> first | rfl | cases hs1)).wk fun σ H Q h => ?_
  rw [ownP_eq]
  exact comp_lc2 hb o1 o2 (fun z => (h0' z).2.2) h
/-! ### methods -/
theorem base_of {x : Expr} {m : Str} (h : plainB x = true) : attributeBase x m X.env (eval x X.env) = eval x X.env := by
  cases x <;> first | rfl | cases h
theorem s_m1 {x y : Expr} {a b : E} {ap cp : Pos} (G : Gd Γ X k T lv) (o : MO) (h1 : PE X x (tE Γ T a)) (h2 : PE X y (tE Γ T b)) (pa : isPeek a = false) (pb : isPeek b = false) (hl : (ap.endLine == cp.line) = true) (hx : plainB x = true) (ns : isStar y = false) :
    PE X (.Call (.Attribute x (moN o) ap) [y] [] cp) (tE Γ T (.m1 o a b)) := by
  have e1 : backTo cp (starEach [y] X.env) = [(false, eval y X.env)] := by
    rw [star_cons ns]
    rfl
  have hf : ((backTo cp (starEach [y] X.env)).all (fun x => !x.1) && (backToKw cp (keywordEach [] X.env)).all (fun x => x.1.isSome) && decide (([y] : List Expr).length + ([] : List Keyword).length + (if ([] : List Keyword).isEmpty then 0 else 1) < 30)) = true := by
    rw [e1]
    rfl
  have PAy := pa_cons h2 pa_nil (star_cons ns)
  cases o with
  | tcount =>
    refine (pe_bmT PySem.F.slot_tuple_count PySem.F.type_tuple_count (mt_tcount (hu G)) h1 PAy (base_of hx) hf hl (star_cons ns) rfl).wk fun σ H Q ⟨M, ρ, P, st, w, q⟩ => ⟨M, ρ, _, st, w, fun d v H1 ⟨⟨ds, ed⟩, w2⟩ af r => ?_⟩
    subst ed
    obtain ⟨l, vs, rfl, g1, g2, g3⟩ := r.w.tuple
    refine ⟨⟨l, vs, rfl, by rw [← G.gk]; exact g1⟩, M, ρ, _, st.aft af, w2, fun e u H2 ⟨s1, s2, hp⟩ af2 r2 => ⟨l, u, e, ds, rfl, rfl, ?_, ?_, s1, s2, q _ _ H2 hp (af.trans af2) (rv0 (.int _))⟩⟩
    · rw [← G.gk]
      exact (r.aft (st.aft af) af2).w.dp (shaped_noDict s1)
    · rw [← G.gk]
      exact r2.w.dp (shaped_noDict s2)
  | tindex =>
    refine (pe_bmT PySem.F.slot_tuple_index PySem.F.type_tuple_index (mt_tindex (hu G)) h1 PAy (base_of hx) hf hl (star_cons ns) rfl).wk fun σ H Q ⟨M, ρ, P, st, w, q⟩ => ⟨M, ρ, _, st, w, fun d v H1 ⟨⟨ds, ed⟩, w2⟩ af r => ?_⟩
    subst ed
    obtain ⟨l, vs, rfl, g1, g2, g3⟩ := r.w.tuple
    refine ⟨⟨l, vs, rfl, by rw [← G.gk]; exact g1⟩, M, ρ, _, st.aft af, w2, fun e u H2 ⟨s1, s2, j, z, z1, z2, z3, hp⟩ af2 r2 => ⟨l, u, e, ds, j, z, rfl, rfl, ?_, ?_, s1, s2, z1, z2, z3, q _ _ H2 hp (af.trans af2) (rv0 (.int _))⟩⟩
    · rw [← G.gk]
      exact (r.aft (st.aft af) af2).w.dp (shaped_noDict s1)
    · rw [← G.gk]
      exact r2.w.dp (shaped_noDict s2)
  | lcount =>
    refine (pe_bm PySem.F.plainAttrs_list PySem.F.slot_list_count PySem.F.type_list_count (mt_lcount (hu G)) h1 PAy (base_of hx) hf hl (star_cons ns) rfl).wk fun σ H Q ⟨M, ρ, P, st, w, q⟩ => ⟨M, ρ, _, st, w, fun d v H1 ⟨⟨ds, ed⟩, w2⟩ af r => ?_⟩
    subst ed
    obtain ⟨l, vs, rfl, g1, g2, g3⟩ := r.w.list
    refine ⟨.inl ⟨rfl, vs, by rw [← G.gk]; exact g1.l⟩, M, ρ, _, st.aft af, w2, fun e u H2 ⟨s1, s2, hp⟩ af2 r2 => ⟨l, u, e, ds, rfl, rfl, ?_, ?_, s1, s2, q _ _ H2 hp (af.trans af2) (rv0 (.int _))⟩⟩
    · rw [← G.gk]
      exact (r.aft (st.aft af) af2).w.dp (shaped_noDict s1)
    · rw [← G.gk]
      exact r2.w.dp (shaped_noDict s2)
  | lindex =>
    refine (pe_bm PySem.F.plainAttrs_list PySem.F.slot_list_index PySem.F.type_list_index (mt_indexD (hu G)) h1 PAy (base_of hx) hf hl (star_cons ns) rfl).wk fun σ H Q ⟨M, ρ, P, st, w, q⟩ => ⟨M, ρ, _, st, w, fun d v H1 ⟨⟨ds, ed⟩, w2⟩ af r => ?_⟩
    subst ed
    obtain ⟨l, vs, rfl, g1, g2, g3⟩ := r.w.list
    refine ⟨.inl ⟨rfl, vs, by rw [← G.gk]; exact g1.l⟩, M, ρ, _, st.aft af, w2, fun e u H2 ⟨s1, s2, j, z, z1, z2, z3, hp⟩ af2 r2 => ⟨l, u, e, ds, j, z, rfl, rfl, ?_, ?_, s1, s2, z1, z2, z3, q _ _ H2 hp (af.trans af2) (rv0 (.int _))⟩⟩
    · rw [← G.gk]
      exact (r.aft (st.aft af) af2).w.dp (shaped_noDict s1)
    · rw [← G.gk]
      exact r2.w.dp (shaped_noDict s2)
theorem kD_inj {a b : Key} (h : kD a = kD b) : a = b := by
  cases a <;> cases b <;> cases h <;> rfl
theorem ents_inj : ∀ {es fs : List (Key × D)}, es.map (fun p => (kD p.1, p.2)) = fs.map (fun p => (kD p.1, p.2)) → es = fs
  | [], [], _ => rfl
  | [], _ :: _, h => by cases h
  | _ :: _, [], h => by cases h
  | (a, d) :: es, (b, e) :: fs, h => by
    simp only [List.map_cons, List.cons.injEq, Prod.mk.injEq] at h
    rw [kD_inj h.1.1, h.1.2, ents_inj h.2]
theorem rp_dict {K : PySem.W.Frag} {M : Addr → Prop} {H : Hp} {es : List (Key × D)} {v : V} (h : Rp K M H (.dict (es.map fun p => (kD p.1, p.2))) v) :
    ∃ (a : Addr) (kvs : List (Key × V)), v = .ref a ∧ H a = some (.dK kvs) ∧ es.map (·.1) = kvs.map (·.1) ∧ RpL K M H (es.map (·.2)) (kvs.map (·.2)) := by
  generalize ed : PyData.dict (es.map fun p => (kD p.1, p.2)) = d at h
  cases h with
  | dic h e r =>
    cases ents_inj (PyData.dict.inj ed)
    exact ⟨_, _, rfl, h, e, r⟩
  | _ => cases ed
theorem rp_val {K : PySem.W.Frag} {M : Addr → Prop} {H : Hp} {k : Key} : ∀ {es : List (Key × D)} {kvs : List (Key × V)}, es.map (·.1) = kvs.map (·.1) → RpL K M H (es.map (·.2)) (kvs.map (·.2)) → ∀ {d : D} {v : V}, Rp K M H d v → Rp K M H ((valD es k).getD d) ((valV kvs k).getD v)
  | [], [], _, _, _, _, h => h
  | [], _ :: _, e, _, _, _, _ => by cases e
  | _ :: _, [], e, _, _, _, _ => by cases e
  | (a, d) :: es, (b, v) :: kvs, e, r, d0, v0, h => by
    simp only [List.map_cons, List.cons.injEq] at e
    obtain ⟨rfl, e2⟩ := e
    cases r with
    | cons r1 r2 =>
      have ih := rp_val (k := k) e2 r2 h
      unfold valD valV at ih ⊢
      simp only [List.find?_cons]
      by_cases z : a = k
      · rw [decide_eq_true z]
        exact r1
      · rw [decide_eq_false z]
        exact ih
theorem s_dget {x y z : Expr} {a q d : E} {ap cp : Pos} (G : Gd Γ X k T lv) (h1 : PE X x (tE Γ T a)) (h2 : PE X y (tE Γ T q)) (h3 : PE X z (tE Γ T d)) (pa : isPeek a = false) (pq : isPeek q = false) (pd : isPeek d = false) (hl : (ap.endLine == cp.line) = true) (hx : plainB x = true) (ns : isStar y = false) (ns2 : isStar z = false) :
    PE X (.Call (.Attribute x ("get" : Str) ap) [y, z] [] cp) (tE Γ T (.dget a q d)) := by
  have e1 : backTo cp (starEach [y, z] X.env) = [(false, eval y X.env), (false, eval z X.env)] := by
    rw [star_cons ns, star_cons ns2]
    rfl
  have hu1 : X.A.units + 1 < cLine := by
    have := hu G
    omega
  refine (pe_dget2 hu1 h1 h2 h3 ⟨base_of hx, by rw [e1]; rfl, hl, e1⟩).wk fun σ H Q ⟨M, ρ, P, st, w, qq⟩ => ⟨M, ρ, _, st, w, fun dd v H1 ⟨es, ed, w2⟩ af r => ?_⟩
  subst ed
  rw [pa] at r
  obtain ⟨l, kvs, rfl, g1, g2, g3⟩ := rp_dict r.1
  have nsp : Γ.sp ≠ some l := fun z => by
    obtain ⟨i, j, kk, e, _⟩ := (st.aft af).sph l z
    rw [g1] at e
    cases e
  refine ⟨l, rfl, .inl ⟨kvs, .inl g1⟩, M, ρ, _, st.aft af, w2, fun d2 v2 H2 w3 af2 r2 => ⟨M, ρ, _, st.aft (af.trans af2), w3, fun d3 v3 H3 ⟨kk, ek, hp⟩ af3 r3 => ?_⟩⟩
  subst ek
  rw [pq] at r2
  rw [pd] at r3
  have ev : v2 = kV kk := by
    have := r2.1
    cases kk <;> cases (show Rp _ _ _ _ _ from this) <;> rfl
  subst ev
  have g4 : H3 l = some (.dK kvs) := af3.1 l _ (af2.1 l _ g1 nsp) nsp
  exact ⟨_, DGet.k g4, qq _ _ H3 hp ((af.trans af2).trans af3) (rv0 (rp_val g2 ((st.aft af).rpL (af2.trans af3) g3) r3.1))⟩
end
end DH

/-! P15 -/
set_option Elab.async false
set_option linter.all false
set_option maxRecDepth 100000
set_option maxHeartbeats 4000000
namespace DH
open PySem PySem.Spec PyProof.Rows L2
/-! ### every expression of the core -/
def EOk (Γ : Cn) (X : Cx) (T : Tb) (c : E) (x : Expr) : Prop := PE X x (tE Γ T c) ∧ (isIf x = false → PT X x (tT Γ T c)) ∧ (isFresh c = true → PE X x (tF Γ T c))
section
variable {Γ : Cn} {X : Cx} {k : Ck} {T : Tb} {lv : Nat} {x : Expr} {c : E}
theorem ok_v (G : Gd Γ X k T lv) (h : PE X x (tE Γ T c)) (hp : plainT x = true) (hf : isFresh c = false) : EOk Γ X T c x := ⟨h, fun _ => t_val G h hp, fun z => by rw [hf] at z; cases z⟩
theorem ok_t (h : PE X x (tE Γ T c)) (ht : PT X x (tT Γ T c)) (hf : isFresh c = false) : EOk Γ X T c x := ⟨h, fun _ => ht, fun z => by rw [hf] at z; cases z⟩
theorem ok_f (G : Gd Γ X k T lv) (h : PE X x (tF Γ T c)) (hp : plainT x = true) (hk : isPeek c = false) : EOk Γ X T c x := ⟨h.fresh hk, fun _ => t_val G (h.fresh hk) hp, fun _ => h⟩
end
theorem all_if {xs : List Expr} {x : Expr} (h : ((x :: xs).all fun x => !isIf x) = true) : isIf x = false ∧ (xs.all fun x => !isIf x) = true := by
  simp only [List.all_cons] at h
  obtain ⟨h1, h2⟩ := an h
  exact ⟨nt h1, h2⟩
theorem chkK_len {k : Ck} : ∀ {es : EL} {xs : List Keyword}, chkK k es xs = true → xs.length = elLen es
  | .nil, [], _ => rfl
  | .nil, _ :: _, h => by simp [chkK] at h
  | .cons _ _, [], h => by simp [chkK] at h
  | .cons e es, ⟨_, x, _⟩ :: xs, h => by
    simp only [chkK] at h
    exact congrArg Nat.succ (chkK_len (an h).2)
theorem revSl_is {z : Expr} (h : isRevSl z = true) : ∃ kk p1 p2 p3, z = .Slice none none (some (.UnaryOp .USub (.Constant (.int 1) kk p1) p2)) p3 := by
  unfold isRevSl at h
  split at h
  · exact ⟨_, _, _, _, rfl⟩
  · cases h
theorem tup_is {z : Expr} (h : isTup z = true) : ∃ ts n p, z = .Tuple ts n p := by
  cases z <;> first | exact ⟨_, _, _, rfl⟩ | cases h
theorem comp2_parts {k : Ck} {own : List Nat} {t t1 : Tg} {s s1 : Src} {c c1 : EO} {b : E} {elt : Expr} {gens : List Comprehension} {scope : Scope} {pos : Pos} (h : chkE k (.comp2 own t s c t1 s1 c1 b) (.ListComp elt gens scope pos) = true) :
    ∃ tg iter ifs tg1 iter1 ifs1, gens = [⟨tg, iter, ifs, 0⟩, ⟨tg1, iter1, ifs1, 0⟩] ∧ blkC k.N k.sc scope (ownP k own) = true ∧ chkS k s tg iter = true ∧ chkTg (blkCk k scope) t tg = true ∧ chkC (blkCk k scope) c ifs = true ∧ chkS (blkCk k scope) s1 tg1 iter1 = true ∧ chkTg (blkCk k scope) t1 tg1 = true ∧ chkC (blkCk k scope) c1 ifs1 = true ∧ chkE (blkCk k scope) b elt = true ∧
      (!isPeek b) = true ∧ (!isSet iter) = true ∧ (!isSet iter1) = true ∧ (!k.spn || (no0 t && (no0 t1 && !own.contains 0))) = true ∧ (tslots t).all (fun i => own.contains i) = true ∧ (tslots t1).all (fun i => own.contains i) = true := by
  simp only [chkE] at h
  split at h
  · obtain ⟨a1, g⟩ := an h
    obtain ⟨a2, g2⟩ := an g
    clear h g
    obtain rfl := of_decide_eq_true a1
    obtain rfl := of_decide_eq_true a2
    obtain ⟨b1, h⟩ := an g2
    obtain ⟨b2, h⟩ := an h
    obtain ⟨b3, h⟩ := an h
    obtain ⟨b4, h⟩ := an h
    obtain ⟨b5, h⟩ := an h
    obtain ⟨b6, h⟩ := an h
    obtain ⟨b7, h⟩ := an h
    obtain ⟨b8, h⟩ := an h
    obtain ⟨b9, h⟩ := an h
    obtain ⟨b10, h⟩ := an h
    obtain ⟨b11, h⟩ := an h
    obtain ⟨b12, h⟩ := an h
    obtain ⟨b13, b14⟩ := an h
    exact ⟨_, _, _, _, _, _, rfl, b1, b2, b3, b4, b5, b6, b7, b8, b9, b10, b11, b12, b13, b14⟩
  · cases h
set_option hygiene false in
local macro_rules | `(tactic| subst_eqs) => `(tactic| (exfalso; first | (simp [chkE] at h; done) | (simp [chkL] at h; done) | (simp [chkK] at h; done) | (simp [chkS] at h; done) | (simp [chkO] at h; done) | (simp [chkC] at h; done)))
mutual
theorem s_E : (c : E) → ∀ {Γ : Cn} {X : Cx} {k : Ck} {T : Tb} {lv : Nat}, Gd Γ X k T lv → ∀ x, chkE k c x = true → EOk Γ X T c x
  | .var i, Γ, X, k, T, lv, G, x, h => by
    cases x with
    | Name y p => exact ok_v G (s_var G (by simpa only [chkE] using h)) rfl rfl
    | _ => subst_eqs
  | .peek i, Γ, X, k, T, lv, G, x, h => by
    cases x with
    | Name y p => exact ok_v G (s_peek G (by simpa only [chkE] using h)) rfl rfl
    | _ => subst_eqs
  | .glob j, Γ, X, k, T, lv, G, x, h => by
    cases x with
    | Name y p => exact ok_v G (s_glob G (by simpa only [chkE] using h)) rfl rfl
    | _ => subst_eqs
  | .non, Γ, X, k, T, lv, G, x, h => by
    cases x with
    | Constant v j p => cases v with
      | none => exact ok_v G (s_const (d := .none) pe_non (fun _ _ => rfl) (fun _ _ => .non) rfl) rfl rfl
      | _ => subst_eqs
    | _ => subst_eqs
  | .bl b, Γ, X, k, T, lv, G, x, h => by
    cases x with
    | Constant v j p => cases v with
      | bool b' =>
        simp only [chkE] at h
        obtain rfl := eq_of_beq h
        exact ok_v G (s_const (d := .bool b) pe_bl (fun _ _ => rfl) (fun _ _ => .bl _) rfl) rfl rfl
      | _ => subst_eqs
    | _ => subst_eqs
  | .int i, Γ, X, k, T, lv, G, x, h => by
    cases x with
    | Constant v j p => cases v with
      | int i' =>
        simp only [chkE] at h
        obtain rfl := of_decide_eq_true h
        exact ok_v G (s_const (d := .int i) pe_int (fun _ _ => rfl) (fun _ _ => .int _) rfl) rfl rfl
      | _ => subst_eqs
    | _ => subst_eqs
  | .str y, Γ, X, k, T, lv, G, x, h => by
    cases x with
    | Constant v j p => cases v with
      | str y' =>
        simp only [chkE] at h
        obtain rfl := of_decide_eq_true h
        exact ok_v G (s_const (d := .str y) pe_str (fun _ _ => rfl) (fun _ _ => .str _) rfl) rfl rfl
      | _ => subst_eqs
    | _ => subst_eqs
  | .tup es, Γ, X, k, T, lv, G, x, h => by
    cases x with
    | Tuple xs n p =>
      simp only [chkE] at h
      obtain ⟨h1, h2⟩ := an h
      obtain ⟨h2, h3⟩ := an h2
      exact ok_v G (s_tup (s_L es G xs h1 h2) (by rw [← chkL_len h1]; exact of_decide_eq_true h3)) rfl rfl
    | _ => subst_eqs
  | .lst es, Γ, X, k, T, lv, G, x, h => by
    cases x with
    | List xs p =>
      simp only [chkE] at h
      obtain ⟨h1, h2⟩ := an h
      obtain ⟨h2, h3⟩ := an h2
      exact ok_f G (f_lst (s_L es G xs h1 h2) (by rw [← chkL_len h1]; exact of_decide_eq_true h3)) rfl rfl
    | _ => subst_eqs
  | .bin o a b, Γ, X, k, T, lv, G, x, h => by
    cases x with
    | BinOp y op z p =>
      simp only [chkE] at h
      obtain ⟨h1, h2⟩ := an h
      obtain ⟨h2, h3⟩ := an h2
      have hv : PE X (.BinOp y op z p) (tE Γ T (.bin o a b)) := s_bin G h1 (s_E a G y h2).1 (s_E b G z h3).1
      refine ⟨hv, fun _ => t_val G hv rfl, fun hf => ?_⟩
      cases o with
      | mul =>
        cases a with
        | lst es => exact f_mul G h1 (s_E (.lst es) G y h2).1 (s_E b G z h3).1
        | _ => cases hf
      | _ => cases hf
    | _ => subst_eqs
  | .neg a, Γ, X, k, T, lv, G, x, h => by
    cases x with
    | UnaryOp op y p => cases op with
      | USub =>
        simp only [chkE] at h
        exact ok_v G (s_neg G (s_E a G y h).1) rfl rfl
      | _ => subst_eqs
    | _ => subst_eqs
  | .not a, Γ, X, k, T, lv, G, x, h => by
    cases x with
    | UnaryOp op y p => cases op with
      | Not =>
        simp only [chkE] at h
        obtain ⟨h1, h2⟩ := an h
        exact ok_t (s_not G (s_E a G y h1).1) (t_not ((s_E a G y h1).2.1 (nt h2))) rfl
      | _ => subst_eqs
    | _ => subst_eqs
  | .and es, Γ, X, k, T, lv, G, x, h => by
    cases x with
    | BoolOp op xs p => cases op with
      | And =>
        simp only [chkE] at h
        obtain ⟨h1, h2⟩ := an h
        obtain ⟨r1, r2⟩ := s_And es G xs p h1 h2
        exact ok_t r1 r2.pt rfl
      | _ => subst_eqs
    | _ => subst_eqs
  | .or es, Γ, X, k, T, lv, G, x, h => by
    cases x with
    | BoolOp op xs p => cases op with
      | Or =>
        simp only [chkE] at h
        obtain ⟨h1, h2⟩ := an h
        obtain ⟨r1, r2⟩ := s_Or es G xs p h1 h2
        exact ok_t r1 r2.pt rfl
      | _ => subst_eqs
    | _ => subst_eqs
  | .ite c a b, Γ, X, k, T, lv, G, x, h => by
    cases x with
    | IfExp t y z p =>
      simp only [chkE] at h
      obtain ⟨h1, h⟩ := an h
      obtain ⟨h2, h⟩ := an h
      obtain ⟨h3, h⟩ := an h
      obtain ⟨h4, h⟩ := an h
      obtain ⟨h5, h6⟩ := an h
      exact ⟨s_ite ((s_E c G t h1).2.1 (nt h2)) (s_E a G y h3).1 (s_E b G z h5).1 (nt h4) (nt h6), ⟨fun w => (by cases w), fun w => (by cases w)⟩⟩
    | _ => subst_eqs
  | .cmp o a b, Γ, X, k, T, lv, G, x, h => by
    cases x with
    | Compare y ops zs p =>
      match ops, zs, h with
      | [op], [z], h =>
        simp only [chkE] at h
        obtain ⟨h1, h⟩ := an h
        obtain ⟨h2, h⟩ := an h
        obtain ⟨h3, h⟩ := an h
        obtain ⟨h4, h5⟩ := an h
        exact ok_t (s_cmp G h1 (s_E a G y h2).1 (s_E b G z h3).1 (nt h4)) (t_cmp G h1 (s_E a G y h2).1 (s_E b G z h3).1 (nt h4)) rfl
      | [], _, h => subst_eqs
      | [_], [], h => subst_eqs
      | [_], _ :: _ :: _, h => subst_eqs
      | _ :: _ :: _, _, h => subst_eqs
    | _ => subst_eqs
  | .isN n a, Γ, X, k, T, lv, G, x, h => by
    cases x with
    | Compare y ops zs p =>
      have key : ∃ j p', zs = [.Constant .none j p'] ∧ ops = [bif n then .IsNot else .Is] ∧ chkE k a y = true := by
        simp only [chkE] at h
        split at h
        · obtain ⟨h1, h2⟩ := an h
          exact ⟨_, _, rfl, by rw [nt h2]; rfl, h1⟩
        · obtain ⟨h1, h2⟩ := an h
          exact ⟨_, _, rfl, by rw [h2]; rfl, h1⟩
        · cases h
      obtain ⟨j, p', rfl, rfl, h1⟩ := key
      exact ok_t (s_isN n (s_E a G y h1).1) (t_isN n (s_E a G y h1).1) rfl
    | _ => subst_eqs
  | .chain o q a b c, Γ, X, k, T, lv, G, x, h => by
    cases x with
    | Compare y ops zs p =>
      have key : ∃ op op' z z', zs = [z, z'] ∧ ops = [op, op'] ∧ (chkCO o op && (chkCO q op' && (chkCC o && (chkCC q && (chkE k a y && (chkE k b z && chkE k c z')))))) = true := by
        simp only [chkE] at h
        split at h
        · exact ⟨_, _, _, _, rfl, rfl, h⟩
        · cases h
      obtain ⟨op, op', z, z', rfl, rfl, h⟩ := key
      obtain ⟨h1, h⟩ := an h
      obtain ⟨h2, h⟩ := an h
      obtain ⟨h3, h⟩ := an h
      obtain ⟨h4, h⟩ := an h
      obtain ⟨h5, h⟩ := an h
      obtain ⟨h6, h7⟩ := an h
      exact ok_t (s_chain G h1 h2 h4 (s_E a G y h5).1 (s_E b G z h6).1 (s_E c G z' h7).1) (t_chain G h1 h2 h4 (s_E a G y h5).1 (s_E b G z h6).1 (s_E c G z' h7).1) rfl
    | _ => subst_eqs
  | .ix a b, Γ, X, k, T, lv, G, x, h => by
    cases x with
    | Subscript y z p =>
      have h : (chkE k a y && (chkE k b z && !isSlc z)) = true := by simpa only [chkE] using h
      obtain ⟨h1, h⟩ := an h
      obtain ⟨h2, h3⟩ := an h
      exact ok_v G (s_ix G (s_E a G y h1).1 (s_E b G z h2).1 (nt h3)) rfl rfl
    | _ => subst_eqs
  | .slc a lo hi, Γ, X, k, T, lv, G, x, h => by
    cases x with
    | Subscript y z p =>
      cases z with
      | Slice l u st p2 => cases st with
        | none =>
          simp only [chkE] at h
          obtain ⟨h1, h⟩ := an h
          obtain ⟨h2, h3⟩ := an h
          exact ok_v G (s_slc G (s_E a G y h1).1 (s_O lo G l h2) (s_O hi G u h3)) rfl rfl
        | some => subst_eqs
      | _ => subst_eqs
    | _ => subst_eqs
  | .rev a, Γ, X, k, T, lv, G, x, h => by
    cases x with
    | Subscript y z p =>
      simp only [chkE] at h
      obtain ⟨h1, h2⟩ := an h
      obtain ⟨kk, p1, p2, p3, rfl⟩ := revSl_is h2
      exact ok_v G (s_rev G (s_E a G y h1).1) rfl rfl
    | _ => subst_eqs
  | .call j es, Γ, X, k, T, lv, G, x, h => by
    cases x with
    | Call fn xs kws p => cases fn with
      | Name f pf => cases kws with
        | nil =>
          simp only [chkE] at h
          obtain ⟨h1, h⟩ := an h
          obtain ⟨h2, h⟩ := an h
          obtain ⟨h3, h4⟩ := an h
          exact ok_v G (s_call G h1 (List.contains_iff_mem.mp h2) (chkL_len h3) (chkL_star h3) (s_L es G xs h3 h4)) rfl rfl
        | cons => subst_eqs
      | _ => subst_eqs
    | _ => subst_eqs
  | .callS j es, Γ, X, k, T, lv, G, x, h => by
    cases x with
    | Call fn xs kws p => cases fn with
      | Name f pf => cases kws with
        | nil => cases xs with
          | cons y xs => cases y with
            | Name y py =>
              simp only [chkE] at h
              obtain ⟨h1, h⟩ := an h
              obtain ⟨h2, h⟩ := an h
              obtain ⟨h3, h⟩ := an h
              obtain ⟨h4, h⟩ := an h
              obtain ⟨h5, h6⟩ := an h
              exact ok_v G (s_callS G h1 (List.contains_iff_mem.mp h2) h3 h4 (chkL_star h5) (s_L es G xs h5 h6)) rfl rfl
            | _ => subst_eqs
          | nil => subst_eqs
        | cons => subst_eqs
      | _ => subst_eqs
    | _ => subst_eqs
  | .callK j pm es, Γ, X, k, T, lv, G, x, h => by
    cases x with
    | Call fn xs kws p => cases fn with
      | Name f pf => cases xs with
        | nil =>
          simp only [chkE] at h
          obtain ⟨h1, h⟩ := an h
          obtain ⟨h2, h⟩ := an h
          obtain ⟨h3, h⟩ := an h
          obtain ⟨h4, h5⟩ := an h
          obtain ⟨q, hq, hh⟩ := List.any_eq_true.mp h5
          obtain ⟨a1, hh⟩ := an hh
          obtain ⟨a2, a3⟩ := an hh
          obtain ⟨q1, q2, q3⟩ := q
          have b1 : q1 = j := of_decide_eq_true a1
          have b2 : q3 = pm := of_decide_eq_true a2
          have b3 : kwN kws = q2.map some := of_decide_eq_true a3
          subst b1 b2
          exact ok_v G (s_callK G h1 (List.contains_iff_mem.mp h2) hq b3 (by rw [← chkK_len h3, ← List.length_map (f := some), ← b3]; unfold kwN; rw [List.length_map]) (s_K es G kws h3 h4)) rfl rfl
        | cons => subst_eqs
      | _ => subst_eqs
    | _ => subst_eqs
  | .b1 o a, Γ, X, k, T, lv, G, x, h => by
    cases x with
    | Call fn xs kws p => cases fn with
      | Name f pf => cases kws with
        | nil =>
          have key : ∃ y, xs = [y] ∧ (bltB k f (b1N o) && chkE k a y) = true := by
            simp only [chkE] at h
            split at h
            · exact ⟨_, rfl, h⟩
            · cases h
          obtain ⟨y, rfl, h⟩ := key
          obtain ⟨h1, h2⟩ := an h
          by_cases e : o = .list
          · subst e
            exact ok_f G (f_list G h1 (s_E a G y h2).1 (chkE_star h2)) rfl rfl
          · exact ok_v G (s_b1 G e h1 (s_E a G y h2).1 (chkE_star h2)) rfl (by cases o <;> first | rfl | exact absurd rfl e)
        | cons => subst_eqs
      | _ => subst_eqs
    | _ => subst_eqs
  | .b2 o a b, Γ, X, k, T, lv, G, x, h => by
    cases x with
    | Call fn xs kws p => cases fn with
      | Name f pf => cases kws with
        | nil =>
          have key : ∃ y z, xs = [y, z] ∧ (bltB k f (b2N o) && (mthB k o && (chkE k a y && (chkE k b z && (!isPeek a && !isPeek b))))) = true := by
            simp only [chkE] at h
            split at h
            · exact ⟨_, _, rfl, h⟩
            · cases h
          obtain ⟨y, z, rfl, h⟩ := key
          obtain ⟨h1, h⟩ := an h
          obtain ⟨h2, h⟩ := an h
          obtain ⟨h3, h⟩ := an h
          obtain ⟨h4, h5⟩ := an h
          obtain ⟨g1, g2⟩ := an h1
          exact ok_v G (s_b2 G g1 (of_decide_eq_true g2) h2 (s_E a G y h3).1 (s_E b G z h4).1 (chkE_star h3) (chkE_star h4)) rfl rfl
        | cons => subst_eqs
      | _ => subst_eqs
    | _ => subst_eqs
  | .isi t a, Γ, X, k, T, lv, G, x, h => by
    cases x with
    | Call fn xs kws p => cases fn with
      | Name f pf => cases kws with
        | nil =>
          have key : ∃ y z pz, xs = [y, .Name z pz] ∧ (bltB k f "isinstance" && (bltB k z (tyN t) && (chkE k a y && !isPeek a))) = true := by
            simp only [chkE] at h
            split at h
            · exact ⟨_, _, _, rfl, h⟩
            · cases h
          obtain ⟨y, z, pz, rfl, h⟩ := key
          obtain ⟨h1, h⟩ := an h
          obtain ⟨h2, h⟩ := an h
          obtain ⟨h3, h4⟩ := an h
          exact ok_v G (s_isi G h1 h2 (s_E a G y h3).1 (chkE_star h3) (nt h4)) rfl rfl
        | cons => subst_eqs
      | _ => subst_eqs
    | _ => subst_eqs
  | .comp own t s c b, Γ, X, k, T, lv, G, x, h => by
    cases x with
    | ListComp elt gens scope p =>
      have key : ∃ tg iter ifs, gens = [⟨tg, iter, ifs, 0⟩] ∧ (blkC k.N k.sc scope (ownP k own) && (chkS k s tg iter && (chkTg (blkCk k scope) t tg && (chkC (blkCk k scope) c ifs && (chkE (blkCk k scope) b elt && (!isPeek b && (!isSet iter && ((!k.spn || (no0 t && !own.contains 0)) && (tslots t).all fun i => own.contains i)))))))) = true := by
        simp only [chkE] at h
        split at h
        · rename_i tg iter ifs a
          obtain ⟨h0, h⟩ := an h
          obtain rfl := of_decide_eq_true h0
          exact ⟨tg, iter, ifs, rfl, h⟩
        · cases h
      obtain ⟨tg, iter, ifs, rfl, h⟩ := key
      obtain ⟨h1, h⟩ := an h
      obtain ⟨h2, h⟩ := an h
      obtain ⟨h3, h⟩ := an h
      obtain ⟨h4, h⟩ := an h
      obtain ⟨h5, h⟩ := an h
      obtain ⟨h6, h⟩ := an h
      obtain ⟨h7, h⟩ := an h
      obtain ⟨h8, h9⟩ := an h
      exact ok_f G (f_comp G h1 (s_S s G tg iter h2) (chkS_weak h2) h3 (fun G' => s_C c G' ifs h4) (fun G' => (s_E b G' elt h5).1) (nt h6) (nt h7) h8 h9) rfl rfl
    | _ => subst_eqs
  | .comp2 own t s c t1 s1 c1 b, Γ, X, k, T, lv, G, x, h => by
    cases x with
    | ListComp elt gens scope p =>
      obtain ⟨tg, iter, ifs, tg1, iter1, ifs1, rfl, h1, h2, h3, h4, h5, h6, h7, h8, h9, h10, h11, h12, h13, h14⟩ := comp2_parts h
      exact ok_f G (f_comp2 G h1 (s_S s G tg iter h2) (chkS_weak h2) h3 (fun G' => s_C c G' ifs h4) (fun G' => s_S s1 G' tg1 iter1 h5) (chkS_weak h5) h6 (fun G' => s_C c1 G' ifs1 h7) (fun G' => (s_E b G' elt h8).1) (nt h9) (nt h10) (nt h11) h12 h13 h14) rfl rfl
    | _ => subst_eqs
  | .m1 o a b, Γ, X, k, T, lv, G, x, h => by
    have key : ∃ y m ap z cp, x = .Call (.Attribute y m ap) [z] [] cp ∧ (decide (m = moN o) && (chkE k a y && (chkE k b z && (!isPeek b && ((ap.endLine == cp.line) && (!isPeek a && plainB y)))))) = true := by
      cases x with
      | Call fn xs kws cp => cases fn with
        | Attribute y m ap => cases kws with
          | nil =>
            simp only [chkE] at h
            split at h
            · exact ⟨_, _, _, _, _, rfl, h⟩
            · cases h
          | cons => subst_eqs
        | _ => subst_eqs
      | _ => subst_eqs
    obtain ⟨y, m, ap, z, cp, rfl, h⟩ := key
    obtain ⟨h1, h⟩ := an h
    obtain ⟨h2, h⟩ := an h
    obtain ⟨h3, h⟩ := an h
    obtain ⟨h4, h⟩ := an h
    obtain ⟨h5, h⟩ := an h
    obtain ⟨h6, h7⟩ := an h
    obtain rfl := of_decide_eq_true h1
    exact ok_v G (s_m1 G o (s_E a G y h2).1 (s_E b G z h3).1 (nt h6) (nt h4) h5 h7 (chkE_star h3)) rfl rfl
  | .dget a q d, Γ, X, k, T, lv, G, x, h => by
    have key : ∃ y m ap z w cp, x = .Call (.Attribute y m ap) [z, w] [] cp ∧ (decide (m = ("get" : Str)) && (chkE k a y && (chkE k q z && (chkE k d w && (!isPeek a && (!isPeek q && (!isPeek d && ((ap.endLine == cp.line) && plainB y)))))))) = true := by
      cases x with
      | Call fn xs kws cp => cases fn with
        | Attribute y m ap => cases kws with
          | nil =>
            simp only [chkE] at h
            split at h
            · exact ⟨_, _, _, _, _, _, rfl, h⟩
            · cases h
          | cons => subst_eqs
        | _ => subst_eqs
      | _ => subst_eqs
    obtain ⟨y, m, ap, z, w, cp, rfl, h⟩ := key
    obtain ⟨h1, h⟩ := an h
    obtain ⟨h2, h⟩ := an h
    obtain ⟨h3, h⟩ := an h
    obtain ⟨h4, h⟩ := an h
    obtain ⟨h5, h⟩ := an h
    obtain ⟨h6, h⟩ := an h
    obtain ⟨h7, h⟩ := an h
    obtain ⟨h8, h9⟩ := an h
    obtain rfl := of_decide_eq_true h1
    exact ok_v G (s_dget G (s_E a G y h2).1 (s_E q G z h3).1 (s_E d G w h4).1 (nt h5) (nt h6) (nt h7) h8 h9 (chkE_star h3) (chkE_star h4)) rfl rfl
  | .spr c, Γ, X, k, T, lv, G, x, h => by
    have key : ∃ y p j j' p2 pos, x = .Subscript (.Name y p) (.Constant (.int j) j' p2) pos ∧ (k.spn && (visB k 0 y && (decide (j = (c : Int)) && decide (c < 3)))) = true := by
      unfold chkE at h
      split at h <;> first | (rename_i e1; cases e1; done) | skip
      all_goals first | (rename_i e1 e2; cases e1; cases e2; exact ⟨_, _, _, _, _, _, rfl, h⟩) | (cases h; done) | skip
    clear h
    obtain ⟨y, p, j, j', p2, pos, rfl, h⟩ := key
    obtain ⟨h1, h⟩ := an h
    obtain ⟨h2, h⟩ := an h
    obtain ⟨h3, h4⟩ := an h
    exact ok_v G (s_spr G h1 h2 (of_decide_eq_true h3) (of_decide_eq_true h4)) rfl rfl
  | .callP j g es, Γ, X, k, T, lv, G, x, h => by
    cases x with
    | Call fn xs kws p => cases fn with
      | Name f pf => cases kws with
        | nil =>
          have key : ∃ y py ys py2, xs = [.Call (.Name y py) ys [] py2] ∧ (gloB k f && (k.F.contains (j, f, true, 0) && (gloB k y && ((k.S.contains (g, y, elLen es)) && (chkL k es ys && noPeeks es))))) = true := by
            simp only [chkE] at h
            split at h
            · exact ⟨_, _, _, _, rfl, h⟩
            · cases h
          clear h
          obtain ⟨y, py, ys, py2, rfl, h⟩ := key
          obtain ⟨h1, h⟩ := an h
          obtain ⟨h2, h⟩ := an h
          obtain ⟨h3, h⟩ := an h
          obtain ⟨h4, h⟩ := an h
          obtain ⟨h5, h6⟩ := an h
          exact ok_v G (s_callP G h1 (List.contains_iff_mem.mp h2) h3 (List.contains_iff_mem.mp h4) (chkL_len h5) (chkL_star h5) (s_L es G ys h5 h6)) rfl rfl
        | cons => subst_eqs
      | _ => subst_eqs
    | _ => subst_eqs
  | .dic0, Γ, X, k, T, lv, G, x, h => by
    cases x with
    | Dict ks vs p => cases ks with
      | nil => cases vs with
        | nil => exact ok_v G s_dic0 rfl rfl
        | cons => subst_eqs
      | cons => subst_eqs
    | _ => subst_eqs
  | .dic1 y a, Γ, X, k, T, lv, G, x, h => by
    cases x with
    | Dict ks vs p =>
      have key : ∃ y' j p2 v, ks = [some (.Constant (.str y') j p2)] ∧ vs = [v] ∧ (decide (y = y') && (chkE k a v && !isPeek a)) = true := by
        simp only [chkE] at h
        split at h
        · exact ⟨_, _, _, _, rfl, rfl, h⟩
        · cases h
      obtain ⟨y', j, p2, v, rfl, rfl, h⟩ := key
      obtain ⟨h1, h⟩ := an h
      obtain ⟨h2, h3⟩ := an h
      obtain rfl := of_decide_eq_true h1
      exact ok_v G (s_dic1 (s_E a G v h2).1 (nt h3)) rfl rfl
    | _ => subst_eqs
theorem s_L : (es : EL) → ∀ {Γ : Cn} {X : Cx} {k : Ck} {T : Tb} {lv : Nat}, Gd Γ X k T lv → ∀ xs, chkL k es xs = true → noPeeks es = true → PA X xs (tL Γ T es)
  | .nil, Γ, X, k, T, lv, G, xs, h, n => by
    cases xs with
    | nil => exact l_nil
    | cons => subst_eqs
  | .cons e es, Γ, X, k, T, lv, G, xs, h, n => by
    cases xs with
    | nil => subst_eqs
    | cons x xs =>
      simp only [chkL] at h
      obtain ⟨h1, h2⟩ := an h
      simp only [noPeeks] at n
      obtain ⟨n1, n2⟩ := an n
      exact l_cons (s_E e G x h1).1 (s_L es G xs h2 n2) (chkE_star h1) (nt n1)
theorem s_K : (es : EL) → ∀ {Γ : Cn} {X : Cx} {k : Ck} {T : Tb} {lv : Nat}, Gd Γ X k T lv → ∀ xs, chkK k es xs = true → noPeeks es = true → PK X xs (tL Γ T es)
  | .nil, Γ, X, k, T, lv, G, xs, h, n => by
    cases xs with
    | nil => exact k_nil
    | cons => subst_eqs
  | .cons e es, Γ, X, k, T, lv, G, xs, h, n => by
    cases xs with
    | nil => subst_eqs
    | cons x xs =>
      obtain ⟨nm, x, kp⟩ := x
      simp only [chkK] at h
      obtain ⟨h1, h2⟩ := an h
      simp only [noPeeks] at n
      obtain ⟨n1, n2⟩ := an n
      exact k_cons (s_E e G x h1).1 (s_K es G xs h2 n2) (nt n1)
theorem s_And : (es : EL) → ∀ {Γ : Cn} {X : Cx} {k : Ck} {T : Tb} {lv : Nat}, Gd Γ X k T lv → ∀ xs pos, chkL k es xs = true → (xs.all fun x => !isIf x) = true → PE X (.BoolOp .And xs pos) (tE Γ T (.and es)) ∧ PW X (.BoolOp .And xs pos) (tT Γ T (.and es))
  | .nil, Γ, X, k, T, lv, G, xs, pos, h, n => ⟨⟨fun _ _ _ _ _ _ ⟨M, ρ, P, st, w, q⟩ => w.elim⟩, ⟨fun _ _ _ _ _ _ _ ⟨M, ρ, P, st, w, q⟩ => w.elim⟩⟩
  | .cons e .nil, Γ, X, k, T, lv, G, xs, pos, h, n => by
    match xs, h, n with
    | [], h, n => subst_eqs
    | [x], h, n =>
      simp only [chkL, Bool.and_true] at h
      obtain ⟨n1, _⟩ := all_if n
      exact ⟨s_and1 (s_E e G x h).1, w_and1 ((s_E e G x h).2.1 n1)⟩
    | _ :: _ :: _, h, n => subst_eqs
  | .cons e (.cons e2 es), Γ, X, k, T, lv, G, xs, pos, h, n => by
    match xs, h, n with
    | [], h, n => subst_eqs
    | [x], h, n => subst_eqs
    | x :: y :: xs, h, n =>
      rw [chkL] at h
      obtain ⟨h1, h2⟩ := an h
      obtain ⟨n1, n2⟩ := all_if n
      obtain ⟨r1, r2⟩ := s_And (.cons e2 es) G (y :: xs) pos h2 n2
      exact ⟨s_and (s_E e G x h1).1 r1, w_and ((s_E e G x h1).2.1 n1) r2⟩
theorem s_Or : (es : EL) → ∀ {Γ : Cn} {X : Cx} {k : Ck} {T : Tb} {lv : Nat}, Gd Γ X k T lv → ∀ xs pos, chkL k es xs = true → (xs.all fun x => !isIf x) = true → PE X (.BoolOp .Or xs pos) (tE Γ T (.or es)) ∧ PW X (.BoolOp .Or xs pos) (tT Γ T (.or es))
  | .nil, Γ, X, k, T, lv, G, xs, pos, h, n => ⟨⟨fun _ _ _ _ _ _ ⟨M, ρ, P, st, w, q⟩ => w.elim⟩, ⟨fun _ _ _ _ _ _ _ ⟨M, ρ, P, st, w, q⟩ => w.elim⟩⟩
  | .cons e .nil, Γ, X, k, T, lv, G, xs, pos, h, n => by
    match xs, h, n with
    | [], h, n => subst_eqs
    | [x], h, n =>
      simp only [chkL, Bool.and_true] at h
      obtain ⟨n1, _⟩ := all_if n
      exact ⟨s_or1 (s_E e G x h).1, w_or1 ((s_E e G x h).2.1 n1)⟩
    | _ :: _ :: _, h, n => subst_eqs
  | .cons e (.cons e2 es), Γ, X, k, T, lv, G, xs, pos, h, n => by
    match xs, h, n with
    | [], h, n => subst_eqs
    | [x], h, n => subst_eqs
    | x :: y :: xs, h, n =>
      rw [chkL] at h
      obtain ⟨h1, h2⟩ := an h
      obtain ⟨n1, n2⟩ := all_if n
      obtain ⟨r1, r2⟩ := s_Or (.cons e2 es) G (y :: xs) pos h2 n2
      exact ⟨s_or (s_E e G x h1).1 r1, w_or ((s_E e G x h1).2.1 n1) r2⟩
theorem s_O : (o : EO) → ∀ {Γ : Cn} {X : Cx} {k : Ck} {T : Tb} {lv : Nat}, Gd Γ X k T lv → ∀ x, chkO k o x = true → PO X x (tO Γ T o)
  | .no, Γ, X, k, T, lv, G, x, h => by
    cases x with
    | none => exact o_no
    | some => subst_eqs
  | .yes e, Γ, X, k, T, lv, G, x, h => by
    cases x with
    | none => subst_eqs
    | some x =>
      simp only [chkO] at h
      exact o_yes (s_E e G x h).1
theorem s_C : (o : EO) → ∀ {Γ : Cn} {X : Cx} {k : Ck} {T : Tb} {lv : Nat}, Gd Γ X k T lv → ∀ xs, chkC k o xs = true → PTs X xs (tCt Γ T o)
  | .no, Γ, X, k, T, lv, G, xs, h => by
    simp only [chkC] at h
    cases xs with
    | nil => exact ct_no
    | cons => cases h
  | .yes e, Γ, X, k, T, lv, G, xs, h => by
    have key : ∃ x, xs = [x] ∧ (chkE k e x && !isIf x) = true := by
      simp only [chkC] at h
      split at h
      · exact ⟨_, rfl, h⟩
      · cases h
    obtain ⟨x, rfl, h⟩ := key
    obtain ⟨h1, h2⟩ := an h
    exact ct_yes ((s_E e G x h1).2.1 (nt h2))
theorem s_S : (s : Src) → ∀ {Γ : Cn} {X : Cx} {k : Ck} {T : Tb} {lv : Nat}, Gd Γ X k T lv → ∀ tg x, chkS k s tg x = true → PI X tg x (tSrc Γ T s)
  | .seq e, Γ, X, k, T, lv, G, tg, x, h => by
    have h : (chkE k e x && !isPeek e) = true := by simpa only [chkS] using h
    obtain ⟨h1, h2⟩ := an h
    exact i_seq G (s_E e G x h1).1 (nt h2)
  | .rng a, Γ, X, k, T, lv, G, tg, x, h => by
    have key : ∃ f p y pos, x = .Call (.Name f p) [y] [] pos ∧ (bltB k f "range" && chkE k a y) = true := by
      simp only [chkS] at h
      split at h
      · exact ⟨_, _, _, _, rfl, h⟩
      · cases h
    obtain ⟨f, p, y, pos, rfl, h⟩ := key
    obtain ⟨h1, h2⟩ := an h
    exact i_rng G (s_E a G y h2).1 h1 (chkE_star h2)
  | .rng2 a b, Γ, X, k, T, lv, G, tg, x, h => by
    have key : ∃ f p y z pos, x = .Call (.Name f p) [y, z] [] pos ∧ (bltB k f "range" && (chkE k a y && chkE k b z)) = true := by
      simp only [chkS] at h
      split at h
      · exact ⟨_, _, _, _, _, rfl, h⟩
      · cases h
    obtain ⟨f, p, y, z, pos, rfl, h⟩ := key
    obtain ⟨h1, h⟩ := an h
    obtain ⟨h2, h3⟩ := an h
    exact i_rng2 G (s_E a G y h2).1 (s_E b G z h3).1 h1 (chkE_star h2) (chkE_star h3)
  | .z2 a b, Γ, X, k, T, lv, G, tg, x, h => by
    have key : ∃ ts n tp f p y z pos, tg = .Tuple ts n tp ∧ x = .Call (.Name f p) [y, z] [] pos ∧ (bltB k f "zip" && (chkE k a y && (!isPeek a && (chkE k b z && !isPeek b)))) = true := by
      simp only [chkS] at h
      obtain ⟨h0, h⟩ := an h
      obtain ⟨ts, n, tp, rfl⟩ := tup_is h0
      split at h
      · exact ⟨_, _, _, _, _, _, _, _, rfl, rfl, h⟩
      · cases h
    obtain ⟨ts, n, tp, f, p, y, z, pos, rfl, rfl, h⟩ := key
    obtain ⟨h1, h⟩ := an h
    obtain ⟨h2, h⟩ := an h
    obtain ⟨h3, h⟩ := an h
    obtain ⟨h4, h5⟩ := an h
    exact i_z2 G (s_E a G y h2).1 (s_E b G z h4).1 (nt h3) (nt h5) h1 (chkE_star h2) (chkE_star h4)
  | .z3 a b c, Γ, X, k, T, lv, G, tg, x, h => by
    have key : ∃ ts n tp f p y z w pos, tg = .Tuple ts n tp ∧ x = .Call (.Name f p) [y, z, w] [] pos ∧ (bltB k f "zip" && (chkE k a y && (!isPeek a && (chkE k b z && (!isPeek b && (chkE k c w && !isPeek c)))))) = true := by
      simp only [chkS] at h
      obtain ⟨h0, h⟩ := an h
      obtain ⟨ts, n, tp, rfl⟩ := tup_is h0
      split at h
      · exact ⟨_, _, _, _, _, _, _, _, _, rfl, rfl, h⟩
      · cases h
    obtain ⟨ts, n, tp, f, p, y, z, w, pos, rfl, rfl, h⟩ := key
    obtain ⟨h1, h⟩ := an h
    obtain ⟨h2, h⟩ := an h
    obtain ⟨h3, h⟩ := an h
    obtain ⟨h4, h⟩ := an h
    obtain ⟨h5, h⟩ := an h
    obtain ⟨h6, h7⟩ := an h
    exact i_z3 G (s_E a G y h2).1 (s_E b G z h4).1 (s_E c G w h6).1 (nt h3) (nt h5) (nt h7) h1 (chkE_star h2) (chkE_star h4) (chkE_star h6)
  | .enu a, Γ, X, k, T, lv, G, tg, x, h => by
    have key : ∃ ts n tp f p y pos, tg = .Tuple ts n tp ∧ x = .Call (.Name f p) [y] [] pos ∧ (bltB k f "enumerate" && (chkE k a y && !isPeek a)) = true := by
      simp only [chkS] at h
      obtain ⟨h0, h⟩ := an h
      obtain ⟨ts, n, tp, rfl⟩ := tup_is h0
      split at h
      · exact ⟨_, _, _, _, _, _, _, rfl, rfl, h⟩
      · cases h
    obtain ⟨ts, n, tp, f, p, y, pos, rfl, rfl, h⟩ := key
    obtain ⟨h1, h⟩ := an h
    obtain ⟨h2, h3⟩ := an h
    exact i_en G (s_E a G y h2).1 (nt h3) h1 (chkE_star h2)
  | .revR a, Γ, X, k, T, lv, G, tg, x, h => by
    have key : ∃ f p g p' y pos' pos, x = .Call (.Name f p) [.Call (.Name g p') [y] [] pos'] [] pos ∧ (bltB k f "reversed" && (bltB k g "range" && chkE k a y)) = true := by
      simp only [chkS] at h
      split at h
      · exact ⟨_, _, _, _, _, _, _, rfl, h⟩
      · cases h
    obtain ⟨f, p, g, p', y, pos', pos, rfl, h⟩ := key
    obtain ⟨h1, h⟩ := an h
    obtain ⟨h2, h3⟩ := an h
    exact i_rev G (s_E a G y h3).1 h1 h2 (chkE_star h3)
end
end DH

/-! P16 -/
set_option Elab.async false
set_option linter.all false
set_option maxRecDepth 100000
set_option maxHeartbeats 4000000
namespace DH
open PySem PySem.Spec PyProof.Rows L2
/-! ### the state behind a statement -/
section
variable {Γ : Cn} {M : Addr → Prop} {H H' : Hp} {σ : L2.St} {ρ : Env}
/-- a slot is forgotten -/
theorem StOk.clr (s : StOk Γ M H σ ρ) (i : Nat) : StOk Γ M H σ (ρ.set i none) := by
  have at' : ∀ {j : Nat} {x : Sl}, (ρ.set i none)[j]? = some (some x) → i ≠ j ∧ ρ[j]? = some (some x) := fun {j x} h => by
    by_cases hj : i = j
    · subst hj
      by_cases hl : i < ρ.length
      · rw [List.getElem?_set_self hl] at h
        cases h
      · rw [List.getElem?_eq_none (by simpa using hl)] at h
        cases h
    · rw [List.getElem?_set_ne hj] at h
      exact ⟨hj, h⟩
  refine ⟨by rw [List.length_set]; exact s.len, s.lenN, fun j e h => s.val j e (at' h).2, fun j ds h => s.own j ds (at' h).2, fun j l dj dl q hne h1 h2 h3 => s.dist j l dj dl q hne (at' h1).2 (at' h2).2 h3, s.sub, s.mok, s.ext, fun a e => ?_, s.sph, s.new⟩
  obtain ⟨m, e1, e2⟩ := s.spm a e
  refine ⟨m, e1, ?_⟩
  by_cases hi : i = 0
  · subst hi
    rw [List.getElem?_set_self (by rw [s.len]; exact (List.getElem?_eq_some_iff.mp e1).1)]
  · rw [List.getElem?_set_ne hi]
    exact e2
/-- a slot for a list that may change -/
theorem StOk.setO (s : StOk Γ M H σ ρ) {i : Nat} {p : Addr} {vs : List V} {ds : List D} (hi : i < Γ.n) (h0 : Γ.sp ≠ none → i ≠ 0) (e : H p = some (.lst vs)) (m : M p) (n0 : ¬ Γ.M0 p) (z : vs.length ≤ sizeLine) (r : RpL Γ.K M H ds vs)
    (hn : ∀ (j : Nat) (dj : List D), j ≠ i → ρ[j]? = some (some (Sl.own dj)) → σ[j]? ≠ some (some (.ref p))) : StOk Γ M H (σ.set i (some (.ref p))) (ρ.set i (some (.own ds))) := by
  have hσ : i < σ.length := by rw [s.lenN]; exact hi
  have hρ : i < ρ.length := by rw [s.len]; exact hσ
  refine ⟨by rw [List.length_set, List.length_set]; exact s.len, by rw [List.length_set]; exact s.lenN, fun j e h => ?_, fun j ds h => ?_, fun j l dj dl q hne h1 h2 h3 => ?_, s.sub, s.mok, s.ext, fun a e => ?_, s.sph, s.new⟩
  · by_cases hj : i = j
    · subst hj
      rw [List.getElem?_set_self hρ] at h
      cases h
    · rw [List.getElem?_set_ne hj] at h ⊢
      exact s.val j e h
  · by_cases hj : i = j
    · subst hj
      rw [List.getElem?_set_self hρ] at h
      cases h
      exact ⟨p, vs, List.getElem?_set_self hσ, e, m, n0, z, r⟩
    · rw [List.getElem?_set_ne hj] at h ⊢
      exact s.own j ds h
  · by_cases hj : i = j
    · subst hj
      rw [List.getElem?_set_self hσ] at h3
      cases h3
      rw [List.getElem?_set_ne hne] at h2 ⊢
      exact hn l dl (Ne.symm hne) h2
    · rw [List.getElem?_set_ne hj] at h1 h3
      by_cases hl : i = l
      · subst hl
        rw [List.getElem?_set_self hσ]
        intro y
        cases y
        exact hn j dj hne h1 h3
      · rw [List.getElem?_set_ne hl] at h2 ⊢
        exact s.dist j l dj dl q hne h1 h2 h3
  · obtain ⟨m, e1, e2⟩ := s.spm a e
    have hne : i ≠ 0 := h0 (by rw [e]; exact Option.some_ne_none a)
    exact ⟨m, by rw [List.getElem?_set_ne hne]; exact e1, by rw [List.getElem?_set_ne hne]; exact e2⟩
/-- a new list, that may change, is known -/
theorem StOk.moreA (s : StOk Γ M H σ ρ) (af : Aft Γ.sp H H') {p : Addr} {vs : List V} (np : H p = none) (e : H' p = some (.lst vs)) : StOk Γ (fun b => M b ∨ b = p) H' σ ρ := by
  have lm : LKm M H (fun b => M b ∨ b = p) := fun b z => z.elim .inl fun y => .inr (by rw [y]; exact np)
  have lk : LKh M H H' := s.keepR af
  refine ⟨s.len, s.lenN, fun j e h => ?_, fun j ds h => ?_, s.dist, fun b m => .inl (s.sub b m), fun b m => ?_, fun b o e n => (s.aft af).ext b o e n, s.spm, af.2, fun b m n => m.elim (fun z => s.new b z n) fun z => s.old0 (by rw [z]; exact np)⟩
  · obtain ⟨v, h1, h2⟩ := s.val j e h
    exact ⟨v, h1, lk.rp s.mok lm h2⟩
  · obtain ⟨q, ws, h1, h2, h3, h4, h5, h6⟩ := s.own j ds h
    exact ⟨q, ws, h1, af.1 q _ h2 fun z => h4 (s.spm q z).1, .inl h3, h4, h5, lk.rpL s.mok lm h6⟩
  · rcases m with m | m
    · exact s.mokA af b m
    · subst m
      exact ⟨vs, e⟩
theorem StOk.ownH (s : StOk Γ M H σ ρ) {p : Addr} (np : H p = none) : ∀ (j : Nat) (dj : List D), ρ[j]? = some (some (Sl.own dj)) → σ[j]? ≠ some (some (.ref p)) := fun j dj h z => by
  obtain ⟨q, ws, h1, h2, _⟩ := s.own j dj h
  rw [z] at h1
  cases h1
  rw [np] at h2
  cases h2
theorem StOk.m0 (s : StOk Γ M H σ ρ) {p : Addr} (np : H p = none) : ¬ Γ.M0 p := fun z => by
  obtain ⟨vs, e⟩ := s.mok p (s.sub p z)
  rw [np] at e
  cases e
/-- a slot's own list is written -/
theorem StOk.put (s : StOk Γ M H σ ρ) {i : Nat} {ds ds' : List D} {p : Addr} {vs' : List V} (hi : i < Γ.n) (h0 : Γ.sp ≠ none → i ≠ 0) (ho : ρ[i]? = some (some (Sl.own ds))) (hs : σ[i]? = some (some (.ref p))) (m : M p) (n0 : ¬ Γ.M0 p) (z : vs'.length ≤ sizeLine) (r : RpL Γ.K M H ds' vs') :
    StOk Γ M (upd H p (.lst vs')) σ (ρ.set i (some (.own ds'))) := by
  have hn : ∀ (j : Nat) (dj : List D), j ≠ i → ρ[j]? = some (some (Sl.own dj)) → σ[j]? ≠ some (some (.ref p)) := fun j dj hj h => s.dist i j ds dj p (Ne.symm hj) ho h hs
  have s1 := (s.clr i).chg (p := p) (vs := vs') m (fun j dj h => by
    by_cases hj : i = j
    · subst hj
      rw [List.getElem?_set_self (List.getElem?_eq_some_iff.mp ho).1] at h
      cases h
    · rw [List.getElem?_set_ne hj] at h
      exact hn j dj (Ne.symm hj) h) n0
  have keep : ∀ b o, ¬ M b → H b = some o → upd H p (.lst vs') b = some o := fun b o n e => by
    rw [upd_ne fun w => n (by rw [w]; exact m)]
    exact e
  have s2 := s1.setO (i := i) (ds := ds') hi h0 upd_same m n0 z (r.keep s.mok keep) fun j dj hj h => by
    rw [List.getElem?_set_ne (Ne.symm hj)] at h
    exact hn j dj hj h
  rw [List.set_set] at s2
  have e : σ.set i (some (.ref p)) = σ := by
    apply List.ext_getElem?
    intro j
    by_cases hj : i = j
    · subst hj
      rw [List.getElem?_set_self (List.getElem?_eq_some_iff.mp hs).1, hs]
    · rw [List.getElem?_set_ne hj]
  rw [e] at s2
  exact s2
/-- a list that may change no more -/
theorem StOk.frz (s : StOk Γ M H σ ρ) {i : Nat} {ds : List D} (ho : ρ[i]? = some (some (Sl.own ds))) : ∃ M', StOk Γ M' H σ (ρ.set i (some (.val (.list ds)))) ∧ LK M H M' H := by
  obtain ⟨p, vs, h1, h2, h3, h4, h5, h6⟩ := s.own i ds ho
  have hρ : i < ρ.length := (List.getElem?_eq_some_iff.mp ho).1
  have sb : ∀ a xs, H a = some (.lst xs) → (M a ∧ a ≠ p) → M a := fun a xs _ z => z.1
  have at' : ∀ {j : Nat} {dj : List D}, (ρ.set i (some (.val (.list ds))))[j]? = some (some (Sl.own dj)) → i ≠ j ∧ ρ[j]? = some (some (Sl.own dj)) := fun {j dj} h => by
    by_cases hj : i = j
    · subst hj
      rw [List.getElem?_set_self hρ] at h
      cases h
    · rw [List.getElem?_set_ne hj] at h
      exact ⟨hj, h⟩
  refine ⟨fun b => M b ∧ b ≠ p, ⟨by rw [List.length_set]; exact s.len, s.lenN, fun j e h => ?_, fun j dj h => ?_, fun j l dj dl q hne a1 a2 a3 => s.dist j l dj dl q hne (at' a1).2 (at' a2).2 a3, fun b m => ⟨s.sub b m, fun e => h4 (by rw [← e]; exact m)⟩, fun b m => s.mok b m.1, s.ext, fun a e => ?_, s.sph, fun b m n => s.new b m.1 n⟩, fun _ _ _ e => e, fun _ m => .inl m.1⟩
  · by_cases hj : i = j
    · subst hj
      rw [List.getElem?_set_self hρ] at h
      cases h
      exact ⟨_, h1, .lst h2 (fun z => z.2 rfl) h5 (h6.anti sb)⟩
    · rw [List.getElem?_set_ne hj] at h
      obtain ⟨v, e1, e2⟩ := s.val j e h
      exact ⟨v, e1, e2.anti sb⟩
  · obtain ⟨hj, h⟩ := at' h
    obtain ⟨q, ws, e1, e2, e3, e4, e5, e6⟩ := s.own j dj h
    exact ⟨q, ws, e1, e2, ⟨e3, fun e => s.dist i j ds dj p hj ho h h1 (by rw [e1, e])⟩, e4, e5, e6.anti sb⟩
  · obtain ⟨m, e1, e2⟩ := s.spm a e
    refine ⟨m, e1, ?_⟩
    have hne : i ≠ 0 := fun z => by
      subst z
      rw [ho] at e2
      cases e2
    rw [List.getElem?_set_ne hne]
    exact e2
theorem StOk.n0 (s : StOk Γ M H σ ρ) {i : Nat} {ds : List D} (ho : ρ[i]? = some (some (Sl.own ds))) : Γ.sp ≠ none → i ≠ 0 := fun h z => by
  cases e : Γ.sp with
  | none => exact h e
  | some a =>
    obtain ⟨m, e1, e2⟩ := s.spm a e
    subst z
    rw [ho] at e2
    cases e2
end
/-! ### what is wanted behind a statement -/
structure Pst (Γ : Cn) (M : Addr → Prop) (H : Hp) (N : Po) (E : Ends) : Prop where
  nx : ∀ ρ' σ' M' H', N.nx ρ' → StOk Γ M' H' σ' ρ' → LK M H M' H' → E.nx σ' H'
  bk : ∀ ρ' σ' M' H', N.bk ρ' → StOk Γ M' H' σ' ρ' → LK M H M' H' → E.bk σ' H'
  ct : ∀ ρ' σ' M' H', N.ct ρ' → StOk Γ M' H' σ' ρ' → LK M H M' H' → E.ct σ' H'
  rt : ∀ d v H', N.rt d → Aft Γ.sp Γ.H0 H' → Rp Γ.K Γ.M0 H' d v → (Γ.fr = true → ∃ p vs ds, v = .ref p ∧ d = .list ds ∧ Γ.H0 p = none ∧ H' p = some (.lst vs) ∧ RpL Γ.K Γ.M0 H' ds vs) → E.rt v H'
theorem Pst.on {Γ : Cn} {M M1 : Addr → Prop} {H H1 : Hp} {N : Po} {E : Ends} (p : Pst Γ M H N E) (l : LK M H M1 H1) : Pst Γ M1 H1 N E :=
  ⟨fun a b c d h s k => p.nx a b c d h s (l.trans k), fun a b c d h s k => p.bk a b c d h s (l.trans k), fun a b c d h s k => p.ct a b c d h s (l.trans k), p.rt⟩
def tS (Γ : Cn) (T : Tb) (s : S) : TS := fun E σ H => ∃ (M : Addr → Prop) (ρ : Env) (N : Po), StOk Γ M H σ ρ ∧ wpS T s ρ N ∧ Pst Γ M H N E
def tSs (Γ : Cn) (T : Tb) (ss : SL) : TS := fun E σ H => ∃ (M : Addr → Prop) (ρ : Env) (N : Po), StOk Γ M H σ ρ ∧ wpSs T ss ρ N ∧ Pst Γ M H N E
/-! ### names stored -/
section
variable {Γ : Cn} {X : Cx} {k : Ck} {T : Tb} {lv : Nat} {p pos py : Pos} {x : Expr} {e : E} {i : Nat} {y : Str}
theorem not_comp {x : Expr} (h : isComp x = false) {t : Option Expr} {l : Nat} {env : PySem.Env} : swapsWith x t l env = pure false := by
  cases x <;> first | rfl | cases h
theorem swn_false (G : Gd Γ X k T lv) {l : Nat} (h : swN k y x = true) : swapsWith x (some (.Name y py)) l X.env = pure false := by
  cases x with
  | ListComp a b c d =>
    have h : (!isLoc k y) = true := h
    have h1 := nt h
    have kn : (X.env.kindOf y == some NameKind.local) = false := by
      show (X.env.scope.names.lookup y == some NameKind.local) = false
      rw [G.hsc]
      unfold isLoc at h1
      cases e : k.sc.names.lookup y with
      | none => rfl
      | some z =>
        rw [e] at h1
        cases z <;> first | rfl | cases h1
    show (pure (X.env.blockKind == .function && X.env.kindOf y == some .local && py.line == (Expr.ListComp a b c d).pos.line && !(c.names.any fun (n, k) => n == y && (k == .local || k == .cell))) : Sem Bool) = pure false
    rw [kn, Bool.and_false, Bool.false_and, Bool.false_and]
  | SetComp => cases h
  | DictComp => cases h
  | _ => rfl
theorem sw_is {elt : Expr} {gens : List Comprehension} {scope : Scope} {pos : Pos} (G : Gd Γ X k T lv) {l : Nat} (h : swC k y py (.ListComp elt gens scope pos) = true) : swapsWith (.ListComp elt gens scope pos) (some (.Name y py)) l X.env = pure true ∧ X.env.scope.names.lookup y = some .local := by
  have h : (isLoc k y && ((py.line == pos.line) && !(scope.names.any fun p => p.1 == y && (p.2 == .local || p.2 == .cell)))) = true := h
  obtain ⟨h1, h⟩ := an h
  obtain ⟨h2, h3⟩ := an h
  have hy : X.env.scope.names.lookup y = some .local := by
    rw [G.hsc]
    unfold isLoc at h1
    cases e : k.sc.names.lookup y with
    | none =>
      rw [e] at h1
      cases h1
    | some z =>
      rw [e] at h1
      cases z <;> first | rfl | cases h1
  exact ⟨sw_true (by rw [G.hsc]; exact G.kd) hy h2 (nt h3), hy⟩
theorem set_plain (G : Gd Γ X k T lv) {te : TE} (h : PE X x te) (hs : stoB k i y = true) (hw : swN k y x = true) : PS X (.Assign [.Name y py] x pos) (tAsg te (gName i)) := by
  obtain ⟨e1, e2, e3⟩ := G.sto hs
  exact ps_set G.nd e1 e2 h (swn_false G hw) e3
/-- a comprehension's parts -/
theorem comp_parts {own : List Nat} {t : Tg} {s : Src} {c : EO} {b : E} {elt : Expr} {gens : List Comprehension} {scope : Scope} (h : chkE k (.comp own t s c b) (.ListComp elt gens scope pos) = true) :
    ∃ tg iter ifs, gens = [⟨tg, iter, ifs, 0⟩] ∧ (blkC k.N k.sc scope (ownP k own) && (chkS k s tg iter && (chkTg (blkCk k scope) t tg && (chkC (blkCk k scope) c ifs && (chkE (blkCk k scope) b elt && (!isPeek b && (!isSet iter && ((!k.spn || (no0 t && !own.contains 0)) && (tslots t).all fun i => own.contains i)))))))) = true := by
  simp only [chkE] at h
  split at h
  · obtain ⟨h0, h⟩ := an h
    obtain rfl := of_decide_eq_true h0
    exact ⟨_, _, _, rfl, h⟩
  · cases h
theorem set_fresh (G : Gd Γ X k T lv) (hc : chkE k e x = true) (hf : isFresh e = true) (hs : stoB k i y = true) (hw : setK k y py x = true) : PS X (.Assign [.Name y py] x pos) (tAsg (tF Γ T e) (gName i)) := by
  have F := (s_E e G x hc).2.2 hf
  unfold setK at hw
  cases h1 : swN k y x with
  | true => exact set_plain G F hs h1
  | false =>
    rw [h1, Bool.false_or] at hw
    obtain ⟨n1, n2, n3⟩ := G.sto hs
    cases x with
    | ListComp elt gens scope pos' =>
      obtain ⟨w1, w2⟩ := sw_is (l := pos.line) G hw
      cases e with
      | comp own t s c b =>
        obtain ⟨tg, iter, ifs, rfl, h⟩ := comp_parts hc
        obtain ⟨h1, h⟩ := an h
        obtain ⟨h2, h⟩ := an h
        obtain ⟨h3, h⟩ := an h
        obtain ⟨h4, h⟩ := an h
        obtain ⟨h5, h⟩ := an h
        obtain ⟨h6, h⟩ := an h
        obtain ⟨h7, h⟩ := an h
        obtain ⟨h8, h9⟩ := an h
        have ok : BlkOk X.N X.env.scope scope (ownP k own) := by
          rw [G.hN, G.hsc]
          exact blkOk_by h1
        have h0' : Γ.sp ≠ none → no0 t = true ∧ 0 ∉ own := fun z => by
          cases e : k.spn with
          | false => exact absurd (G.spf e) z
          | true =>
            rw [e] at h8
            simpa using h8
        refine (ps_setLc G.calm G.nd n1 w2 w1 (s_S s G tg iter h2) ok (fun s H C cl fp => s_tg (G.blk ok.kind ok.uniq s H C cl fp) t tg h3 (fun z => (h0' z).1) _ (chkS_weak h2)) (fun s H C cl fp => s_C c (G.blk ok.kind ok.uniq s H C cl fp) ifs h4) (fun s H C cl fp => (s_E b (G.blk ok.kind ok.uniq s H C cl fp) elt h5).1) (fold_no (nt h7))).wk fun E σ H h => ?_
        show tLc _ _ _ _ _ σ H _
        rw [ownP_eq]
        exact comp_lc (nt h6) (fun i hi => by simpa using List.all_eq_true.mp h9 i hi) (fun z => (h0' z).2) h
      | comp2 own t s c t1 s1 c1 b =>
        obtain ⟨tg, iter, ifs, tg1, iter1, ifs1, rfl, h1, h2, h3, h4, h5, h6, h7, h8, h9, h10, h11, h12, h13, h14⟩ := comp2_parts hc
        have ok : BlkOk X.N X.env.scope scope (ownP k own) := by
          rw [G.hN, G.hsc]
          exact blkOk_by h1
        have h0' : Γ.sp ≠ none → no0 t = true ∧ no0 t1 = true ∧ 0 ∉ own := fun z => by
          cases e : k.spn with
          | false => exact absurd (G.spf e) z
          | true =>
            rw [e] at h12
            simpa using h12
        have o1 : ∀ i ∈ tslots t, i ∈ own := fun i hi => by simpa using List.all_eq_true.mp h13 i hi
        have o2 : ∀ i ∈ tslots t1, i ∈ own := fun i hi => by simpa using List.all_eq_true.mp h14 i hi
        have gb := fun (s : Shared) (H : Hp) (C : Addr) (cl : List (Str × Addr)) (fp : List Addr) => G.blk ok.kind ok.uniq s H C cl fp
        refine (ps_setLc2 (vs1 := tslots t1) G.calm G.nd n1 w2 w1 (s_S s G tg iter h2) ok (by rw [ownP_eq]; exact o2) (fun s H C cl fp => s_tg (gb s H C cl fp) t tg h3 (fun z => (h0' z).1) _ (chkS_weak h2)) (fun s H C cl fp => s_C c (gb s H C cl fp) ifs h4)
          (fun s H C cl fp => s_S s1 (gb s H C cl fp) tg1 iter1 h5) (fun s H C cl fp => s_tg (gb s H C cl fp) t1 tg1 h6 (fun z => (h0' z).2.1) _ (chkS_weak h5)) (fun s H C cl fp => s_C c1 (gb s H C cl fp) ifs1 h7) (fun s H C cl fp => (s_E b (gb s H C cl fp) elt h8).1) (fold_no (nt h10)) (fun env x => by cases iter1 <;> first | rfl | cases nt h11)).wk fun E σ H h => ?_
        show tLc2 _ _ _ _ _ _ _ _ _ σ H _
        rw [ownP_eq]
        exact comp_lc2 (nt h9) o1 o2 (fun z => (h0' z).2.2) h
      | _ => first | (cases hf; done) | (simp [chkE] at hc; done)
    | _ => cases hw
theorem h0_of (G : Gd Γ X k T lv) (h : (!(k.spn && decide (i = 0))) = true) : Γ.sp ≠ none → i ≠ 0 := fun z => by
  cases e : k.spn with
  | false => exact absurd (G.spf e) z
  | true =>
    rw [e] at h
    simpa using h
theorem z_set (G : Gd Γ X k T lv) (hs : stoB k i y = true) (hc : chkE k e x = true) (hp : isPeek e = false) (hw : setK k y py x = true) (h0 : (!(k.spn && decide (i = 0))) = true) : PS X (.Assign [.Name y py] x pos) (tS Γ T (.set i e)) := by
  have hi := G.lt hs
  by_cases hf : isFresh e = true
  · refine (set_fresh G hc hf hs hw).wk fun E σ H ⟨M, ρ, N, st, w, q⟩ => ⟨M, ρ, _, st, w, fun ds l vs H' hp af np e z r => ?_⟩
    exact q.nx _ _ M H' hp ((st.aft af).setV (d := .list ds) (.lst e (st.mok.fresh np) z (r.anti fun _ _ _ m => .inl m)) hi (h0_of G h0)) (st.lk af)
  · have hn : swN k y x = true := by
      unfold setK at hw
      cases h1 : swN k y x with
      | true => rfl
      | false =>
        rw [h1, Bool.false_or] at hw
        cases x with
        | ListComp a b c d =>
          cases e <;> first | (exact absurd rfl hf; done) | (simp [chkE] at hc; done)
        | _ => cases hw
    refine (set_plain G (s_E e G x hc).1 hs hn).wk fun E σ H ⟨M, ρ, N, st, w, q⟩ => ⟨M, ρ, _, st, w, fun d v H' hp2 af r => ?_⟩
    rw [hp] at r
    exact q.nx _ _ M H' hp2 ((st.aft af).setV r.1 hi (h0_of G h0)) (st.lk af)
theorem z_own (G : Gd Γ X k T lv) (hs : stoB k i y = true) (hc : chkE k e x = true) (hf : isFresh e = true) (hw : setK k y py x = true) (h0 : (!(k.spn && decide (i = 0))) = true) : PS X (.Assign [.Name y py] x pos) (tS Γ T (.own i e)) := by
  refine (set_fresh G hc hf hs hw).wk fun E σ H ⟨M, ρ, N, st, w, q⟩ => ⟨M, ρ, _, st, w, fun ds l vs H' ⟨ds', ed, hp⟩ af np e z r => ?_⟩
  cases ed
  refine q.nx _ _ _ H' hp ((st.moreA af np e).setO (G.lt hs) (h0_of G h0) e (.inr rfl) (st.m0 np) z r fun j dj _ h => st.ownH np j dj h) ⟨st.keepR af, fun b m => m.elim .inl fun y => .inr (by rw [y]; exact np)⟩
theorem z_asg (G : Gd Γ X k T lv) {t : Tg} {tg : Expr} (h1 : chkTg k t tg = true) (hc : chkE k e x = true) (hp : isPeek e = false) (h2 : isTup x = false) (h3 : isComp x = false) (h0 : (!k.spn || no0 t) = true) : PS X (.Assign [tg] x pos) (tS Γ T (.asg t e)) := by
  have h0' : Γ.sp ≠ none → no0 t = true := fun z => by
    cases e : k.spn with
    | false => exact absurd (G.spf e) z
    | true =>
      rw [e] at h0
      simpa using h0
  refine (ps_asg (s_E e G x hc).1 (s_tg G t tg h1 h0' false fun z => by cases z) (not_comp h3) ?_ ?_).wk fun E σ H ⟨M, ρ, N, st, w, q⟩ => ⟨M, ρ, _, st, w, fun d v H' hp2 af r => ?_⟩
  · cases x <;> first | (cases h2; done) | (cases tg <;> rfl)
  · exact asEach_cons (chkTg_star h1)
  · rw [hp] at r
    exact ⟨M, d, ρ, _, st.aft af, r.1, hp2, fun ρ' σ' hn st' _ => q.nx _ _ M H' hn st' (st.lk af)⟩
end
end DH

/-! P17 -/
set_option Elab.async false
set_option linter.all false
set_option maxRecDepth 100000
set_option maxHeartbeats 4000000
namespace DH
open PySem PySem.Spec PyProof.Rows L2
/-! ### several names at once -/
theorem fm2 {α β : Type} {f : α → Option β} {a b : α} {x y : β} (h1 : f a = some x) (h2 : f b = some y) : List.filterMap f [a, b] = [x, y] := by
  rw [List.filterMap_cons_some h1, List.filterMap_cons_some h2]
  rfl
theorem fm3 {α β : Type} {f : α → Option β} {a b c : α} {x y z : β} (h1 : f a = some x) (h2 : f b = some y) (h3 : f c = some z) : List.filterMap f [a, b, c] = [x, y, z] := by
  rw [List.filterMap_cons_some h1, List.filterMap_cons_some h2, List.filterMap_cons_some h3]
  rfl
theorem str_ne {x y : Str} (h : x ≠ y) : (y == x) = false := by
  cases e : (y == x) with
  | false => rfl
  | true => exact absurd (eq_of_beq e).symm h
theorem star_f {xs : List Expr} (h : (xs.all fun x => !isStar x) = true) : (xs.any fun | .Starred .. => true | _ => false) = false := by
  induction xs with
  | nil => rfl
  | cons a xs ih =>
    simp only [List.all_cons] at h
    obtain ⟨h1, h2⟩ := an h
    rw [List.any_cons, ih h2, Bool.or_false]
    cases a <;> first | rfl | cases h1
section
variable {Γ : Cn} {X : Cx} {k : Ck} {T : Tb} {lv : Nat} {p pos py px pz : Pos} {e : E} {i : Nat} {x y z : Str} {a b c : Expr}
theorem loc_k (G : Gd Γ X k T lv) (h : isLoc k x = true) : X.env.scope.names.lookup x = some .local := by
  rw [G.hsc]
  unfold isLoc at h
  cases e : k.sc.names.lookup x with
  | none =>
    rw [e] at h
    cases h
  | some z =>
    rw [e] at h
    cases z <;> first | rfl | cases h
theorem fun_k (G : Gd Γ X k T lv) : (X.env.blockKind != .function) = false := by
  unfold Env.blockKind
  rw [show X.env.scope.kind = .function by rw [G.hsc]; exact G.kd]
  rfl
theorem f_loc (G : Gd Γ X k T lv) {l : Nat} (h : (isLoc k x && p.line == l) = true) : (X.env.kindOf x == some NameKind.local && p.line == l) = true := by
  obtain ⟨h1, h2⟩ := an h
  show (X.env.scope.names.lookup x == some NameKind.local && _) = true
  rw [loc_k G h1, h2]
  rfl
theorem swap2 (G : Gd Γ X k T lv) {kt k2 : Nat} {pt pt2 : Pos} (h : swapsY k [(x, px), (y, py)] [a, b] = true) : swappedStores [.Tuple [.Name x px, .Name y py] kt pt] (.Tuple [a, b] k2 pt2) X.env = pure (some [x, y]) ∧ X.env.scope.names.lookup x = some .local ∧ X.env.scope.names.lookup y = some .local := by
  unfold swapsY at h
  obtain ⟨_, h⟩ := an h
  obtain ⟨_, h⟩ := an h
  obtain ⟨hst, h⟩ := an h
  obtain ⟨hl, h⟩ := an h
  obtain ⟨hn, h⟩ := an h
  obtain ⟨hf, hc⟩ := an h
  have hst' := star_f hst
  simp only [List.all_cons, List.all_nil, Bool.and_true, line0, List.head?_cons, Option.map_some, Option.getD_some] at hl
  obtain ⟨hx, hy⟩ := an hl
  have hxy : x ≠ y := by
    have := of_decide_eq_true hn
    simp at this
    exact this
  have ed : [x, y].eraseDups = [x, y] := by simp [List.eraseDups, List.eraseDupsBy, List.eraseDupsBy.loop, str_ne hxy]
  have nf : [a, b].all (foldedForSure 8) = false := nt hf
  have nc : [a, b].all (constantsAlone 8) = false := nt hc
  refine ⟨?_, loc_k G (an hx).1, loc_k G (an hy).1⟩
  unfold swappedStores
  dsimp only
  generalize hg : List.filterMap _ [Expr.Name x px, Expr.Name y py] = names
  obtain rfl : names = [x, y] := hg.symm.trans (fm2 (if_pos (f_loc G hx)) (if_pos (f_loc G hy)))
  generalize hs : ([a, b].any _) = st
  obtain rfl : st = false := hs.symm.trans hst'
  rw [nf, nc, ed, fun_k G]
  rfl
theorem swap3 (G : Gd Γ X k T lv) {kt k2 : Nat} {pt pt2 : Pos} (h : swapsY k [(x, px), (y, py), (z, pz)] [a, b, c] = true) : swappedStores [.Tuple [.Name x px, .Name y py, .Name z pz] kt pt] (.Tuple [a, b, c] k2 pt2) X.env = pure (some [x, y, z]) ∧ X.env.scope.names.lookup x = some .local ∧ X.env.scope.names.lookup y = some .local ∧ X.env.scope.names.lookup z = some .local := by
  unfold swapsY at h
  obtain ⟨_, h⟩ := an h
  obtain ⟨_, h⟩ := an h
  obtain ⟨hst, h⟩ := an h
  obtain ⟨hl, h⟩ := an h
  obtain ⟨hn, h⟩ := an h
  obtain ⟨hf, hc⟩ := an h
  have hst' := star_f hst
  simp only [List.all_cons, List.all_nil, Bool.and_true, line0, List.head?_cons, Option.map_some, Option.getD_some] at hl
  obtain ⟨hx, hl⟩ := an hl
  obtain ⟨hy, hz⟩ := an hl
  have hd := of_decide_eq_true hn
  simp at hd
  have ed : [x, y, z].eraseDups = [x, y, z] := by simp [List.eraseDups, List.eraseDupsBy, List.eraseDupsBy.loop, str_ne hd.1.1, str_ne hd.1.2, str_ne hd.2]
  have nf : [a, b, c].all (foldedForSure 8) = false := nt hf
  have nc : [a, b, c].all (constantsAlone 8) = false := nt hc
  refine ⟨?_, loc_k G (an hx).1, loc_k G (an hy).1, loc_k G (an hz).1⟩
  unfold swappedStores
  dsimp only
  generalize hg : List.filterMap _ [Expr.Name x px, Expr.Name y py, Expr.Name z pz] = names
  obtain rfl : names = [x, y, z] := hg.symm.trans (fm3 (if_pos (f_loc G hx)) (if_pos (f_loc G hy)) (if_pos (f_loc G hz)))
  generalize hs : ([a, b, c].any _) = st
  obtain rfl : st = false := hs.symm.trans hst'
  rw [nf, nc, ed, fun_k G]
  rfl
theorem namesOf_ts : ∀ {ts : List Expr} {ns : List (Str × Pos)}, namesOf ts = some ns → ts = ns.map fun p => Expr.Name p.1 p.2
  | [], ns, h => by
    cases h
    rfl
  | t :: ts, ns, h => by
    cases t with
    | Name x p =>
      simp only [namesOf] at h
      cases e : namesOf ts with
      | none =>
        rw [e] at h
        cases h
      | some l =>
        rw [e] at h
        cases h
        rw [namesOf_ts e]
        rfl
    | _ => simp [namesOf] at h
theorem filterMap_le {α β : Type} {f : α → Option β} : ∀ {l : List α}, (l.filterMap f).length ≤ l.length
  | [] => Nat.le_refl _
  | a :: l => by
    rw [List.filterMap_cons]
    cases f a with
    | none => exact Nat.le_succ_of_le filterMap_le
    | some b => exact Nat.succ_le_succ filterMap_le
theorem filterMap_lt {α β : Type} {f : α → Option β} : ∀ {l : List α} {a : α}, a ∈ l → f a = none → (l.filterMap f).length < l.length
  | b :: l, a, h, e => by
    rw [List.filterMap_cons]
    rcases List.mem_cons.mp h with rfl | h
    · rw [e]
      exact Nat.lt_succ_of_le filterMap_le
    · have := filterMap_lt h e
      cases f b with
      | none => exact Nat.lt_succ_of_lt this
      | some b => exact Nat.succ_lt_succ this
theorem swapN (G : Gd Γ X k T lv) {ns : List (Str × Pos)} {xs : List Expr} {kt k2 : Nat} {pt pt2 : Pos} (h : swapsN k ns xs = true) : swappedStores [.Tuple (ns.map fun p => Expr.Name p.1 p.2) kt pt] (.Tuple xs k2 pt2) X.env = pure none := by
  unfold swapsN at h
  obtain ⟨_, h⟩ := an h
  unfold swappedStores
  dsimp only
  rw [List.length_map]
  cases h1 : (!(ns.length == 2 || ns.length == 3)) with
  | true => rfl
  | false =>
    rw [h1, Bool.false_or] at h
    cases h2 : (xs.length != ns.length) with
    | true => rfl
    | false =>
      rw [fun_k G]
      simp only [Bool.or_self, Bool.false_eq_true, if_false]
      generalize hs : (xs.any _) = st
      cases st with
      | true => rfl
      | false =>
        simp only [Bool.false_eq_true, if_false]
        generalize hg : List.filterMap _ (ns.map fun p => Expr.Name p.1 p.2) = names
        cases h3 : (ns.any fun p => !(isLoc k p.1)) with
        | true =>
          obtain ⟨q, hq, hl⟩ := List.any_eq_true.mp h3
          have hl := nt hl
          have lt : names.length < (ns.map fun p => Expr.Name p.1 p.2).length := by
            rw [← hg]
            refine filterMap_lt (a := Expr.Name q.1 q.2) (List.mem_map.mpr ⟨q, hq, rfl⟩) (if_neg ?_)
            intro w
            have w1 := (an w).1
            have w1 : (X.env.scope.names.lookup q.1 == some NameKind.local) = true := w1
            rw [G.hsc] at w1
            have e := eq_of_beq w1
            unfold isLoc at hl
            rw [e] at hl
            cases hl
          have e : (names.length != ns.length) = true := by
            rw [List.length_map] at lt
            simp
            omega
          rw [e]
          rfl
        | false =>
          rw [h3, Bool.false_or] at h
          rw [h]
          split <;> rfl
end
end DH

/-! P18 -/
set_option Elab.async false
set_option linter.all false
set_option maxRecDepth 100000
set_option maxHeartbeats 4000000
namespace DH
open PySem PySem.Spec PyProof.Rows L2
/-! ### values for several names -/
def FrL (q : Addr) : List (Nat × Bool) → List V → Prop
  | (_, b) :: is, v :: vs => (b = true ∧ v = .ref q) ∨ FrL q is vs
  | _, _ => False
def PaOk (Γ : Cn) (M' : Addr → Prop) (H0 H' : Hp) : List (Nat × Bool) → List D → List V → Prop
  | [], [], [] => True
  | (_, false) :: is, d :: ds, v :: vs => Rp Γ.K M' H' d v ∧ PaOk Γ M' H0 H' is ds vs
  | (_, true) :: is, d :: ds, v :: vs => (∃ q, v = .ref q ∧ H' q = some (.lst []) ∧ M' q ∧ H0 q = none ∧ ∀ q', FrL q' is vs → q' ≠ q) ∧ PaOk Γ M' H0 H' is ds vs
  | _, _, _ => False
theorem PaOk.grow {Γ : Cn} {M' : Addr → Prop} {H0 H' H2 : Hp} (g : Grow H' H2) : ∀ {is : List (Nat × Bool)} {ds : List D} {vs : List V}, PaOk Γ M' H0 H' is ds vs → PaOk Γ M' H0 H2 is ds vs
  | [], [], [], _ => trivial
  | (_, false) :: is, d :: ds, v :: vs, h => ⟨h.1.grow g, PaOk.grow (is := is) g h.2⟩
  | (_, true) :: is, d :: ds, v :: vs, ⟨⟨q, e, a, b, c⟩, h⟩ => ⟨⟨q, e, g q _ a, b, c⟩, PaOk.grow (is := is) g h⟩
  | [], [], _ :: _, h => h.elim
  | [], _ :: _, _, h => h.elim
  | (_, true) :: _, [], _, h => h.elim
  | (_, false) :: _, [], _, h => h.elim
  | (_, true) :: _, _ :: _, [], h => h.elim
  | (_, false) :: _, _ :: _, [], h => h.elim
theorem PaOk.pre {Γ : Cn} {M' : Addr → Prop} {H0 H1 H' : Hp} (g : ∀ q, H1 q = none → H0 q = none) : ∀ {is : List (Nat × Bool)} {ds : List D} {vs : List V}, PaOk Γ M' H1 H' is ds vs → PaOk Γ M' H0 H' is ds vs
  | [], [], [], _ => trivial
  | (_, false) :: is, d :: ds, v :: vs, h => ⟨h.1, PaOk.pre (is := is) g h.2⟩
  | (_, true) :: is, d :: ds, v :: vs, ⟨⟨q, e, a, b, c, f⟩, h⟩ => ⟨⟨q, e, a, b, g q c, f⟩, PaOk.pre (is := is) g h⟩
  | [], [], _ :: _, h => h.elim
  | [], _ :: _, _, h => h.elim
  | (_, true) :: _, [], _, h => h.elim
  | (_, false) :: _, [], _, h => h.elim
  | (_, true) :: _, _ :: _, [], h => h.elim
  | (_, false) :: _, _ :: _, [], h => h.elim
theorem PaOk.none {Γ : Cn} {M' : Addr → Prop} {H0 H' : Hp} {q : Addr} : ∀ {is : List (Nat × Bool)} {ds : List D} {vs : List V}, PaOk Γ M' H0 H' is ds vs → FrL q is vs → H0 q = Option.none
  | [], [], [], _, f => f.elim
  | (_, false) :: is, d :: ds, v :: vs, h, f => f.elim (fun z => by cases z.1) fun f => PaOk.none (is := is) h.2 f
  | (_, true) :: is, d :: ds, v :: vs, ⟨⟨p, e, a, b, c, _⟩, h⟩, f => f.elim (fun z => by
      rw [z.2] at e
      cases e
      exact c) fun f => PaOk.none (is := is) h f
  | [], [], _ :: _, h, _ => h.elim
  | [], _ :: _, _, h, _ => h.elim
  | (_, true) :: _, [], _, h, _ => h.elim
  | (_, false) :: _, [], _, h, _ => h.elim
  | (_, true) :: _, _ :: _, [], h, _ => h.elim
  | (_, false) :: _, _ :: _, [], h, _ => h.elim
theorem PaOk.len {Γ : Cn} {M' : Addr → Prop} {H0 H' : Hp} : ∀ {is : List (Nat × Bool)} {ds : List D} {vs : List V}, PaOk Γ M' H0 H' is ds vs → vs.length = is.length
  | [], [], [], _ => rfl
  | (_, false) :: is, d :: ds, v :: vs, h => congrArg Nat.succ (PaOk.len (is := is) h.2)
  | (_, true) :: is, d :: ds, v :: vs, h => congrArg Nat.succ (PaOk.len (is := is) h.2)
  | [], [], _ :: _, h => h.elim
  | [], _ :: _, _, h => h.elim
  | (_, true) :: _, [], _, h => h.elim
  | (_, false) :: _, [], _, h => h.elim
  | (_, true) :: _, _ :: _, [], h => h.elim
  | (_, false) :: _, _ :: _, [], h => h.elim
def tPa (Γ : Cn) (T : Tb) (is : List (Nat × Bool)) (es : EL) : TA := fun σ H Q => ∃ (M : Addr → Prop) (ρ : Env) (P : List D → Prop), StOk Γ M H σ ρ ∧ wpL T es ρ P ∧ ∀ ds vs M' H', P ds → Aft Γ.sp H H' → LKm M H M' → (∀ b, M b → M' b) → StOk Γ M' H' σ ρ → PaOk Γ M' H H' is ds vs → Q vs H'
section
variable {Γ : Cn} {X : Cx} {k : Ck} {T : Tb} {lv : Nat}
theorem pa_par (G : Gd Γ X k T lv) : ∀ (is : List (Nat × Bool)) (es : EL) (xs : List Expr), chkL k es xs = true → noPeeks es = true → parO is es = true → PA X xs (tPa Γ T is es)
  | [], .nil, xs, h, n, o => by
    cases xs with
    | nil => exact pa_nil.wk fun σ H Q ⟨M, ρ, P, st, w, q⟩ => q [] [] M H w (Aft.of st.sph Grow.refl) (fun _ m => .inl m) (fun _ m => m) st trivial
    | cons => simp [chkL] at h
  | (i, false) :: is, .cons e es, xs, h, n, o => by
    cases xs with
    | nil => simp [chkL] at h
    | cons x xs =>
      simp only [chkL] at h
      obtain ⟨h1, h2⟩ := an h
      simp only [noPeeks] at n
      obtain ⟨n1, n2⟩ := an n
      refine (pa_cons (s_E e G x h1).1 (pa_par G is es xs h2 n2 (by simpa only [parO] using o)) (star_cons (chkE_star h1))).wk fun σ H Q ⟨M, ρ, P, st, w, q⟩ => ⟨M, ρ, _, st, w, fun d v H1 w2 af r => ⟨M, ρ, _, st.aft af, w2, fun ds vs M' H2 hp af2 lm up st2 ok => ?_⟩⟩
      rw [nt n1] at r
      refine q (d :: ds) (v :: vs) M' H2 hp (af.trans af2) (fun b m => (lm b m).imp id fun e => af.back st.sph e) up st2 ⟨?_, ok.pre fun b e => af.back st.sph e⟩
      exact LKh.rp ((st.aft af).keepR af2) (st.mokA af) lm r.1
  | (i, true) :: is, .cons e es, xs, h, n, o => by
    cases xs with
    | nil => simp [chkL] at h
    | cons x xs =>
      simp only [chkL] at h
      obtain ⟨h1, h2⟩ := an h
      simp only [noPeeks] at n
      obtain ⟨n1, n2⟩ := an n
      have key : e = .lst .nil ∧ parO is es = true := by
        cases e with
        | lst l => cases l with
          | nil => exact ⟨rfl, by simpa only [parO] using o⟩
          | cons => simp [parO] at o
        | _ => simp [parO] at o
      obtain ⟨rfl, o2⟩ := key
      refine (pa_cons ((s_E _ G x h1).2.2 rfl) (pa_par G is es xs h2 n2 o2) (star_cons (chkE_star h1))).wk fun σ H Q ⟨M, ρ, P, st, w, q⟩ => ⟨M, ρ, fun d => d = .list [] ∧ wpL T es ρ fun ds => P (d :: ds), st, ⟨rfl, w⟩, fun ds0 p vs0 H1 ⟨ed, w2⟩ af np e1 z r => ?_⟩
      cases ed
      cases r
      refine ⟨_, ρ, _, st.moreA af np e1, w2, fun ds vs M' H2 hp af2 lm up st2 ok => ?_⟩
      have nsp : Γ.sp ≠ some p := fun z => by
        obtain ⟨a, b, c, y, _⟩ := st.sph p z
        rw [np] at y
        cases y
      exact q _ (.ref p :: vs) M' H2 hp (af.trans af2) (fun b m => (lm b m).elim (fun y => y.elim .inl fun y => .inr (by rw [y]; exact np)) fun e => .inr (af.back st.sph e)) (fun b m => up b (.inl m)) st2 ⟨⟨p, rfl, af2.1 p _ e1 nsp, up p (.inr rfl), np, fun q' f z => by
        have y := ok.none f
        rw [z, e1] at y
        cases y⟩, ok.pre fun b e => af.back st.sph e⟩
  | [], .cons _ _, _, _, _, o => by simp [parO] at o
  | (_, false) :: _, .nil, _, _, _, o => by simp [parO] at o
  | (_, true) :: _, .nil, _, _, _, o => by simp [parO] at o
def parS : List (Nat × Bool) → List V → L2.St → L2.St
  | (i, _) :: is, v :: vs, σ => parS is vs (σ.set i (some v))
  | _, _, σ => σ
theorem par_fold {M' : Addr → Prop} {H0 H' : Hp} (n0 : ∀ q, H0 q = none → ¬ Γ.M0 q) : ∀ {is : List (Nat × Bool)} {ds : List D} {vs : List V} {σ : L2.St} {ρ : Env}, (∀ p ∈ is, p.1 < Γ.n ∧ (Γ.sp ≠ none → p.1 ≠ 0)) →
    (∀ (j : Nat) (dj : List D) (q : Addr), FrL q is vs → ρ[j]? = some (some (Sl.own dj)) → σ[j]? ≠ some (some (.ref q))) → StOk Γ M' H' σ ρ → PaOk Γ M' H0 H' is ds vs → StOk Γ M' H' (parS is vs σ) (parE is ds ρ)
  | [], [], [], σ, ρ, _, _, st, _ => st
  | (i, false) :: is, d :: ds, v :: vs, σ, ρ, hi, ho, st, h => by
    obtain ⟨a1, a2⟩ := hi (i, false) (List.mem_cons_self ..)
    refine par_fold n0 (is := is) (ds := ds) (vs := vs) (fun p hp => hi p (List.mem_cons_of_mem _ hp)) ?_ (st.setV h.1 a1 a2) h.2
    intro j dj q hq e
    by_cases hj : i = j
    · subst hj
      rw [List.getElem?_set_self (by rw [st.len, st.lenN]; exact a1)] at e
      cases e
    · rw [List.getElem?_set_ne hj] at e ⊢
      exact ho j dj q (.inr hq) e
  | (i, true) :: is, d :: ds, v :: vs, σ, ρ, hi, ho, st, ⟨⟨q, e, e1, m, hq, hne⟩, h⟩ => by
    obtain ⟨a1, a2⟩ := hi (i, true) (List.mem_cons_self ..)
    subst e
    refine par_fold n0 (is := is) (ds := ds) (vs := vs) (fun p hp => hi p (List.mem_cons_of_mem _ hp)) ?_ (st.setO (ds := []) a1 a2 e1 m (n0 q hq) (by decide) .nil fun j dj _ w => ho j dj q (.inl ⟨rfl, rfl⟩) w) h
    intro j dj q' hq' e
    by_cases hj : i = j
    · subst hj
      rw [List.getElem?_set_self (by rw [st.lenN]; exact a1)]
      intro z
      cases z
      exact hne _ hq' rfl
    · rw [List.getElem?_set_ne hj] at e ⊢
      exact ho j dj q' (.inr hq') e
  | [], [], _ :: _, _, _, _, _, _, h => h.elim
  | [], _ :: _, _, _, _, _, _, _, h => h.elim
  | (_, true) :: _, [], _, _, _, _, _, _, h => h.elim
  | (_, false) :: _, [], _, _, _, _, _, _, h => h.elim
  | (_, true) :: _, _ :: _, [], _, _, _, _, _, h => h.elim
  | (_, false) :: _, _ :: _, [], _, _, _, _, _, h => h.elim
theorem len2 {α : Type} {l : List α} (h : l.length = 2) : ∃ a b, l = [a, b] := match l, h with
  | [a, b], _ => ⟨a, b, rfl⟩
theorem len3 {α : Type} {l : List α} (h : l.length = 3) : ∃ a b c, l = [a, b, c] := match l, h with
  | [a, b, c], _ => ⟨a, b, c, rfl⟩
def gNm (is : List (Nat × Bool)) : TGs := fun vs σ H Q => vs.length = is.length ∧ Q (parS is vs σ) H
theorem pgs_nm (G : Gd Γ X k T lv) : ∀ {is : List (Nat × Bool)} {ns : List (Str × Pos)}, parN k is ns = true → PGs X (ns.map fun p => Expr.Name p.1 p.2) (gNm is)
  | [], [], _ => pgs_nil.wk fun vs σ H Q ⟨l, q⟩ => by
    cases vs with
    | nil => exact ⟨rfl, q⟩
    | cons => cases l
  | (i, o) :: is, (x, p) :: ns, h => by
    simp only [parN] at h
    obtain ⟨h1, h2⟩ := an h
    obtain ⟨e1, e2, e3⟩ := G.sto h1
    refine (pgs_cons (pg_name (pos := p) G.nd e1 e2 e3) (pgs_nm G h2) (asEach_cons rfl)).wk fun vs σ H Q ⟨l, q⟩ => ?_
    cases vs with
    | nil => cases l
    | cons v vs => exact ⟨v, vs, rfl, Nat.succ.inj l, q⟩
  | [], _ :: _, h => by simp [parN] at h
  | (_, _) :: _, [], h => by simp [parN] at h
theorem parN_is (G : Gd Γ X k T lv) : ∀ {is : List (Nat × Bool)} {ns : List (Str × Pos)}, parN k is ns = true → (∀ p ∈ is, p.1 < Γ.n) ∧ is.length = ns.length
  | [], [], _ => ⟨fun p hp => (by cases hp), rfl⟩
  | (i, o) :: is, (x, p) :: ns, h => by
    simp only [parN] at h
    obtain ⟨h1, h2⟩ := an h
    obtain ⟨r1, r2⟩ := parN_is G h2
    exact ⟨fun q hq => by
      rcases List.mem_cons.mp hq with rfl | hq
      · exact G.lt h1
      · exact r1 q hq, congrArg Nat.succ r2⟩
  | [], _ :: _, h => by simp [parN] at h
  | (_, _) :: _, [], h => by simp [parN] at h
theorem z_par (G : Gd Γ X k T lv) {is : List (Nat × Bool)} {es : EL} {ns : List (Str × Pos)} {xs : List Expr} {kt k2 : Nat} {pt pt2 pos : Pos} (hL : chkL k es xs = true) (np : noPeeks es = true) (hN : parN k is ns = true) (hO : parO is es = true) (hd : (is.map (·.1)).Nodup) (hl : is.length = xs.length) (hz : xs.length ≤ 1000) (h1 : (is.filter (·.2)).length ≤ 9)
    (h0 : (!k.spn || !(is.map (·.1)).contains 0) = true) (hw : (swapsY k ns xs || swapsN k ns xs) = true) : PS X (.Assign [.Tuple (ns.map fun p => Expr.Name p.1 p.2) kt pt] (.Tuple xs k2 pt2) pos) (tS Γ T (.par is es)) := by
  have pa := pa_par G is es xs hL np hO
  obtain ⟨lt, ll⟩ := parN_is G hN
  have hi : ∀ p ∈ is, p.1 < Γ.n ∧ (Γ.sp ≠ none → p.1 ≠ 0) := fun p hp => ⟨lt p hp, fun z => by
    cases e : k.spn with
    | false => exact absurd (G.spf e) z
    | true =>
      rw [e] at h0
      intro w
      have : 0 ∈ is.map (·.1) := List.mem_map.mpr ⟨p, hp, w⟩
      simp only [Bool.not_true, Bool.false_or] at h0
      rw [List.contains_iff_mem.mpr this] at h0
      cases h0⟩
  have fin : ∀ (E : Ends) (σ : L2.St) (H : Hp), tS Γ T (.par is es) E σ H → tPa Γ T is es σ H fun vs H' => vs.length = is.length ∧ ∀ H2, Grow H' H2 → E.nx (parS is vs σ) H2 := fun E σ H ⟨M, ρ, N, st, w, q⟩ => ⟨M, ρ, _, st, w, fun ds vs M' H' hp af lm up st' ok => ⟨ok.len, fun H2 g => q.nx _ _ M' H2 hp (par_fold (fun b z => st.m0 z) hi (fun j dj b hb e => st.ownH (ok.none hb) j dj e) (st'.aft (Aft.of st'.sph g)) (ok.grow g)) ⟨fun b o n e => g b o (st.keepR af b o n e), lm⟩⟩⟩
  rcases Bool.or_eq_true_iff.mp hw with hw | hw
  · have hw' := hw
    unfold swapsY at hw'
    obtain ⟨w1, hw'⟩ := an hw'
    have lx := of_decide_eq_true (an hw').1
    rcases Bool.or_eq_true_iff.mp w1 with w1 | w1
    · have w1 : ns.length = 2 := eq_of_beq w1
      obtain ⟨⟨x, px⟩, ⟨y, py⟩, rfl⟩ := len2 w1
      obtain ⟨a, b, rfl⟩ := len2 (lx.trans w1)
      obtain ⟨⟨i, o1⟩, ⟨j, o2⟩, rfl⟩ := len2 hl
      obtain ⟨w1, w2, w3⟩ := swap2 (kt := kt) (k2 := k2) (pt := pt) (pt2 := pt2) G hw
      simp only [parN, Bool.and_true] at hN
      obtain ⟨n1, n2⟩ := an hN
      refine (ps_par G.calm G.nd (G.sto n1).1 (G.sto n2).1 (by simpa using hd) w2 w3 pa w1).wk fun E σ H h => ?_
      obtain ⟨M, ρ, P, st, w, q⟩ := fin E σ H h
      refine ⟨M, ρ, P, st, w, fun ds vs M' H' hp af lm up st' ok => ?_⟩
      obtain ⟨l, qq⟩ := q ds vs M' H' hp af lm up st' ok
      obtain ⟨u, v, rfl⟩ := len2 l
      exact ⟨u, v, rfl, qq H' Grow.refl⟩
    · have w1 : ns.length = 3 := eq_of_beq w1
      obtain ⟨⟨x, px⟩, ⟨y, py⟩, ⟨z, pz⟩, rfl⟩ := len3 w1
      obtain ⟨a, b, c, rfl⟩ := len3 (lx.trans w1)
      obtain ⟨⟨i, o1⟩, ⟨j, o2⟩, ⟨l, o3⟩, rfl⟩ := len3 hl
      obtain ⟨w1, w2, w3, w4⟩ := swap3 (kt := kt) (k2 := k2) (pt := pt) (pt2 := pt2) G hw
      simp only [parN, Bool.and_true] at hN
      obtain ⟨n1, n2⟩ := an hN
      obtain ⟨n2, n3⟩ := an n2
      simp at hd
      refine (ps_par3 G.calm G.nd (G.sto n1).1 (G.sto n2).1 (G.sto n3).1 hd.1.1 hd.1.2 hd.2 w2 w3 w4 pa w1).wk fun E σ H h => ?_
      obtain ⟨M, ρ, P, st, w, q⟩ := fin E σ H h
      refine ⟨M, ρ, P, st, w, fun ds vs M' H' hp af lm up st' ok => ?_⟩
      obtain ⟨l, qq⟩ := q ds vs M' H' hp af lm up st' ok
      obtain ⟨u, v, w, rfl⟩ := len3 l
      exact ⟨u, v, w, rfl, qq H' Grow.refl⟩
  · have hs := chkL_star hL
    have ns' : noStars (ns.map fun p => Expr.Name p.1 p.2) := fun x hx => by
      obtain ⟨q, _, rfl⟩ := List.mem_map.mp hx
      rfl
    refine (ps_asg (pe_tup pa) (pg_tup G.calm (pgs_nm G hN) ((asEach_len _).trans (List.length_map ..)) (asEach_star ns')) rfl (swapN G hw) rfl).wk fun E σ H h => ?_
    obtain ⟨M, ρ, P, st, w, q⟩ := fin E σ H h
    refine ⟨M, ρ, P, st, w, fun ds vs M' H' hp af lm up st' ok => ?_⟩
    obtain ⟨l, qq⟩ := q ds vs M' H' hp af lm up st' ok
    exact ⟨by rw [l, hl]; exact Nat.le_trans hz (by decide), fun p np => ⟨p, vs, rfl, .inl (.inl upd_same), by rw [l, ll], l, qq _ (Grow.new np)⟩⟩
end
end DH

/-! P19 -/
set_option Elab.async false
set_option linter.all false
set_option maxRecDepth 100000
set_option maxHeartbeats 4000000
namespace DH
open PySem PySem.Spec PyProof.Rows L2
/-! ### every statement of the core -/
section
variable {Γ : Cn} {X : Cx} {k : Ck} {T : Tb} {lv : Nat} {p pos ap cp : Pos} {x y : Expr} {e q : E} {i : Nat} {n : Str}
theorem vis_lt (G : Gd Γ X k T lv) (hv : visB k i n = true) : i < Γ.n := by
  rw [G.gn]
  exact (List.getElem?_eq_some_iff.mp (of_decide_eq_true (an hv).1)).1
theorem z_app (G : Gd Γ X k T lv) (hv : visB k i n = true) (hc : chkE k e y = true) (hp : isPeek e = false) (hl : (ap.endLine == cp.line) = true) : PS X (.Expr (.Call (.Attribute (.Name n p) ("append" : Str) ap) [y] [] cp) pos) (tS Γ T (.app i e)) := by
  obtain ⟨h1, h2, h3, h4⟩ := G.vis hv
  have hi := vis_lt G hv
  have ns := chkE_star hc
  have e1 : backTo cp (starEach [y] X.env) = [(false, eval y X.env)] := by
    rw [star_cons ns]
    rfl
  refine (ps_expr (pe_bm PySem.F.plainAttrs_list PySem.F.slot_list_append PySem.F.type_list_append mt_append (pe_var h1 h2 h3 h4) (pa_cons (s_E e G y hc).1 pa_nil (star_cons ns)) rfl (by rw [e1]; rfl) hl (star_cons ns) rfl) rfl).wk fun E σ H ⟨M, ρ, N, st, ⟨ds, eo, hz, w⟩, qq⟩ => ?_
  have eo := getO_eq eo
  obtain ⟨l, vs, s1, s2, s3, s4, s5, s6⟩ := st.own i ds eo
  refine ⟨.ref l, s1, .inl ⟨rfl, vs, .inl (.inl s2)⟩, M, ρ, _, st, w, fun d v H1 hN af r => ?_⟩
  rw [hp] at r
  have nsp : Γ.sp ≠ some l := fun z => s4 (st.spm l z).1
  have s7 := st.aft af
  have hl' : vs.length < 1000000 := by rw [← s6.length]; exact hz
  have e2 : (vs ++ [v]).length ≤ sizeLine := by
    rw [List.length_append]
    exact Nat.le_trans (show vs.length + 1 ≤ 1000000 from hl') (by decide)
  refine ⟨l, vs, v, rfl, rfl, af.1 l _ s2 nsp, Nat.lt_of_lt_of_le hl' (by decide), ?_⟩
  refine qq.nx _ _ M _ hN (s7.put hi (st.n0 eo) eo s1 s3 s4 e2 ((st.rpL af s6).append (.cons r.1 .nil))) ⟨fun b o n e => ?_, fun b m => .inl m⟩
  rw [upd_ne fun z => n (by rw [z]; exact s3)]
  exact st.keepR af b o n e
theorem z_ext (G : Gd Γ X k T lv) (hv : visB k i n = true) (hc : chkE k e y = true) (hf : isFresh e = true) (hl : (ap.endLine == cp.line) = true) : PS X (.Expr (.Call (.Attribute (.Name n p) ("extend" : Str) ap) [y] [] cp) pos) (tS Γ T (.ext i e)) := by
  obtain ⟨h1, h2, h3, h4⟩ := G.vis hv
  have hi := vis_lt G hv
  have ns := chkE_star hc
  have e1 : backTo cp (starEach [y] X.env) = [(false, eval y X.env)] := by
    rw [star_cons ns]
    rfl
  refine (ps_expr (pe_bm PySem.F.plainAttrs_list PySem.F.slot_list_extend PySem.F.type_list_extend mt_extend (pe_var h1 h2 h3 h4) (pa_cons ((s_E e G y hc).2.2 hf) pa_nil (star_cons ns)) rfl (by rw [e1]; rfl) hl (star_cons ns) rfl) rfl).wk fun E σ H ⟨M, ρ, N, st, ⟨ds, eo, w⟩, qq⟩ => ?_
  have eo := getO_eq eo
  obtain ⟨l, vs, s1, s2, s3, s4, s5, s6⟩ := st.own i ds eo
  refine ⟨.ref l, s1, .inl ⟨rfl, vs, .inl (.inl s2)⟩, M, ρ, _, st, w, fun es q ws H1 ⟨es', ee, hz, hN⟩ af np ep zw r => ?_⟩
  cases ee
  have nsp : Γ.sp ≠ some l := fun z => s4 (st.spm l z).1
  have s7 := st.aft af
  have r' : RpL Γ.K M H1 es ws := r.anti fun _ _ _ m => .inl m
  have hl' : vs.length + ws.length ≤ 1000000 := by
    rw [← s6.length, ← r.length]
    exact hz
  have e2 : (vs ++ ws).length ≤ sizeLine := by
    rw [List.length_append]
    exact Nat.le_trans hl' (by decide)
  refine ⟨l, q, vs, ws, rfl, rfl, af.1 l _ s2 nsp, ep, Nat.le_trans hl' (by decide), ?_⟩
  refine qq.nx _ _ M _ hN (s7.put hi (st.n0 eo) eo s1 s3 s4 e2 ((st.rpL af s6).append r')) ⟨fun b o n e => ?_, fun b m => .inl m⟩
  rw [upd_ne fun z => n (by rw [z]; exact s3)]
  exact st.keepR af b o n e
theorem z_aug {pp : Pos} (G : Gd Γ X k T lv) (hs : stoB k i n = true) (hc : chkE k e y = true) (hp : isPeek e = false) (h0 : (!(k.spn && decide (i = 0))) = true) : PS X (.AugAssign (.Name n pp) .Add y pos) (tS Γ T (.aug i e)) := by
  obtain ⟨e1, e2, e3⟩ := G.sto hs
  refine (ps_aug G.nd e1 e2 (s_E e G y hc).1 ip_add e3).wk fun E σ H ⟨M, ρ, N, st, ⟨m, eo, w⟩, qq⟩ => ?_
  obtain ⟨v, ev, rv⟩ := st.val i _ (getV_eq eo)
  refine ⟨v, ev, M, ρ, _, st, w, fun d u H1 ⟨j, ej, hN⟩ af r => ?_⟩
  subst ej
  rw [hp] at r
  cases rv
  rw [r.w.int]
  exact ⟨m, j, rfl, rfl, qq.nx _ _ M H1 hN ((st.aft af).setV (d := .int (m + j)) (.int _) (G.lt hs) (h0_of G h0)) (st.lk af)⟩
theorem sub_sw {z : Expr} {n : Str} {p ap : Pos} {y : Expr} {env : PySem.Env} {l : Nat} : swapsWith z (some (.Subscript (.Name n p) y ap)) l env = pure false := by
  cases z <;> rfl
theorem z_setIx (G : Gd Γ X k T lv) {z : Expr} (hv : visB k i n = true) (h1 : chkE k q y = true) (hc : chkE k e z = true) (hp : isPeek e = false) (h2 : isSlc y = false) : PS X (.Assign [.Subscript (.Name n p) y ap] z pos) (tS Γ T (.setIx i q e)) := by
  obtain ⟨v1, v2, v3, v4⟩ := G.vis hv
  have hi := vis_lt G hv
  refine (ps_asg (s_E e G z hc).1 (pg_sub (pe_var v1 v2 v3 v4) (s_E q G y h1).1 set_list (by cases y <;> first | (intro _; rfl) | cases h2)) (by exact (show swapsWith z (some (.Subscript (.Name n p) y ap)) pos.line X.env = pure false from sub_sw)) (by cases z <;> rfl) rfl).wk fun E σ H ⟨M, ρ, N, st, ⟨ds, eo, w⟩, qq⟩ => ?_
  have eo := getO_eq eo
  obtain ⟨l, vs, s1, s2, s3, s4, s5, s6⟩ := st.own i ds eo
  have nsp : Γ.sp ≠ some l := fun z => s4 (st.spm l z).1
  refine ⟨M, ρ, _, st, w, fun d v H1 w2 af r => ⟨.ref l, s1, M, ρ, _, st.aft af, w2, fun kd u H2 ⟨m, j, ek, ej, hN⟩ af2 r2 => ?_⟩⟩
  subst ek
  rw [hp] at r
  have r' := ((r.aft (st.aft af) af2).1 : Rp Γ.K M H2 d v)
  have af' := af.trans af2
  refine ⟨l, vs, m, j, rfl, r2.w.int, af'.1 l _ s2 nsp, by rw [← s6.length]; exact ej, ?_⟩
  refine qq.nx _ _ M _ hN ((st.aft af').put hi (st.n0 eo) eo s1 s3 s4 (by rw [List.length_set]; exact s5) ((st.rpL af' s6).set r' j)) ⟨fun b o n e => ?_, fun b m => .inl m⟩
  rw [upd_ne fun z => n (by rw [z]; exact s3)]
  exact st.keepR af' b o n e
theorem z_ret (G : Gd Γ X k T lv) (hc : chkE k e x = true) (hp : isPeek e = false) (hf : (!k.fr || isFresh e) = true) : PS X (.Return (some x) pos) (tS Γ T (.ret e)) := by
  by_cases fr : Γ.fr = true
  · have fe : isFresh e = true := by
      rw [← G.fr, fr] at hf
      simpa using hf
    refine (ps_ret ((s_E e G x hc).2.2 fe)).wk fun E σ H ⟨M, ρ, N, st, w, q⟩ => ⟨M, ρ, _, st, w, fun ds l vs H1 hN af np e1 z r => ?_⟩
    have r0 : RpL Γ.K Γ.M0 H1 ds vs := r.anti fun a us _ m => .inl (st.sub a m)
    exact q.rt (.list ds) (.ref l) H1 hN ⟨fun b o e n => (st.aft af).ext b o e n, af.2⟩ (.lst e1 (st.m0 np) z r0) fun _ => ⟨l, vs, ds, rfl, rfl, st.old0 np, e1, r0⟩
  · refine (ps_ret (s_E e G x hc).1).wk fun E σ H ⟨M, ρ, N, st, w, q⟩ => ⟨M, ρ, _, st, w, fun d v H1 hN af r => ?_⟩
    rw [hp] at r
    exact q.rt d v H1 hN ⟨fun b o e n => (st.aft af).ext b o e n, af.2⟩ (Rp.anti (fun a vs _ m => st.sub a m) r.1) fun z => absurd z fr
/-! ### the spring's numbers -/
theorem SpH.put {sp : Option Addr} {H : Hp} {a : Addr} (s : SpH sp H) (e : sp = some a) {c : Nat} (hc : c < 3) {n : Int} (hn : sprI c n) : ∃ xs : List V, H a = some (.lst xs) ∧ ixN xs.length (c : Int) = some c ∧ SpH sp (upd H a (.lst (xs.set c (.int n)))) := by
  obtain ⟨x, y, z, h, hx, hy, hy2, hz⟩ := s a e
  refine ⟨_, h, ?_, fun b eb => ?_⟩
  · match c, hc with
    | 0, _ => rfl
    | 1, _ => rfl
    | 2, _ => rfl
  · rw [e] at eb
    cases eb
    match c, hc, hn with
    | 0, _, hn => exact ⟨n, y, z, upd_same, hn, hy, hy2, hz⟩
    | 1, _, hn => exact ⟨x, n, z, upd_same, hx, hn.1, hn.2, hz⟩
    | 2, _, hn => exact ⟨x, y, n, upd_same, hx, hy, hy2, hn⟩
theorem z_sprS (G : Gd Γ X k T lv) {cc j' : Nat} {j : Int} {p2 : Pos} {z : Expr} (hs : k.spn = true) (hv : visB k 0 n = true) (hj : j = (cc : Int)) (hcc : cc < 3) (hc : chkE k e z = true) (hp : isPeek e = false) (h3 : isComp z = false) : PS X (.Assign [.Subscript (.Name n p) (.Constant (.int j) j' p2) ap] z pos) (tS Γ T (.sprS cc e)) := by
  obtain ⟨s, es'⟩ := G.spn hs
  obtain ⟨v1, v2, v3, v4⟩ := G.vis hv
  subst hj
  refine (ps_asg (s_E e G z hc).1 (pg_sub (pe_var v1 v2 v3 v4) pe_int set_list (fun _ => rfl)) (by exact (show swapsWith z (some (.Subscript (.Name n p) (.Constant (.int (cc : Int)) j' p2) ap)) pos.line X.env = pure false from not_comp h3)) (by cases z <;> rfl) rfl).wk fun E σ H ⟨M, ρ, N, st, w, qq⟩ => ⟨M, ρ, _, st, w, fun d v H1 ⟨m, ed, hm, hN⟩ af r => ?_⟩
  subst ed
  obtain ⟨xs, h1, h2, h3⟩ := af.2.put es' hcc hm
  refine ⟨.ref s, (st.spm s es').2.1, s, xs, (cc : Int), cc, rfl, rfl, h1, h2, ?_⟩
  rw [r.w.int]
  have af2 : Aft Γ.sp H1 (upd H1 s (.lst (xs.set cc (.int m)))) := ⟨fun b o e n => by
    rw [upd_ne fun w => n (by rw [es', w])]
    exact e, h3⟩
  exact qq.nx _ _ M _ hN (st.aft (af.trans af2)) (st.lk (af.trans af2))
theorem z_sprD (G : Gd Γ X k T lv) {j' j2 : Nat} {y' : Str} {w : Expr} {kt : Nat} {p2 p3 p4 p5 p6 p7 pt : Pos} {f : Str} (hs : k.spn = true) (hv : visB k 0 n = true) (hy : stoB k i y' = true) (hf : bltB k f "divmod" = true) (hc : chkE k e w = true) (hp : isPeek e = false) (h0 : i ≠ 0) :
    PS X (.Assign [.Tuple [.Subscript (.Name n p) (.Constant (.int 0) j' p2) ap, .Name y' p3] kt pt] (.Call (.Name f p4) [.Subscript (.Name n p5) (.Constant (.int 0) j2 p6) p7, w] [] cp) pos) (tS Γ T (.sprD i e)) := by
  obtain ⟨s, es'⟩ := G.spn hs
  obtain ⟨v1, v2, v3, v4⟩ := G.vis hv
  obtain ⟨rfl, g⟩ := G.blt hf
  obtain ⟨n1, n2, n3⟩ := G.sto hy
  have ns := chkE_star hc
  have pa := pa_cons (pe_ix (pos := p7) ix_list (pe_var (pos := p5) v1 v2 v3 v4) (pe_int (i := 0) (j := j2) (pos := p6)) (fun _ _ => rfl)) (pa_cons (s_E e G w hc).1 pa_nil (star_cons ns)) (star_cons rfl)
  have an2 : (backTo cp (starEach [w] X.env)).any (·.1) = false := star_any (pos := cp) (env := X.env) (xs := [w]) fun z hz => by
    cases hz with
    | head => exact ns
    | tail _ hz => cases hz
  have pc := pe_callB (pos := cp) (p := p4) call_divmod g (G.bt _ (by simp [blts])) boot_divmod pa (by decide) (by decide) (star_cons rfl) an2
  refine (ps_asg pc (pg_tup (n := 2) G.calm (pgs_cons (pg_sub (pos := ap) (pe_var (pos := p) v1 v2 v3 v4) (pe_int (i := 0) (j := j') (pos := p2)) set_list (fun _ => rfl)) (pgs_cons (pg_name (pos := p3) G.nd n1 n2 n3) pgs_nil rfl) rfl) rfl rfl) rfl rfl rfl).wk fun E σ H ⟨M, ρ, N, st, ww, qq⟩ => ?_
  obtain ⟨xs0, m0, h1, l0, h2, h3⟩ := st.sph.get es' (c := 0) (by decide)
  refine ⟨.ref s, (st.spm s es').2.1, s, xs0, 0, .int m0, rfl, rfl, .inl (.inl h1), h2, M, ρ, _, st, ww, fun d v H1 ⟨m, ed, hm, hN⟩ af r => ?_⟩
  subst ed
  have hr0 : 0 ≤ m0 % m := Int.emod_nonneg _ (by omega)
  have hr1 : m0 % m < m := Int.emod_lt_of_pos _ hm.1
  have hq0 : sprI 0 (m0 / m) := Int.ediv_nonneg h3 (Int.le_of_lt hm.1)
  refine ⟨m0, m, by rw [r.w.int], ⟨hm.1, hm.2⟩, fun l np => ?_⟩
  have gr : Grow H1 (upd H1 l (.tup [.int (m0 / m), .int (m0 % m)])) := Grow.new np
  have af2 := af.grow gr
  obtain ⟨xs, a1, a2, a3⟩ := af2.2.put es' (c := 0) (by decide) hq0
  refine ⟨l, [.int (m0 / m), .int (m0 % m)], rfl, .inl (.inl upd_same), rfl, _, _, rfl, .ref s, (st.spm s es').2.1, s, xs, 0, 0, rfl, rfl, a1, a2, _, _, rfl, rfl, ?_⟩
  have af3 : Aft Γ.sp (upd H1 l (.tup [.int (m0 / m), .int (m0 % m)])) (upd (upd H1 l (.tup [.int (m0 / m), .int (m0 % m)])) s (.lst (xs.set 0 (.int (m0 / m))))) := ⟨fun b o e n => by
    rw [upd_ne fun w => n (by rw [es', w])]
    exact e, a3⟩
  exact qq.nx _ _ M _ (hN _ hr0 hr1) ((st.aft (af2.trans af3)).setV (d := .int (m0 % m)) (.int _) (G.lt hy) fun _ => h0) (st.lk (af2.trans af3))
theorem z_expr (G : Gd Γ X k T lv) (hc : chkE k e x = true) (h3 : isComp x = false) : PS X (.Expr x pos) (tS Γ T (.expr e)) :=
  (ps_expr (s_E e G x hc).1 (not_comp h3)).wk fun E σ H ⟨M, ρ, N, st, w, q⟩ => ⟨M, ρ, _, st, w, fun d v H1 hN af r => q.nx _ _ M H1 hN (st.aft af) (st.lk af)⟩
theorem z_if (G : Gd Γ X k T lv) {a b : SL} {as bs : List Stmt} (hc : chkE k e x = true) (hi : isIf x = false) (h1 : PSs X as (tSs Γ T a)) (h2 : PSs X bs (tSs Γ T b)) : PS X (.If x as bs pos) (tS Γ T (.ifs e a b)) :=
  (ps_if ((s_E e G x hc).2.1 hi) h1 h2).wk fun E σ H ⟨M, ρ, N, st, w, q⟩ => ⟨M, ρ, _, st, w, fun d H1 ⟨c, ec, hN⟩ af => by
    refine ⟨c, ec, ?_⟩
    cases c with
    | true =>
      simp only [if_true]
      exact ⟨M, ρ, N, st.aft af, hN, q.on (st.lk af)⟩
    | false =>
      simp only [Bool.false_eq_true, if_false]
      exact ⟨M, ρ, N, st.aft af, hN, q.on (st.lk af)⟩⟩
theorem z_for (G : Gd Γ X k T lv) {t : Tg} {s : Src} {b : SL} {tg iter : Expr} {body : List Stmt} (hs : chkS k s tg iter = true) (ht : chkTg k t tg = true) (hset : isSet iter = false) (h0 : (!k.spn || no0 t) = true) (hb : PSs X body (tSs Γ T b)) : PS X (.For tg iter body [] pos) (tS Γ T (.fo t s b)) := by
  have h0' : Γ.sp ≠ none → no0 t = true := fun z => by
    cases e : k.spn with
    | false => exact absurd (G.spf e) z
    | true =>
      rw [e] at h0
      simpa using h0
  refine (ps_for (by rw [G.xe]; exact PassesOwn.never) G.calm (s_S s G tg iter hs) (s_tg G t tg ht h0' _ (chkS_weak hs)) hb (fold_no hset)).wk fun E σ H ⟨M, ρ, N, st, w, q⟩ => ⟨M, ρ, _, st, w, fun items J H1 hw af sw => ?_⟩
  refine ⟨fun i m σ' H' => m = items.length - i ∧ i ≤ items.length ∧ ∃ M' ρ', StOk Γ M' H' σ' ρ' ∧ LK M H1 M' H' ∧ forW (fun d ρ k => asgW t d ρ k) (fun ρ N => wpSs T b ρ N) (items.drop i) ρ' N, ⟨_, rfl, Nat.zero_le _, M, ρ, st.aft af, LK.refl, hw⟩, ?_⟩
  rintro i m σ' H' ⟨rfl, hi, M', ρ', st', lk, fw⟩
  by_cases hlt : i < items.length
  · refine .inr ⟨sw.goes i H' hlt lk.h, fun σ2 H2 => ∃ m', m' < items.length - i ∧ m' = items.length - (i + 1) ∧ i + 1 ≤ items.length ∧ ∃ M' ρ', StOk Γ M' H2 σ2 ρ' ∧ LK M H1 M' H2 ∧ forW (fun d ρ k => asgW t d ρ k) (fun ρ N => wpSs T b ρ N) (items.drop (i + 1)) ρ' N, fun σ2 H2 z => z, fun x H2 y => ?_⟩
    obtain ⟨g, f⟩ := sw.yields i H' x H2 hlt lk.h y
    obtain ⟨d, e1, rx⟩ := f M' lk.m
    rw [drop_get e1] at fw
    have ag := Aft.of st'.sph g
    refine ⟨M', d, ρ', _, st'.aft ag, rx, fw, fun ρ1 σ1 hb1 st1 _ => ⟨M', ρ1, _, st1, hb1, ?_, ?_, ?_, ?_⟩⟩
    · intro ρ2 σ2 M2 H3 hf st2 l2
      exact ⟨_, by omega, rfl, hlt, M2, ρ2, st2, (lk.trans (st'.lk ag)).trans l2, hf⟩
    · intro ρ2 σ2 M2 H3 hf st2 l2
      exact q.nx ρ2 σ2 M2 H3 hf st2 ((st.lk af).trans ((lk.trans (st'.lk ag)).trans l2))
    · intro ρ2 σ2 M2 H3 hf st2 l2
      exact ⟨_, by omega, rfl, hlt, M2, ρ2, st2, (lk.trans (st'.lk ag)).trans l2, hf⟩
    · exact q.rt
  · have e : i = items.length := by omega
    subst e
    rw [List.drop_length] at fw
    exact .inl ⟨sw.stops H' lk.h, q.nx ρ' σ' M' H' fw st' ((st.lk af).trans lk)⟩
theorem z_while (G : Gd Γ X k T lv) {b : SL} {body : List Stmt} (hc : chkE k e x = true) (hi : isIf x = false) (hb : PSs X body (tSs Γ T b)) : PS X (.While x body [] pos) (tS Γ T (.wh e b)) := by
  refine (ps_while (by rw [G.xe]; exact PassesOwn.never) ((s_E e G x hc).2.1 hi) hb).wk fun E σ H ⟨M, ρ, N, st, ⟨n, w⟩, q⟩ => ?_
  refine ⟨fun m σ' H' => ∃ M' ρ', StOk Γ M' H' σ' ρ' ∧ LK M H M' H' ∧ whileW (fun ρ k => wpE T e ρ fun x => ∃ t, tru x = some t ∧ k t) (fun ρ N => wpSs T b ρ N) m ρ' N, ⟨n, M, ρ, st, LK.refl, w⟩, ?_⟩
  rintro m σ' H' ⟨M', ρ', st', lk, fw⟩
  cases m with
  | zero => exact fw.elim
  | succ m =>
    refine ⟨M', ρ', _, st', fw, fun d H2 ⟨c, ec, hN⟩ af => ⟨c, ec, ?_⟩⟩
    cases c with
    | false =>
      simp only [Bool.false_eq_true, if_false]
      exact q.nx ρ' σ' M' H2 hN (st'.aft af) (lk.trans (st'.lk af))
    | true =>
      simp only [if_true]
      refine ⟨fun σ2 H2 => ∃ m', m' < m + 1 ∧ ∃ M' ρ', StOk Γ M' H2 σ2 ρ' ∧ LK M H M' H2 ∧ whileW (fun ρ k => wpE T e ρ fun x => ∃ t, tru x = some t ∧ k t) (fun ρ N => wpSs T b ρ N) m' ρ' N, fun σ2 H2 z => z, M', ρ', _, st'.aft af, hN, ?_, ?_, ?_, ?_⟩
      · intro ρ2 σ2 M2 H3 hf st2 l2
        exact ⟨m, Nat.lt_succ_self _, M2, ρ2, st2, (lk.trans (st'.lk af)).trans l2, hf⟩
      · intro ρ2 σ2 M2 H3 hf st2 l2
        exact q.nx ρ2 σ2 M2 H3 hf st2 ((lk.trans (st'.lk af)).trans l2)
      · intro ρ2 σ2 M2 H3 hf st2 l2
        exact ⟨m, Nat.lt_succ_self _, M2, ρ2, st2, (lk.trans (st'.lk af)).trans l2, hf⟩
      · exact q.rt
theorem zz_nil {xs : List Stmt} (h : xs.isEmpty = true) : PSs X xs (tSs Γ T .nil) := by
  cases xs with
  | nil => exact pss_nil.wk fun E σ H ⟨M, ρ, N, st, w, q⟩ => q.nx ρ σ M H w st LK.refl
  | cons => cases h
theorem zz_cons {s : S} {ss : SL} {a : Stmt} {xs : List Stmt} (h1 : PS X a (tS Γ T s)) (h2 : PSs X xs (tSs Γ T ss)) : PSs X (a :: xs) (tSs Γ T (.cons s ss)) :=
  (pss_cons h1 h2).wk fun E σ H ⟨M, ρ, N, st, w, q⟩ => ⟨M, ρ, _, st, w, fun ρ1 σ1 M1 H1 hw st1 lk => ⟨M1, ρ1, N, st1, hw, q.on lk⟩, q.bk, q.ct, q.rt⟩
theorem zz_frz {ss : SL} {xs : List Stmt} (h2 : PSs X xs (tSs Γ T ss)) : PSs X xs (tSs Γ T (.cons (.frz i) ss)) :=
  h2.wk fun E σ H ⟨M, ρ, N, st, ⟨ds, eo, w⟩, q⟩ => by
    obtain ⟨M', st', lk⟩ := st.frz (getO_eq eo)
    exact ⟨M', _, N, st', w, q.on lk⟩
end
theorem chkSs_cons {k : Ck} {s : S} {ss : SL} {a : Stmt} {xs : List Stmt} (h : chkSs k (.cons s ss) (a :: xs) = true) (n : ∀ i, s ≠ .frz i) : chkSt k s a = true ∧ chkSs k ss xs = true := by
  cases s <;> first | exact an (by simpa only [chkSs] using h) | exact absurd rfl (n _)
theorem chkSs_nil {k : Ck} {s : S} {ss : SL} (h : chkSs k (.cons s ss) [] = true) (n : ∀ i, s ≠ .frz i) : False := by
  cases s <;> first | exact absurd rfl (n _) | (simp [chkSs] at h)
mutual
theorem z_S : (s : S) → ∀ {Γ : Cn} {X : Cx} {k : Ck} {T : Tb} {lv : Nat}, Gd Γ X k T lv → ∀ x, chkSt k s x = true → PS X x (tS Γ T s)
  | .set i e, Γ, X, k, T, lv, G, x, h => by
    have key : ∃ y py v pos, x = .Assign [.Name y py] v pos ∧ (stoB k i y && (chkE k e v && (!isPeek e && (setK k y py v && !(k.spn && decide (i = 0)))))) = true := by
      (unfold chkSt at h; split at h <;> first | (rename_i e1; cases e1; done) | skip; all_goals first | (rename_i e1 e2; cases e1; cases e2; (exact ⟨_, _, _, _, rfl, h⟩)) | (cases h; done) | skip)
    clear h
    obtain ⟨y, py, v, pos, rfl, h⟩ := key
    obtain ⟨h1, h⟩ := an h
    obtain ⟨h2, h⟩ := an h
    obtain ⟨h3, h⟩ := an h
    obtain ⟨h4, h5⟩ := an h
    exact z_set G h1 h2 (nt h3) h4 h5
  | .own i e, Γ, X, k, T, lv, G, x, h => by
    have key : ∃ y py v pos, x = .Assign [.Name y py] v pos ∧ (stoB k i y && (chkE k e v && (isFresh e && (setK k y py v && !(k.spn && decide (i = 0)))))) = true := by
      (unfold chkSt at h; split at h <;> first | (rename_i e1; cases e1; done) | skip; all_goals first | (rename_i e1 e2; cases e1; cases e2; (exact ⟨_, _, _, _, rfl, h⟩)) | (cases h; done) | skip)
    clear h
    obtain ⟨y, py, v, pos, rfl, h⟩ := key
    obtain ⟨h1, h⟩ := an h
    obtain ⟨h2, h⟩ := an h
    obtain ⟨h3, h⟩ := an h
    obtain ⟨h4, h5⟩ := an h
    exact z_own G h1 h2 h3 h4 h5
  | .asg t e, Γ, X, k, T, lv, G, x, h => by
    have key : ∃ ts q p v pos, x = .Assign [.Tuple ts q p] v pos ∧ (chkTg k t (.Tuple ts q p) && (chkE k e v && (!isPeek e && (!isTup v && (!isComp v && (!k.spn || no0 t)))))) = true := by
      (unfold chkSt at h; split at h <;> first | (rename_i e1; cases e1; done) | skip; all_goals first | (rename_i e1 e2; cases e1; cases e2; (exact ⟨_, _, _, _, _, rfl, h⟩)) | (cases h; done) | skip)
    clear h
    obtain ⟨ts, q, p, v, pos, rfl, h⟩ := key
    obtain ⟨h1, h⟩ := an h
    obtain ⟨h2, h⟩ := an h
    obtain ⟨h3, h⟩ := an h
    obtain ⟨h4, h⟩ := an h
    obtain ⟨h5, h6⟩ := an h
    exact z_asg G h1 h2 (nt h3) (nt h4) (nt h5) h6
  | .par is es, Γ, X, k, T, lv, G, x, h => by
    have key : ∃ ts q p xs q2 p2 pos, x = .Assign [.Tuple ts q p] (.Tuple xs q2 p2) pos ∧ (match namesOf ts with
        | none => false
        | some ns => chkL k es xs && (noPeeks es && (parN k is ns && (parO is es && (decide ((is.map (·.1)).Nodup) && (decide (is.length = xs.length ∧ xs.length ≤ 1000) && (decide ((is.filter (·.2)).length ≤ 9) && ((!k.spn || !(is.map (·.1)).contains 0) && (swapsY k ns xs || swapsN k ns xs))))))))) = true := by
      (unfold chkSt at h; split at h <;> first | (rename_i e1; cases e1; done) | skip; all_goals first | (rename_i e1 e2; cases e1; cases e2; (exact ⟨_, _, _, _, _, _, _, rfl, h⟩)) | (cases h; done) | skip)
    clear h
    obtain ⟨ts, q, p, xs, q2, p2, pos, rfl, h⟩ := key
    cases en : namesOf ts with
    | none =>
      rw [en] at h
      cases h
    | some ns =>
      rw [en] at h
      obtain rfl := namesOf_ts en
      obtain ⟨h1, h⟩ := an h
      obtain ⟨h2, h⟩ := an h
      obtain ⟨h3, h⟩ := an h
      obtain ⟨h4, h⟩ := an h
      obtain ⟨h5, h⟩ := an h
      obtain ⟨h6, h⟩ := an h
      obtain ⟨h7, h⟩ := an h
      obtain ⟨h8, h9⟩ := an h
      obtain ⟨l1, l2⟩ := of_decide_eq_true h6
      exact z_par G h1 h2 h3 h4 (of_decide_eq_true h5) l1 l2 (of_decide_eq_true h7) h8 h9
  | .app i e, Γ, X, k, T, lv, G, x, h => by
    have key : ∃ n p m ap xs cp pos, x = .Expr (.Call (.Attribute (.Name n p) m ap) xs [] cp) pos ∧ (match xs with
        | [y] => visB k i n && (decide (m = ("append" : Str)) && (chkE k e y && (!isPeek e && (ap.endLine == cp.line))))
        | _ => false) = true := by
      (unfold chkSt at h; split at h <;> first | (rename_i e1; cases e1; done) | skip; all_goals first | (rename_i e1 e2; cases e1; cases e2; (exact ⟨_, _, _, _, _, _, _, rfl, h⟩)) | (cases h; done) | skip)
    clear h
    obtain ⟨n, p, m, ap, xs, cp, pos, rfl, h⟩ := key
    match xs, h with
    | [y], h =>
      obtain ⟨h1, h⟩ := an h
      obtain ⟨h2, h⟩ := an h
      obtain ⟨h3, h⟩ := an h
      obtain ⟨h4, h5⟩ := an h
      obtain rfl := of_decide_eq_true h2
      exact z_app G h1 h3 (nt h4) h5
  | .ext i e, Γ, X, k, T, lv, G, x, h => by
    have key : ∃ n p m ap xs cp pos, x = .Expr (.Call (.Attribute (.Name n p) m ap) xs [] cp) pos ∧ (match xs with
        | [y] => visB k i n && (decide (m = ("extend" : Str)) && (chkE k e y && (isFresh e && (!isPeek e && (ap.endLine == cp.line)))))
        | _ => false) = true := by
      (unfold chkSt at h; split at h <;> first | (rename_i e1; cases e1; done) | skip; all_goals first | (rename_i e1 e2; cases e1; cases e2; (exact ⟨_, _, _, _, _, _, _, rfl, h⟩)) | (cases h; done) | skip)
    clear h
    obtain ⟨n, p, m, ap, xs, cp, pos, rfl, h⟩ := key
    match xs, h with
    | [y], h =>
      obtain ⟨h1, h⟩ := an h
      obtain ⟨h2, h⟩ := an h
      obtain ⟨h3, h⟩ := an h
      obtain ⟨h4, h⟩ := an h
      obtain ⟨h5, h6⟩ := an h
      obtain rfl := of_decide_eq_true h2
      exact z_ext G h1 h3 h4 h6
  | .aug i e, Γ, X, k, T, lv, G, x, h => by
    have key : ∃ n p y pos, x = .AugAssign (.Name n p) .Add y pos ∧ (stoB k i n && (visB k i n && (chkE k e y && (!isPeek e && !(k.spn && decide (i = 0)))))) = true := by
      (unfold chkSt at h; split at h <;> first | (rename_i e1; cases e1; done) | skip; all_goals first | (rename_i e1 e2; cases e1; cases e2; (exact ⟨_, _, _, _, rfl, h⟩)) | (cases h; done) | skip)
    clear h
    obtain ⟨n, p, y, pos, rfl, h⟩ := key
    obtain ⟨h1, h⟩ := an h
    obtain ⟨h2, h⟩ := an h
    obtain ⟨h3, h⟩ := an h
    obtain ⟨h4, h5⟩ := an h
    exact z_aug G h1 h3 (nt h4) h5
  | .setIx i q e, Γ, X, k, T, lv, G, x, h => by
    have key : ∃ n p y ap v pos, x = .Assign [.Subscript (.Name n p) y ap] v pos ∧ (visB k i n && (chkE k q y && (chkE k e v && (!isPeek e && !isSlc y)))) = true := by
      (unfold chkSt at h; split at h <;> first | (rename_i e1; cases e1; done) | skip; all_goals first | (rename_i e1 e2; cases e1; cases e2; (exact ⟨_, _, _, _, _, _, rfl, h⟩)) | (cases h; done) | skip)
    clear h
    obtain ⟨n, p, y, ap, v, pos, rfl, h⟩ := key
    obtain ⟨h1, h⟩ := an h
    obtain ⟨h2, h⟩ := an h
    obtain ⟨h3, h⟩ := an h
    obtain ⟨h4, h5⟩ := an h
    exact z_setIx G h1 h2 h3 (nt h4) (nt h5)
  | .ret e, Γ, X, k, T, lv, G, x, h => by
    have key : ∃ v pos, x = .Return (some v) pos ∧ (chkE k e v && (!isPeek e && (!k.fr || isFresh e))) = true := by
      (unfold chkSt at h; split at h <;> first | (rename_i e1; cases e1; done) | skip; all_goals first | (rename_i e1 e2; cases e1; cases e2; (exact ⟨_, _, rfl, h⟩)) | (cases h; done) | skip)
    clear h
    obtain ⟨v, pos, rfl, h⟩ := key
    obtain ⟨h1, h⟩ := an h
    obtain ⟨h2, h3⟩ := an h
    exact z_ret G h1 (nt h2) h3
  | .ifs c a b, Γ, X, k, T, lv, G, x, h => by
    have key : ∃ t as bs pos, x = .If t as bs pos ∧ (chkE k c t && (!isIf t && (chkSs k a as && chkSs k b bs))) = true := by
      (unfold chkSt at h; split at h <;> first | (rename_i e1; cases e1; done) | skip; all_goals first | (rename_i e1 e2; cases e1; cases e2; (exact ⟨_, _, _, _, rfl, h⟩)) | (cases h; done) | skip)
    clear h
    obtain ⟨t, as, bs, pos, rfl, h⟩ := key
    obtain ⟨h1, h⟩ := an h
    obtain ⟨h2, h⟩ := an h
    obtain ⟨h3, h4⟩ := an h
    exact z_if G h1 (nt h2) (z_Ss a G as h3) (z_Ss b G bs h4)
  | .fo t s b, Γ, X, k, T, lv, G, x, h => by
    have key : ∃ tg iter body pos, x = .For tg iter body [] pos ∧ (chkS k s tg iter && (chkTg k t tg && (chkSs k b body && (!isSet iter && (!k.spn || no0 t))))) = true := by
      (unfold chkSt at h; split at h <;> first | (rename_i e1; cases e1; done) | skip; all_goals first | (rename_i e1 e2; cases e1; cases e2; (exact ⟨_, _, _, _, rfl, h⟩)) | (cases h; done) | skip)
    clear h
    obtain ⟨tg, iter, body, pos, rfl, h⟩ := key
    obtain ⟨h1, h⟩ := an h
    obtain ⟨h2, h⟩ := an h
    obtain ⟨h3, h⟩ := an h
    obtain ⟨h4, h5⟩ := an h
    exact z_for G h1 h2 (nt h4) h5 (z_Ss b G body h3)
  | .wh c b, Γ, X, k, T, lv, G, x, h => by
    have key : ∃ t body pos, x = .While t body [] pos ∧ (chkE k c t && (!isIf t && chkSs k b body)) = true := by
      (unfold chkSt at h; split at h <;> first | (rename_i e1; cases e1; done) | skip; all_goals first | (rename_i e1 e2; cases e1; cases e2; (exact ⟨_, _, _, rfl, h⟩)) | (cases h; done) | skip)
    clear h
    obtain ⟨t, body, pos, rfl, h⟩ := key
    obtain ⟨h1, h⟩ := an h
    obtain ⟨h2, h3⟩ := an h
    exact z_while G h1 (nt h2) (z_Ss b G body h3)
  | .brk, Γ, X, k, T, lv, G, x, h => by
    have key : ∃ pos, x = .Break pos := by
      (unfold chkSt at h; split at h <;> first | (rename_i e1; cases e1; done) | skip; all_goals first | (rename_i e1 e2; cases e1; cases e2; (exact ⟨_, rfl⟩)) | (cases h; done) | skip)
    obtain ⟨pos, rfl⟩ := key
    exact ps_break.wk fun E σ H ⟨M, ρ, N, st, w, q⟩ => q.bk ρ σ M H w st LK.refl
  | .pass, Γ, X, k, T, lv, G, x, h => by
    have key : ∃ pos, x = .Pass pos := by
      (unfold chkSt at h; split at h <;> first | (rename_i e1; cases e1; done) | skip; all_goals first | (rename_i e1 e2; cases e1; cases e2; (exact ⟨_, rfl⟩)) | (cases h; done) | skip)
    obtain ⟨pos, rfl⟩ := key
    exact ps_pass.wk fun E σ H ⟨M, ρ, N, st, w, q⟩ => q.nx ρ σ M H w st LK.refl
  | .expr e, Γ, X, k, T, lv, G, x, h => by
    have key : ∃ v pos, x = .Expr v pos ∧ (chkE k e v && !isComp v) = true := by
      (unfold chkSt at h; split at h <;> first | (rename_i e1; cases e1; done) | skip; all_goals first | (rename_i e1 e2; cases e1; cases e2; (exact ⟨_, _, rfl, h⟩)) | (cases h; done) | skip)
    clear h
    obtain ⟨v, pos, rfl, h⟩ := key
    obtain ⟨h1, h2⟩ := an h
    exact z_expr G h1 (nt h2)
  | .sprS c e, Γ, X, k, T, lv, G, x, h => by
    have key : ∃ n p j j' p2 ap v pos, x = .Assign [.Subscript (.Name n p) (.Constant (.int j) j' p2) ap] v pos ∧ (k.spn && (visB k 0 n && (decide (j = (c : Int)) && (decide (c < 3) && (chkE k e v && (!isPeek e && !isComp v)))))) = true := by
      (unfold chkSt at h; split at h <;> first | (rename_i e1; cases e1; done) | skip; all_goals first | (rename_i e1 e2; cases e1; cases e2; (exact ⟨_, _, _, _, _, _, _, _, rfl, h⟩)) | (cases h; done) | skip)
    clear h
    obtain ⟨n, p, j, j', p2, ap, v, pos, rfl, h⟩ := key
    obtain ⟨h1, h⟩ := an h
    obtain ⟨h2, h⟩ := an h
    obtain ⟨h3, h⟩ := an h
    obtain ⟨h4, h⟩ := an h
    obtain ⟨h5, h⟩ := an h
    obtain ⟨h6, h7⟩ := an h
    exact z_sprS G h1 h2 (of_decide_eq_true h3) (of_decide_eq_true h4) h5 (nt h6) (nt h7)
  | .sprD i e, Γ, X, k, T, lv, G, x, h => by
    have key : ∃ ts kt pt v pos, x = .Assign [.Tuple ts kt pt] v pos ∧ (match ts, v with
        | [.Subscript (.Name x _) (.Constant (.int j) _ _) _, .Name y _], .Call (.Name f _) [.Subscript (.Name x' _) (.Constant (.int j') _ _) _, w] [] _ => k.spn && (visB k 0 x && (decide (x' = x) && (decide (j = 0) && (decide (j' = 0) && (stoB k i y && (bltB k f "divmod" && (chkE k e w && (!isPeek e && decide (i ≠ 0)))))))))
        | _, _ => false) = true := by
      (unfold chkSt at h; split at h <;> first | (rename_i e1; cases e1; done) | skip; all_goals first | (rename_i e1 e2; cases e1; cases e2; (exact ⟨_, _, _, _, _, rfl, h⟩)) | (cases h; done) | skip)
    clear h
    obtain ⟨ts, kt, pt, v, pos, rfl, h⟩ := key
    split at h
    · obtain ⟨h1, h⟩ := an h
      obtain ⟨h2, h⟩ := an h
      obtain ⟨h3, h⟩ := an h
      obtain ⟨h4, h⟩ := an h
      obtain ⟨h5, h⟩ := an h
      obtain ⟨h6, h⟩ := an h
      obtain ⟨h7, h⟩ := an h
      obtain ⟨h8, h⟩ := an h
      obtain ⟨h9, h10⟩ := an h
      obtain rfl := of_decide_eq_true h3
      obtain rfl := of_decide_eq_true h4
      obtain rfl := of_decide_eq_true h5
      exact z_sprD G h1 h2 h6 h7 h8 (nt h9) (of_decide_eq_true h10)
    · cases h
  | .never, Γ, X, k, T, lv, G, x, h => ps_never.wk fun E σ H ⟨M, ρ, N, st, w, q⟩ => w
  | .frz i, Γ, X, k, T, lv, G, x, h => by
    exfalso
    simp [chkSt] at h
theorem z_Ss : (ss : SL) → ∀ {Γ : Cn} {X : Cx} {k : Ck} {T : Tb} {lv : Nat}, Gd Γ X k T lv → ∀ xs, chkSs k ss xs = true → PSs X xs (tSs Γ T ss)
  | .nil, Γ, X, k, T, lv, G, xs, h => zz_nil (by simpa only [chkSs] using h)
  | .cons s ss, Γ, X, k, T, lv, G, xs, h => by
    by_cases hf : ∃ i, s = .frz i
    · obtain ⟨i, rfl⟩ := hf
      exact zz_frz (z_Ss ss G xs (by simpa only [chkSs] using h))
    · have hn : ∀ i, s ≠ .frz i := fun i e => hf ⟨i, e⟩
      cases xs with
      | nil => exact (chkSs_nil h hn).elim
      | cons a xs =>
        obtain ⟨h1, h2⟩ := chkSs_cons h hn
        exact zz_cons (z_S s G a h1) (z_Ss ss G xs h2)
end
end DH

/-! P20 -/
set_option Elab.async false
set_option linter.all false
set_option maxRecDepth 100000
set_option maxHeartbeats 4000000
namespace DH
open PySem PySem.Spec PyProof.Rows L2
/-! ### a def, by its core -/
structure Wd (P : Program) (w : World) (K : PySem.W.Frag) (mg : Str → Option Value) (base : Heap) (k : Ck) (T : Tb) (lv : Nat) : Prop where
  fs : ∀ j x s n, (j, x, s, n) ∈ k.F → ∃ f fd ps, mg x = some (.ref f) ∧ PySem.W.keepIn K (.ref f) = true ∧ Binds K fd ps [] ∧ FnG P w K mg base CX0 lv f fd ps (spG K s n (T.f j)) ∧ ps.length = n + (if s then 1 else 0) ∧
    ∀ ks pm, (j, ks, pm) ∈ k.W → KwOk K fd ps ks pm
  ps : ∀ g h n, (g, h, n) ∈ k.S → ∃ f fd ps, mg h = some (.ref f) ∧ PySem.W.keepIn K (.ref f) = true ∧ Binds K fd ps [] ∧ FnG P w K mg base CX0 lv f fd ps (spN K n (T.f g)) ∧ ps.length = n
  cs : ∀ j x, (j, x) ∈ k.C → ∃ v u, mg x = some u ∧ RelV v u ∧ ∀ M H, Rp K M H (T.c j) v
  bt : ∀ x, x ∈ blts → mg x = none
  mt : ∀ x, x ∈ k.mth → (x = "gcd" → mg "gcd" = some (.builtin "math.gcd")) ∧ (x = "lcm" → mg "lcm" = some (.builtin "math.lcm"))
/-! ### what a def leans on, one after another -/
def HasF (P : Program) (w : World) (K : PySem.W.Frag) (mg : Str → Option Value) (base : Heap) (W : List (Nat × List Str × List Nat)) (T : Tb) (lv : Nat) : List (Nat × Str × Bool × Nat) → Prop
  | [] => True
  | q :: r => (∃ f fd ps, mg q.2.1 = some (.ref f) ∧ PySem.W.keepIn K (.ref f) = true ∧ Binds K fd ps [] ∧ FnG P w K mg base CX0 lv f fd ps (spG K q.2.2.1 q.2.2.2 (T.f q.1)) ∧ ps.length = q.2.2.2 + (if q.2.2.1 then 1 else 0) ∧
    ∀ z ∈ W, z.1 = q.1 → KwOk K fd ps z.2.1 z.2.2) ∧ HasF P w K mg base W T lv r
def HasS (P : Program) (w : World) (K : PySem.W.Frag) (mg : Str → Option Value) (base : Heap) (T : Tb) (lv : Nat) : List (Nat × Str × Nat) → Prop
  | [] => True
  | q :: r => (∃ f fd ps, mg q.2.1 = some (.ref f) ∧ PySem.W.keepIn K (.ref f) = true ∧ Binds K fd ps [] ∧ FnG P w K mg base CX0 lv f fd ps (spN K q.2.2 (T.f q.1)) ∧ ps.length = q.2.2) ∧ HasS P w K mg base T lv r
def HasC (K : PySem.W.Frag) (mg : Str → Option Value) (T : Tb) : List (Nat × Str) → Prop
  | [] => True
  | q :: r => (∃ v u, mg q.2 = some u ∧ RelV v u ∧ ∀ M H, Rp K M H (T.c q.1) v) ∧ HasC K mg T r
def HasM (mg : Str → Option Value) : List Str → Prop
  | [] => True
  | x :: r => ((x = "gcd" → mg "gcd" = some (.builtin "math.gcd")) ∧ (x = "lcm" → mg "lcm" = some (.builtin "math.lcm"))) ∧ HasM mg r
theorem wd_of {P : Program} {w : World} {K : PySem.W.Frag} {mg : Str → Option Value} {base : Heap} {k : Ck} {T : Tb} {lv : Nat} (hF : HasF P w K mg base k.W T lv k.F) (hS : HasS P w K mg base T lv k.S) (hC : HasC K mg T k.C) (hM : HasM mg k.mth) (hb : ∀ x, x ∈ blts → mg x = none) : Wd P w K mg base k T lv where
  fs := fun j x s n h => by
    have key : ∀ l : List (Nat × Str × Bool × Nat), HasF P w K mg base k.W T lv l → (j, x, s, n) ∈ l → ∃ f fd ps, mg x = some (.ref f) ∧ PySem.W.keepIn K (.ref f) = true ∧ Binds K fd ps [] ∧ FnG P w K mg base CX0 lv f fd ps (spG K s n (T.f j)) ∧ ps.length = n + (if s then 1 else 0) ∧
        ∀ ks pm, (j, ks, pm) ∈ k.W → KwOk K fd ps ks pm := fun l => by
      induction l with
      | nil => intro _ h; cases h
      | cons q r ih =>
        intro h h2
        rcases List.mem_cons.mp h2 with e | h2
        · subst e
          obtain ⟨⟨f, fd, ps, h3, h4, h5, h6, h7, h8⟩, _⟩ := h
          exact ⟨f, fd, ps, h3, h4, h5, h6, h7, fun ks pm hm => h8 (j, ks, pm) hm rfl⟩
        · exact ih h.2 h2
    exact key k.F hF h
  ps := fun g y n h => by
    have key : ∀ l : List (Nat × Str × Nat), HasS P w K mg base T lv l → (g, y, n) ∈ l → ∃ f fd ps, mg y = some (.ref f) ∧ PySem.W.keepIn K (.ref f) = true ∧ Binds K fd ps [] ∧ FnG P w K mg base CX0 lv f fd ps (spN K n (T.f g)) ∧ ps.length = n := fun l => by
      induction l with
      | nil => intro _ h; cases h
      | cons q r ih =>
        intro h h2
        rcases List.mem_cons.mp h2 with e | h2
        · subst e
          exact h.1
        · exact ih h.2 h2
    exact key k.S hS h
  cs := fun j x h => by
    have key : ∀ l : List (Nat × Str), HasC K mg T l → (j, x) ∈ l → ∃ v u, mg x = some u ∧ RelV v u ∧ ∀ M H, Rp K M H (T.c j) v := fun l => by
      induction l with
      | nil => intro _ h; cases h
      | cons q r ih =>
        intro h h2
        rcases List.mem_cons.mp h2 with e | h2
        · subst e
          exact h.1
        · exact ih h.2 h2
    exact key k.C hC h
  bt := hb
  mt := fun x h => by
    have key : ∀ l : List Str, HasM mg l → x ∈ l → (x = "gcd" → mg "gcd" = some (.builtin "math.gcd")) ∧ (x = "lcm" → mg "lcm" = some (.builtin "math.lcm")) := fun l => by
      induction l with
      | nil => intro _ h; cases h
      | cons q r ih =>
        intro h h2
        rcases List.mem_cons.mp h2 with e | h2
        · subst e
          exact h.1
        · exact ih h.2 h2
    exact key k.mth hM h
/-- a promise by another -/
theorem fn_imp {P : Program} {w : World} {K : PySem.W.Frag} {mg : Str → Option Value} {base : Heap} {lv : Nat} {f : Addr} {fd : FuncData} {ps : List Str} {s : Bool} {n : Nat} {p p' : PSpec} (F : FnG P w K mg base CX0 lv f fd ps (spG K s n p)) (h : ∀ ds Q, ds.length = n → p' ds Q → p ds Q) : FnG P w K mg base CX0 lv f fd ps (spG K s n p') :=
  F.imp fun vs H Q E ⟨sp, M, ds, ws, Pp, hv, dl, r, m, hs, hp, post⟩ => ⟨sp, M, ds, ws, Pp, hv, dl, r, m, hs, h ds Pp dl hp, post⟩
theorem fn_impN {P : Program} {w : World} {K : PySem.W.Frag} {mg : Str → Option Value} {base : Heap} {lv : Nat} {f : Addr} {fd : FuncData} {ps : List Str} {n : Nat} {p p' : PSpec} (F : FnG P w K mg base CX0 lv f fd ps (spN K n p)) (h : ∀ ds Q, ds.length = n → p' ds Q → p ds Q) : FnG P w K mg base CX0 lv f fd ps (spN K n p') :=
  F.imp fun vs H Q E ⟨M, ds, Pp, dl, r, m, hp, post⟩ => ⟨M, ds, Pp, dl, r, m, h ds Pp dl hp, post⟩
theorem env0_len {n : Nat} {s : Bool} {ds : List D} : (env0 n s ds).length = (if s then 1 else 0) + ds.length + n := by
  unfold env0
  cases s <;> simp [Nat.add_assoc, Nat.add_comm]
theorem env0_some {n : Nat} {s : Bool} {ds : List D} {i : Nat} {x : Sl} (h : (env0 n s ds)[i]? = some (some x)) : ∃ j d, i = j + (if s then 1 else 0) ∧ ds[j]? = some d ∧ x = .val d := by
  have core : ∀ {j : Nat}, (ds.map (fun d => some (Sl.val d)) ++ List.replicate n none)[j]? = some (some x) → ∃ d, ds[j]? = some d ∧ x = .val d := fun {j} h => by
    by_cases hj : j < ds.length
    · rw [List.getElem?_append_left (by simpa using hj), List.getElem?_map, List.getElem?_eq_getElem hj] at h
      cases h
      exact ⟨_, List.getElem?_eq_getElem hj, rfl⟩
    · rw [List.getElem?_append_right (by simpa using hj), List.getElem?_replicate] at h
      split at h <;> cases h
  unfold env0 at h
  rw [List.append_assoc] at h
  cases s with
  | false =>
    obtain ⟨d, e1, e2⟩ := core (j := i) (by simpa using h)
    exact ⟨i, d, rfl, e1, e2⟩
  | true =>
    cases i with
    | zero => simp at h
    | succ i =>
      obtain ⟨d, e1, e2⟩ := core (j := i) (by simpa using h)
      exact ⟨i, d, rfl, e1, e2⟩
theorem start_at {N : List Str} {vs : List V} {j : Nat} {v : V} (h : vs[j]? = some v) : (L2.start N vs)[j]? = some (some v) := by
  unfold L2.start
  rw [List.getElem?_append_left (by simpa using (List.getElem?_eq_some_iff.mp h).1), List.getElem?_map, h]
  rfl
theorem start_ok {K : PySem.W.Frag} {N : List Str} {s : Bool} {sp : Option Addr} {M : Addr → Prop} {H : Hp} {ds : List D} {vs ws : List V} (hv : match s with
    | true => ∃ a, sp = some a ∧ M a ∧ vs = .ref a :: ws
    | false => sp = none ∧ vs = ws) (r : RpL K M H ds ws) (m : MOk M H) (hs : SpH sp H) (hl : vs.length ≤ N.length) :
    StOk ⟨K, N.length, sp, M, H, false⟩ M H (L2.start N vs) (env0 (N.length - vs.length) s ds) := by
  have rl := r.length
  have vl : vs.length = (if s then 1 else 0) + ds.length := by
    cases s with
    | true =>
      obtain ⟨a, _, _, rfl⟩ := hv
      simp [rl, Nat.add_comm]
    | false =>
      obtain ⟨_, rfl⟩ := hv
      simp [rl]
  have sl : (L2.start N vs).length = N.length := by
    unfold L2.start
    rw [List.length_append, List.length_map, List.length_replicate]
    omega
  refine ⟨by rw [sl, env0_len]; show _ = N.length; rw [← vl]; omega, sl, fun i d h => ?_, fun i ds' h => ?_, fun i j di dj q hne h1 h2 h3 => ?_, fun b m => m, m, fun b o e _ => e, fun a e => ?_, hs, fun b m n => absurd m n⟩
  · obtain ⟨j, d', e1, e2, e3⟩ := env0_some h
    cases e3
    obtain ⟨hj, e2'⟩ := List.getElem?_eq_some_iff.mp e2
    have hw : j < ws.length := by rw [← rl]; exact hj
    obtain ⟨d2, e4, e5⟩ := r.getV (List.getElem?_eq_getElem hw)
    rw [e2] at e4
    cases e4
    refine ⟨ws[j], ?_, e5⟩
    apply start_at
    cases s with
    | true =>
      obtain ⟨a, _, _, rfl⟩ := hv
      subst e1
      simpa using List.getElem?_eq_getElem hw
    | false =>
      obtain ⟨_, rfl⟩ := hv
      subst e1
      simpa using List.getElem?_eq_getElem hw
  · obtain ⟨j, d', e1, e2, e3⟩ := env0_some h
    cases e3
  · obtain ⟨j, d', e1, e2, e3⟩ := env0_some h1
    cases e3
  · cases s with
    | true =>
      obtain ⟨a', e1, m', rfl⟩ := hv
      have e : sp = some a := e
      rw [e1] at e
      cases e
      exact ⟨m', start_at (j := 0) rfl, rfl⟩
    | false =>
      have e : sp = some a := e
      rw [hv.1] at e
      cases e
theorem fn_def {P : Program} {w : World} {K : PySem.W.Frag} {mg : Str → Option Value} {base : Heap} {k : Ck} {T : Tb} {lv : Nat} {x qual : Str} {params : Arguments} {body : List Stmt} {f : Addr} {fd : FuncData} {ps : List Str} {n : Nat} {b : SL}
    (F : FunD K x qual params body k.sc [] [] f fd) (S : FnScope k.N ps k.sc) (hl : ps.length = n + (if k.spn then 1 else 0)) (W : Wd P w K mg base k T lv) (hfr : k.fr = false) (hc : chkSs k b body = true) :
    FnG P w K mg base CX0 (lv + 1) f fd ps (spG K k.spn n (bodyW T (k.N.length - ps.length) k.spn b)) := by
  have len : ∀ vs H Q E, spG K k.spn n (bodyW T (k.N.length - ps.length) k.spn b) vs H Q E → vs.length = ps.length := fun vs H Q E ⟨sp, M, ds, ws, Pp, hv, dl, r, _⟩ => by
    rw [hl, ← dl, r.length]
    cases e : k.spn with
    | true =>
      rw [e] at hv
      obtain ⟨a, _, _, rfl⟩ := hv
      rfl
    | false =>
      rw [e] at hv
      obtain ⟨_, rfl⟩ := hv
      rfl
  refine fnG_of F S len fun cdv A outer s H vs Q E room hgd hsp => ?_
  have vl := len vs H Q E hsp
  obtain ⟨sp, M, ds, ws, Pp, hv, dl, r, mok, hs, hp, post⟩ := hsp
  have pl : ps.length ≤ k.N.length := by
    have := congrArg List.length S.pre
    rw [List.length_take] at this
    omega
  have st := start_ok (N := k.N) hv r mok hs (by rw [vl]; exact pl)
  rw [vl] at st
  have G : Gd ⟨K, k.N.length, sp, M, H, false⟩ (cxOf CX0 P w K mg base k.N qual k.sc f cdv A outer s H E).nox k T lv :=
    { calm := rfl, kd := S.kind, nd := S.nd, hN := rfl, hsc := rfl, xe := rfl, room := room, grd := hgd, fn := fun _ _ => rfl, fs := W.fs, cs := W.cs, bt := W.bt, mt := W.mt, ps := W.ps, fr := hfr.symm, gk := rfl, gn := rfl,
      spn := fun e => by
        rw [e] at hv
        obtain ⟨a, e1, _⟩ := hv
        exact ⟨a, e1⟩
      spf := fun e => by
        rw [e] at hv
        exact hv.1 }
  refine ⟨_, (z_Ss b G body hc).nox, M, _, _, st, hp, ?_, ?_, ?_, ?_⟩
  · intro ρ' σ' M' H' h st' lk
    exact post .none .non H' h ⟨fun b o e n => st'.ext b o e n, st'.sph⟩ .non
  · intro ρ' σ' M' H' h st' lk
    exact h.elim
  · intro ρ' σ' M' H' h st' lk
    exact h.elim
  · exact fun d v H' h af r _ => post d v H' h af r
/-- what a body promises that returns in any case -/
def bodyN (T : Tb) (n : Nat) (b : SL) : PSpec := fun ds Q => wpSs T b (env0 n false ds) { nx := fun _ => False, rt := Q, bk := fun _ => False, ct := fun _ => False }
theorem fn_new {P : Program} {w : World} {K : PySem.W.Frag} {mg : Str → Option Value} {base : Heap} {k : Ck} {T : Tb} {lv : Nat} {x qual : Str} {params : Arguments} {body : List Stmt} {f : Addr} {fd : FuncData} {ps : List Str} {b : SL}
    (F : FunD K x qual params body k.sc [] [] f fd) (S : FnScope k.N ps k.sc) (hsp : k.spn = false) (W : Wd P w K mg base k T lv) (hfr : k.fr = true) (hc : chkSs k b body = true) :
    FnG P w K mg base CX0 (lv + 1) f fd ps (spN K ps.length (bodyN T (k.N.length - ps.length) b)) := by
  have len : ∀ vs H Q E, spN K ps.length (bodyN T (k.N.length - ps.length) b) vs H Q E → vs.length = ps.length := fun vs H Q E ⟨M, ds, Pp, dl, r, _⟩ => by
    rw [← r.length, dl]
  refine fnG_of F S len fun cdv A outer s H vs Q E room hgd hs => ?_
  have vl := len vs H Q E hs
  obtain ⟨M, ds, Pp, dl, r, mok, hp, post⟩ := hs
  have pl : ps.length ≤ k.N.length := by
    have := congrArg List.length S.pre
    rw [List.length_take] at this
    omega
  have st := start_ok (N := k.N) (s := false) (sp := none) ⟨rfl, rfl⟩ r mok (fun a e => by cases e) (by rw [vl]; exact pl)
  rw [vl] at st
  have st2 : StOk ⟨K, k.N.length, none, M, H, true⟩ M H (L2.start k.N vs) (env0 (k.N.length - ps.length) false ds) := ⟨st.len, st.lenN, st.val, st.own, st.dist, st.sub, st.mok, st.ext, st.spm, st.sph, st.new⟩
  have G : Gd ⟨K, k.N.length, none, M, H, true⟩ (cxOf CX0 P w K mg base k.N qual k.sc f cdv A outer s H E).nox k T lv :=
    { calm := rfl, kd := S.kind, nd := S.nd, hN := rfl, hsc := rfl, xe := rfl, room := room, grd := hgd, fn := fun _ _ => rfl, fs := W.fs, cs := W.cs, bt := W.bt, mt := W.mt, ps := W.ps, fr := hfr.symm, gk := rfl, gn := rfl,
      spn := fun e => by
        rw [hsp] at e
        cases e
      spf := fun _ => rfl }
  refine ⟨_, (z_Ss b G body hc).nox, M, _, _, st2, hp, ?_, ?_, ?_, ?_⟩
  · intro ρ' σ' M' H' h st' lk
    exact h.elim
  · intro ρ' σ' M' H' h st' lk
    exact h.elim
  · intro ρ' σ' M' H' h st' lk
    exact h.elim
  · intro d v H' h af r fr
    obtain ⟨q, us, es, rfl, rfl, np, e, r2⟩ := fr rfl
    exact post es q us H' h (fun b o e2 => af.1 b o e2 (by simp)) np e r2
theorem kw_of {K : PySem.W.Frag} {x qual : Str} {params : Arguments} {body : List Stmt} {scope : Scope} {f : Addr} {fd : FuncData} {ps ks : List Str} {pl : List Nat} (F : FunD K x qual params body scope [] [] f fd)
    (h : ∀ (kV doc pm : Value) (an : Option Addr) (cdv ct : Value) (ws : List Value), ws.length = ks.length → bindArgs (PySem.W.fnOf x qual params body scope .none kV doc pm an cdv ct) ⟨[], ks.zip ws⟩ = pure (ps.zip (pl.map fun i => ws.getD i .none)))
    (h1 : pl.length = ps.length) (h2 : ∀ i ∈ pl, i < ks.length) : KwOk K fd ps ks pl := by
  refine ⟨fun s ws _ hl => ?_, h1, h2⟩
  obtain ⟨oc, od, dV, kV, doc, pm, an, cdv, ct, osl, rfl, lk, hcd, hD, hK⟩ := F.ex
  rcases hD with ⟨_, rfl⟩ | ⟨e, _⟩
  · exact .of_eq (h kV doc pm an cdv ct ws hl)
  · exact absurd rfl e
def Tb.up (T : Tb) (j : Nat) (p : PSpec) : Tb := { T with f := fun i => if i = j then p else T.f i }
theorem fn_none {P : Program} {w : World} {K : PySem.W.Frag} {mg : Str → Option Value} {base : Heap} {lv : Nat} {f : Addr} {fd : FuncData} {ps : List Str} {s : Bool} {n : Nat} {p : PSpec} (h : ∀ ds Q, ¬ p ds Q) : FnG P w K mg base CX0 lv f fd ps (spG K s n p) :=
  ⟨fun vs H Q E ⟨sp, M, ds, ws, Pp, hv, dl, r, m, hs, hp, post⟩ => absurd hp (h _ _), fun A o s' H a us vs Q E _ _ _ _ _ ⟨sp, M, ds, ws, Pp, hv, dl, r, m, hs, hp, post⟩ => absurd hp (h _ _)⟩
theorem rpL_ints {K : PySem.W.Frag} {M : Addr → Prop} {H : Hp} : ∀ ns : List Int, RpL K M H (ns.map PyData.int) (ns.map V.int)
  | [] => .nil
  | n :: ns => .cons (.int n) (rpL_ints ns)
theorem len63 {ns : List Int} (h : ns.length ≤ 63) : (ns.map V.int).length ≤ sizeLine := by
  rw [List.length_map]
  exact Nat.le_trans h (by decide)
/-! ### constants of the text: tuples -/
theorem tupD_ok {K : PySem.W.Frag} {x : Str} {vs : List He.Dv} (h : tupD K x vs = true) (H : Hp) : SqD K H (He.ga K x) (vs.map (He.Dv.v K)) := by
  obtain ⟨h1, h2⟩ := an h
  unfold He.tupB at h1
  cases q : K.lookup (He.ga K x) with
  | none =>
    rw [q] at h1
    cases h1
  | some o =>
    obtain ⟨oc, od, dt, osl⟩ := o
    rw [q] at h1 h2
    cases od with
    | some a => cases h2
    | none =>
      cases oc with
      | type c =>
        cases dt with
        | seq its n =>
          obtain ⟨a1, a2⟩ := an h1
          obtain ⟨a3, a4⟩ := an a2
          exact .inr ⟨_, its, n, q, congrArg Value.type (of_decide_eq_true a1), rfl, rfl, of_decide_eq_true a3, He.relAll_ok a4⟩
        | _ => cases h1
      | _ => cases dt <;> cases h1
end DH

/-! M0 -/
set_option Elab.async false
set_option linter.all false
set_option maxRecDepth 100000
set_option maxHeartbeats 4000000
namespace DH
open PySem
/-! ### one step of the core's meaning after another: loops stay shut -/
section
variable {T : Tb} {ρ : Env} {N : Po} {Q : D → Prop}
theorem wSs_nil : wpSs T .nil ρ N = N.nx ρ := rfl
theorem wSs_cons {s : S} {ss : SL} : wpSs T (.cons s ss) ρ N = DH.wpS T s ρ { nx := fun ρ1 => wpSs T ss ρ1 N, rt := N.rt, bk := N.bk, ct := N.ct } := rfl
theorem wS_set {i : Nat} {e : E} : DH.wpS T (.set i e) ρ N = wpE T e ρ fun d => N.nx (ρ.set i (some (.val d))) := rfl
theorem wS_own {i : Nat} {e : E} : DH.wpS T (.own i e) ρ N = wpE T e ρ fun d => ∃ ds, d = .list ds ∧ N.nx (ρ.set i (some (.own ds))) := rfl
theorem wS_asg {t : Tg} {e : E} : DH.wpS T (.asg t e) ρ N = wpE T e ρ fun d => asgW t d ρ N.nx := rfl
theorem wS_par {is : List (Nat × Bool)} {es : EL} : DH.wpS T (.par is es) ρ N = wpL T es ρ fun ds => N.nx (parE is ds ρ) := rfl
theorem wS_app {i : Nat} {e : E} : DH.wpS T (.app i e) ρ N = ∃ ds, getO ρ i = some ds ∧ ds.length < 1000000 ∧ wpE T e ρ fun d => N.nx (ρ.set i (some (.own (ds ++ [d])))) := rfl
theorem wS_setIx {i : Nat} {k e : E} : DH.wpS T (.setIx i k e) ρ N = ∃ ds, getO ρ i = some ds ∧ wpE T e ρ fun d => wpE T k ρ fun kd => ∃ n j, kd = .int n ∧ L2.ixN ds.length n = some j ∧ N.nx (ρ.set i (some (.own (ds.set j d)))) := rfl
theorem wS_ret {e : E} : DH.wpS T (.ret e) ρ N = wpE T e ρ N.rt := rfl
theorem wS_ifs {c : E} {a b : SL} : DH.wpS T (.ifs c a b) ρ N = wpE T c ρ fun x => ∃ k, tru x = some k ∧ match k with
  | true => wpSs T a ρ N
  | false => wpSs T b ρ N := rfl
theorem wS_brk : DH.wpS T .brk ρ N = N.bk ρ := rfl
theorem wS_pass : DH.wpS T .pass ρ N = N.nx ρ := rfl
theorem wS_expr {e : E} : DH.wpS T (.expr e) ρ N = wpE T e ρ fun _ => N.nx ρ := rfl
theorem wS_frz {i : Nat} : DH.wpS T (.frz i) ρ N = ∃ ds, getO ρ i = some ds ∧ N.nx (ρ.set i (some (.val (.list ds)))) := rfl
theorem wS_sprS {c : Nat} {e : E} : DH.wpS T (.sprS c e) ρ N = wpE T e ρ fun d => ∃ n, d = .int n ∧ sprI c n ∧ N.nx ρ := rfl
theorem wS_sprD {i : Nat} {e : E} : DH.wpS T (.sprD i e) ρ N = wpE T e ρ fun d => ∃ m, d = .int m ∧ (0 < m ∧ m < 2 ^ 30) ∧ ∀ r : Int, 0 ≤ r → r < m → N.nx (ρ.set i (some (.val (.int r)))) := rfl
theorem wS_ext {i : Nat} {e : E} : DH.wpS T (.ext i e) ρ N = ∃ ds, getO ρ i = some ds ∧ wpE T e ρ fun d => ∃ es, d = .list es ∧ ds.length + es.length ≤ 1000000 ∧ N.nx (ρ.set i (some (.own (ds ++ es)))) := rfl
theorem wS_aug {i : Nat} {e : E} : DH.wpS T (.aug i e) ρ N = ∃ n, getV ρ i = some (.int n) ∧ wpE T e ρ fun d => ∃ m, d = .int m ∧ N.nx (ρ.set i (some (.val (.int (n + m))))) := rfl
/-! loops -/
def whC (T : Tb) (c : E) : Env → (Bool → Prop) → Prop := fun ρ k => wpE T c ρ fun x => ∃ t, tru x = some t ∧ k t
def whB (T : Tb) (b : SL) : Env → Po → Prop := fun ρ N => wpSs T b ρ N
def fG (t : Tg) : D → Env → (Env → Prop) → Prop := fun d ρ k => asgW t d ρ k
def cG (t : Tg) (ρ : Env) (own : List Nat) : D → (Env → Prop) → Prop := fun d k => asgW t d (wipeE ρ own) k
def cT (T : Tb) (c : EO) : Env → (Bool → Prop) → Prop := fun ρ k => wpC T c ρ k
def cB (T : Tb) (b : E) : Env → (D → Prop) → Prop := fun ρ k => wpE T b ρ k
theorem wS_wh {c : E} {b : SL} : DH.wpS T (.wh c b) ρ N = ∃ n, whileW (whC T c) (whB T b) n ρ N := rfl
theorem wS_fo {t : Tg} {s : Src} {b : SL} : DH.wpS T (.fo t s b) ρ N = wpSrc T s ρ fun items => forW (fG t) (whB T b) items ρ N := rfl
theorem wE_comp {own : List Nat} {t : Tg} {s : Src} {c : EO} {b : E} : wpE T (.comp own t s c b) ρ Q = wpSrc T s ρ fun items => compW (cG t ρ own) (cT T c) (cB T b) items [] fun ys => Q (.list ys) := rfl
def cS (T : Tb) (s : Src) : Env → (List D → Prop) → Prop := fun ρ k => wpSrc T s ρ k
theorem wE_comp2 {own : List Nat} {t t1 : Tg} {s s1 : Src} {c c1 : EO} {b : E} : wpE T (.comp2 own t s c t1 s1 c1 b) ρ Q = wpSrc T s ρ fun items => items.length ≤ 1000 ∧ compW2 (cG t ρ own) (cT T c) (cS T s1) (fun ρ1 => cG t1 ρ1 (tslots t1)) (cT T c1) (cB T b) items [] fun ys => Q (.list ys) := rfl
theorem wE_m1 {o : MO} {a b : E} : wpE T (.m1 o a b) ρ Q = wpE T a ρ fun x => moK o x ∧ wpE T b ρ fun y => m1W o x y Q := rfl
theorem wE_dget {a k d : E} : wpE T (.dget a k d) ρ Q = wpE T a ρ fun x => ∃ es : List (L2.Key × D), x = .dict (es.map fun p => (kD p.1, p.2)) ∧ wpE T k ρ fun y => wpE T d ρ fun z => ∃ kk : L2.Key, y = kD kk ∧ Q ((valD es kk).getD z) := rfl
/-! expressions -/
theorem wE_var {i : Nat} : wpE T (.var i) ρ Q = ∃ d, getV ρ i = some d ∧ Q d := rfl
theorem wE_peek {i : Nat} : wpE T (.peek i) ρ Q = ∃ ds, getO ρ i = some ds ∧ Q (.list ds) := rfl
theorem wE_glob {j : Nat} : wpE T (.glob j) ρ Q = Q (T.c j) := rfl
theorem wE_non : wpE T .non ρ Q = Q .none := rfl
theorem wE_bl {b : Bool} : wpE T (.bl b) ρ Q = Q (.bool b) := rfl
theorem wE_int {i : Int} : wpE T (.int i) ρ Q = Q (.int i) := rfl
theorem wE_str {x : Str} : wpE T (.str x) ρ Q = Q (.str x) := rfl
theorem wE_tup {es : EL} : wpE T (.tup es) ρ Q = wpL T es ρ fun ds => Q (.tuple ds) := rfl
theorem wE_lst {es : EL} : wpE T (.lst es) ρ Q = wpL T es ρ fun ds => Q (.list ds) := rfl
theorem wE_bin {o : BO} {a b : E} : wpE T (.bin o a b) ρ Q = wpE T a ρ fun x => wpE T b ρ fun y => binW o x y Q := rfl
theorem wE_neg {a : E} : wpE T (.neg a) ρ Q = wpE T a ρ fun x => ∃ i, x = .int i ∧ Q (.int (-i)) := rfl
theorem wE_not {a : E} : wpE T (.not a) ρ Q = wpE T a ρ fun x => ∃ b, tru x = some b ∧ Q (.bool (!b)) := rfl
theorem wE_and {es : EL} : wpE T (.and es) ρ Q = wpAnd T es ρ Q := rfl
theorem wE_or {es : EL} : wpE T (.or es) ρ Q = wpOr T es ρ Q := rfl
theorem wE_ite {c a b : E} : wpE T (.ite c a b) ρ Q = wpE T c ρ fun x => ∃ k, tru x = some k ∧ match k with
  | true => wpE T a ρ Q
  | false => wpE T b ρ Q := rfl
theorem wE_cmp {o : CO} {a b : E} : wpE T (.cmp o a b) ρ Q = wpE T a ρ fun x => wpE T b ρ fun y => cmpW o x y fun k => Q (.bool k) := rfl
theorem wE_chain {o p : CO} {a b c : E} : wpE T (.chain o p a b c) ρ Q = wpE T a ρ fun x => wpE T b ρ fun y => cmpW o x y fun k => match k with
  | true => wpE T c ρ fun z => cmpW p y z fun k => Q (.bool k)
  | false => Q (.bool false) := rfl
theorem wE_ix {a b : E} : wpE T (.ix a b) ρ Q = wpE T a ρ fun x => wpE T b ρ fun i => ixW x i Q := rfl
theorem wE_slc {a : E} {lo hi : EO} : wpE T (.slc a lo hi) ρ Q = wpE T a ρ fun x => wpO T lo ρ fun l => wpO T hi ρ fun h => slcW x l h Q := rfl
theorem wE_rev {a : E} : wpE T (.rev a) ρ Q = wpE T a ρ fun x => revW x Q := rfl
theorem wE_call {j : Nat} {es : EL} : wpE T (.call j es) ρ Q = wpL T es ρ fun ds => T.f j ds Q := rfl
theorem wE_callS {j : Nat} {es : EL} : wpE T (.callS j es) ρ Q = wpL T es ρ fun ds => T.f j ds Q := rfl
theorem wE_callK {j : Nat} {pm : List Nat} {es : EL} : wpE T (.callK j pm es) ρ Q = wpL T es ρ fun ds => T.f j (pm.map fun i => ds.getD i .none) Q := rfl
theorem wE_callP {j g : Nat} {es : EL} : wpE T (.callP j g es) ρ Q = wpL T es ρ fun ds => T.f g ds fun d => ∃ x y z : Int, d = .list [.int x, .int y, .int z] ∧ (sprI 0 x ∧ sprI 1 y ∧ sprI 2 z) ∧ T.f j [] Q := rfl
theorem wE_spr {c : Nat} : wpE T (.spr c) ρ Q = ∀ n : Int, sprI c n → Q (.int n) := rfl
theorem wE_b1 {o : B1} {a : E} : wpE T (.b1 o a) ρ Q = wpE T a ρ fun x => b1W o x Q := rfl
theorem wE_b2 {o : B2} {a b : E} : wpE T (.b2 o a b) ρ Q = wpE T a ρ fun x => wpE T b ρ fun y => b2W o x y Q := rfl
theorem wE_isi {t : Ty} {a : E} : wpE T (.isi t a) ρ Q = wpE T a ρ fun x => Q (.bool (isiD t x)) := rfl
theorem wE_dic0 : wpE T .dic0 ρ Q = Q (.dict []) := rfl
theorem wE_dic1 {x : Str} {a : E} : wpE T (.dic1 x a) ρ Q = wpE T a ρ fun y => y.hasDict = false ∧ Q (.dict [(.str x, y)]) := rfl
theorem wL_nil {Q : List D → Prop} : wpL T .nil ρ Q = Q [] := rfl
theorem wL_cons {e : E} {es : EL} {Q : List D → Prop} : wpL T (.cons e es) ρ Q = wpE T e ρ fun d => wpL T es ρ fun ds => Q (d :: ds) := rfl
theorem wA_1 {e : E} : wpAnd T (.cons e .nil) ρ Q = wpE T e ρ fun x => ∃ b, x = .bool b ∧ Q (.bool b) := rfl
theorem wA_2 {e e2 : E} {es : EL} : wpAnd T (.cons e (.cons e2 es)) ρ Q = wpE T e ρ fun x => ∃ b, x = .bool b ∧ match b with
  | true => wpAnd T (.cons e2 es) ρ Q
  | false => Q (.bool false) := rfl
theorem wO_1 {e : E} : wpOr T (.cons e .nil) ρ Q = wpE T e ρ fun x => ∃ b, x = .bool b ∧ Q (.bool b) := rfl
theorem wO_2 {e e2 : E} {es : EL} : wpOr T (.cons e (.cons e2 es)) ρ Q = wpE T e ρ fun x => ∃ b, x = .bool b ∧ match b with
  | true => Q (.bool true)
  | false => wpOr T (.cons e2 es) ρ Q := rfl
theorem wP_no {Q : Option Int → Prop} : wpO T .no ρ Q = Q none := rfl
theorem wP_yes {e : E} {Q : Option Int → Prop} : wpO T (.yes e) ρ Q = wpE T e ρ fun x => ∃ i, x = .int i ∧ Q (some i) := rfl
theorem wC_no {Q : Bool → Prop} : wpC T .no ρ Q = Q true := rfl
theorem wC_yes {e : E} {Q : Bool → Prop} : wpC T (.yes e) ρ Q = wpE T e ρ fun x => ∃ b, tru x = some b ∧ Q b := rfl
end
/-! ### comparisons of ints, of pairs -/
theorem shI (i : Int) : SeqAt.shaped (.int i) = true := by
  unfold SeqAt.shaped
  simp [PyData.canLay0, PyData.depth]
theorem eqI (i j : Int) : PyData.eqv (.int i) (.int j) = decide (i = j) := by
  unfold PyData.eqv
  exact Bool.beq_eq_decide_eq i j
theorem cEq {i j : Int} {Q : Bool → Prop} : cmpW .eq (.int i) (.int j) Q = Q (decide (i = j)) := by
  simp only [cmpW, shI, eqI, true_and]
theorem cNe {i j : Int} {Q : Bool → Prop} : cmpW .ne (.int i) (.int j) Q = Q (!decide (i = j)) := by
  simp only [cmpW, shI, eqI, true_and]
theorem cLt {i j : Int} {Q : Bool → Prop} : cmpW .lt (.int i) (.int j) Q = Q (decide (i < j)) := rfl
theorem cLe {i j : Int} {Q : Bool → Prop} : cmpW .le (.int i) (.int j) Q = Q (decide (i ≤ j)) := rfl
theorem cGt {i j : Int} {Q : Bool → Prop} : cmpW .gt (.int i) (.int j) Q = Q (decide (j < i)) := rfl
theorem cGe {i j : Int} {Q : Bool → Prop} : cmpW .ge (.int i) (.int j) Q = Q (decide (j ≤ i)) := rfl
theorem shP (i j : Int) : SeqAt.shaped (.tuple [.int i, .int j]) = true := by
  unfold SeqAt.shaped
  simp [PyData.canLay0, PyData.canLayAll0, PyData.depth, PyData.depthAll]
theorem eqP (i j k l : Int) : PyData.eqv (.tuple [.int i, .int j]) (.tuple [.int k, .int l]) = (decide (i = k) && decide (j = l)) := by
  simp only [PyData.eqv, PyData.eqvAll, Bool.beq_eq_decide_eq, Bool.and_true]
theorem cEqP {i j k l : Int} {Q : Bool → Prop} : cmpW .eq (.tuple [.int i, .int j]) (.tuple [.int k, .int l]) Q = Q (decide (i = k) && decide (j = l)) := by
  simp only [cmpW, shP, eqP, true_and]
theorem truB (b : Bool) : tru (.bool b) = some b := rfl
theorem truT (ds : List D) : tru (.tuple ds) = some (!ds.isEmpty) := rfl
theorem truL (ds : List D) : tru (.list ds) = some (!ds.isEmpty) := rfl
theorem bAdd {i j : Int} {Q : D → Prop} : binW .add (.int i) (.int j) Q = Q (.int (i + j)) := rfl
theorem bSub {i j : Int} {Q : D → Prop} : binW .sub (.int i) (.int j) Q = Q (.int (i - j)) := rfl
theorem bMul {i j : Int} {Q : D → Prop} : binW .mul (.int i) (.int j) Q = ((L2.CMul i j ∨ L2.CMulW i j) ∧ Q (.int (i * j))) := rfl
theorem bDiv {i j : Int} {Q : D → Prop} : binW .fdiv (.int i) (.int j) Q = ((j ≠ 0 ∧ j.natAbs.log2 < 9000) ∧ Q (.int (i.fdiv j))) := rfl
theorem bMod {i j : Int} {Q : D → Prop} : binW .mod (.int i) (.int j) Q = (j ≠ 0 ∧ Q (.int (i.fmod j))) := rfl
theorem uLenT {ds : List D} {Q : D → Prop} : b1W .len (.tuple ds) Q = Q (.int ds.length) := rfl
theorem uLenL {ds : List D} {Q : D → Prop} : b1W .len (.list ds) Q = Q (.int ds.length) := rfl
theorem uTupL {ds : List D} {Q : D → Prop} : b1W .tuple (.list ds) Q = Q (.tuple ds) := rfl
theorem uInt {i : Int} {Q : D → Prop} : b1W .int (.int i) Q = Q (.int i) := rfl
theorem uAbs {i : Int} {Q : D → Prop} : b1W .abs (.int i) Q = Q (.int i.natAbs) := rfl
theorem vGcd {i j : Int} {Q : D → Prop} : b2W .gcd (.int i) (.int j) Q = Q (.int (Nat.gcd i.natAbs j.natAbs : Nat)) := rfl
theorem vMax {i j : Int} {Q : D → Prop} : b2W .max (.int i) (.int j) Q = Q (.int (max i j)) := rfl
theorem vMin {i j : Int} {Q : D → Prop} : b2W .min (.int i) (.int j) Q = Q (.int (min i j)) := rfl
theorem e0F {n : Nat} {ds : List D} : env0 n false ds = ds.map (fun d => some (Sl.val d)) ++ List.replicate n none := rfl
theorem e0T {n : Nat} {ds : List D} : env0 n true ds = none :: (ds.map (fun d => some (Sl.val d)) ++ List.replicate n none) := rfl
theorem gV {ρ : Env} {i : Nat} {d : D} : getV ρ i = some d ↔ ρ[i]? = some (some (.val d)) := by
  unfold getV
  constructor
  · intro h
    split at h
    · cases h
      assumption
    · cases h
  · intro h
    rw [h]
theorem gO {ρ : Env} {i : Nat} {d : List D} : getO ρ i = some d ↔ ρ[i]? = some (some (.own d)) := by
  unfold getO
  constructor
  · intro h
    split at h
    · cases h
      assumption
    · cases h
  · intro h
    rw [h]
end DH

/-! Q1 -/
set_option linter.all false
/-! sizes of fractions; sums of fractions: no word of programs -/
namespace Rx
/-- both numbers below 2 ^ n -/
def Rb (n : Nat) (r : Rat) : Prop := r.num.natAbs < 2 ^ n ∧ r.den < 2 ^ n
theorem Rb.mono {n m : Nat} {r : Rat} (h : Rb n r) (hm : n ≤ m) : Rb m r :=
  ⟨Nat.lt_of_lt_of_le h.1 (Nat.pow_le_pow_right (by decide) hm), Nat.lt_of_lt_of_le h.2 (Nat.pow_le_pow_right (by decide) hm)⟩
theorem Rb.pos {n : Nat} {r : Rat} (h : Rb n r) : 0 < n := by
  have h1 := h.2
  have h2 := r.den_pos
  rcases Nat.eq_zero_or_pos n with rfl | h0
  · simp at h1; omega
  · exact h0
theorem Rb.ofMk {n : Nat} {a : Int} {b : Nat} (ha : a.natAbs < 2 ^ n) (hb : b < 2 ^ n) (h0 : 0 < n) : Rb n (mkRat a b) := by
  unfold Rb
  rw [Rat.num_mkRat, Rat.den_mkRat]
  have h2 : 1 < 2 ^ n := Nat.one_lt_two_pow (by omega)
  constructor
  · split
    · simp; omega
    · rw [Int.natAbs_ediv_of_dvd]
      · exact Nat.lt_of_le_of_lt (Nat.div_le_self _ _) ha
      · exact Int.ofNat_dvd_left.mpr (Nat.gcd_dvd_right _ _)
  · split
    · exact h2
    · exact Nat.lt_of_le_of_lt (Nat.div_le_self _ _) hb
theorem Rb.divInt {n : Nat} {a b : Int} (ha : a.natAbs < 2 ^ n) (hb : b.natAbs < 2 ^ n) (h0 : 0 < n) : Rb n (Rat.divInt a b) := by
  rcases Int.natAbs_eq b with h | h
  · rw [h, Rat.divInt_ofNat]; exact Rb.ofMk ha hb h0
  · rw [h, Rat.divInt_neg', Rat.divInt_ofNat]; exact Rb.ofMk (by rw [Int.natAbs_neg]; exact ha) hb h0
theorem lt_mul {a b : Int} {n m : Nat} (ha : a.natAbs < 2 ^ n) (hb : b.natAbs < 2 ^ m) : (a * b).natAbs < 2 ^ (n + m) := by
  rw [Int.natAbs_mul, Nat.pow_add]
  exact Nat.mul_lt_mul'' ha hb
theorem lt_mulN {a b : Nat} {n m : Nat} (ha : a < 2 ^ n) (hb : b < 2 ^ m) : a * b < 2 ^ (n + m) := by
  rw [Nat.pow_add]
  exact Nat.mul_lt_mul'' ha hb
theorem lt_add {a b : Int} {n : Nat} (ha : a.natAbs < 2 ^ n) (hb : b.natAbs < 2 ^ n) : (a + b).natAbs < 2 ^ (n + 1) := by
  rw [Nat.pow_succ]; omega
theorem lt_sub {a b : Int} {n : Nat} (ha : a.natAbs < 2 ^ n) (hb : b.natAbs < 2 ^ n) : (a - b).natAbs < 2 ^ (n + 1) := by
  rw [Nat.pow_succ]; omega
theorem add_eq (r s : Rat) : r + s = Rat.divInt (r.num * s.den + s.num * r.den) ((r.den : Int) * s.den) := by
  rw [Rat.add_def', ← Int.natCast_mul, Rat.divInt_ofNat]
theorem sub_eq (r s : Rat) : r - s = Rat.divInt (r.num * s.den - s.num * r.den) ((r.den : Int) * s.den) := by
  rw [Rat.sub_def', ← Int.natCast_mul, Rat.divInt_ofNat]
theorem mul_eq (r s : Rat) : r * s = Rat.divInt (r.num * s.num) ((r.den : Int) * s.den) := by
  rw [Rat.mul_def', ← Int.natCast_mul, Rat.divInt_ofNat]
theorem div_eq (r s : Rat) : r / s = Rat.divInt (r.num * s.den) ((r.den : Int) * s.num) := by
  rw [Rat.div_def, Rat.inv_def]
  conv => lhs; rw [← Rat.num_divInt_den r]
  rw [Rat.divInt_mul_divInt]
theorem Rb.add {a b : Nat} {r s : Rat} (h : Rb a r) (k : Rb b s) : Rb (a + b + 1) (r + s) := by
  rw [add_eq]
  refine Rb.divInt (lt_add (lt_mul h.1 (by simpa using k.2)) ?_) ?_ (by omega)
  · rw [Nat.add_comm]; exact lt_mul k.1 (by simpa using h.2)
  · exact Nat.lt_of_lt_of_le (lt_mul (by simpa using h.2) (by simpa using k.2)) (Nat.pow_le_pow_right (by decide) (by omega))
theorem Rb.sub {a b : Nat} {r s : Rat} (h : Rb a r) (k : Rb b s) : Rb (a + b + 1) (r - s) := by
  rw [sub_eq]
  refine Rb.divInt (lt_sub (lt_mul h.1 (by simpa using k.2)) ?_) ?_ (by omega)
  · rw [Nat.add_comm]; exact lt_mul k.1 (by simpa using h.2)
  · exact Nat.lt_of_lt_of_le (lt_mul (by simpa using h.2) (by simpa using k.2)) (Nat.pow_le_pow_right (by decide) (by omega))
theorem Rb.mul {a b : Nat} {r s : Rat} (h : Rb a r) (k : Rb b s) : Rb (a + b) (r * s) := by
  rw [mul_eq]
  have := h.pos
  exact Rb.divInt (lt_mul h.1 k.1) (lt_mul (by simpa using h.2) (by simpa using k.2)) (by omega)
theorem Rb.div {a b : Nat} {r s : Rat} (h : Rb a r) (k : Rb b s) : Rb (a + b) (r / s) := by
  rw [div_eq]
  have := h.pos
  exact Rb.divInt (lt_mul h.1 (by simpa using k.2)) (lt_mul (by simpa using h.2) k.1) (by omega)
theorem Rb.zero {n : Nat} (h : 0 < n) : Rb n 0 := by
  have h2 : 1 < 2 ^ n := Nat.one_lt_two_pow (by omega)
  exact ⟨by simp; omega, by simpa using h2⟩
theorem Rb.one {n : Nat} (h : 0 < n) : Rb n 1 := by
  have h2 : 1 < 2 ^ n := Nat.one_lt_two_pow (by omega)
  exact ⟨by simpa using h2, by simpa using h2⟩
/-! ### sums -/
def rsum (xs : List Rat) : Rat := xs.foldl (· + ·) 0
def rdot (xs ys : List Rat) : Rat := (xs.zip ys).foldl (fun a p => a + p.1 * p.2) 0
theorem foldl_add (f : α → Rat) (xs : List α) (a : Rat) : xs.foldl (fun a p => a + f p) a = a + xs.foldl (fun a p => a + f p) 0 := by
  induction xs generalizing a with
  | nil => simp [Rat.add_zero]
  | cons x xs ih => rw [List.foldl_cons, List.foldl_cons, ih, ih (0 + f x), Rat.zero_add, Rat.add_assoc]
theorem rsum_nil : rsum [] = 0 := rfl
theorem rsum_cons (x : Rat) (xs : List Rat) : rsum (x :: xs) = x + rsum xs := by
  unfold rsum
  rw [List.foldl_cons, foldl_add (fun r : Rat => r), Rat.zero_add]
theorem rsum_append (xs ys : List Rat) : rsum (xs ++ ys) = rsum xs + rsum ys := by
  induction xs with
  | nil => rw [List.nil_append, rsum_nil, Rat.zero_add]
  | cons x xs ih => rw [List.cons_append, rsum_cons, rsum_cons, ih, Rat.add_assoc]
theorem rdot_nil (ys : List Rat) : rdot [] ys = 0 := rfl
theorem rdot_nilr (xs : List Rat) : rdot xs [] = 0 := by cases xs <;> rfl
theorem rdot_cons (x y : Rat) (xs ys : List Rat) : rdot (x :: xs) (y :: ys) = x * y + rdot xs ys := by
  unfold rdot
  rw [List.zip_cons_cons, List.foldl_cons, foldl_add (fun p : Rat × Rat => p.1 * p.2), Rat.zero_add]
theorem rdot_ones (xs : List Rat) : rdot xs (List.replicate xs.length 1) = rsum xs := by
  induction xs with
  | nil => rfl
  | cons x xs ih => rw [List.length_cons, List.replicate_succ, rdot_cons, rsum_cons, ih, Rat.mul_one]
theorem Rb.sum {n : Nat} {xs : List Rat} (h : ∀ x ∈ xs, Rb n x) : Rb (1 + xs.length * (n + 1)) (rsum xs) := by
  induction xs with
  | nil => exact Rb.zero (by omega)
  | cons x xs ih =>
    rw [rsum_cons, List.length_cons]
    refine ((h x List.mem_cons_self).add (ih fun y hy => h y (List.mem_cons_of_mem _ hy))).mono ?_
    rw [Nat.add_mul]
    omega
theorem Rb.dot {n : Nat} {xs ys : List Rat} (h : ∀ x ∈ xs, Rb n x) (k : ∀ y ∈ ys, Rb n y) : Rb (1 + xs.length * (n + n + 1)) (rdot xs ys) := by
  induction xs generalizing ys with
  | nil => exact Rb.zero (by omega)
  | cons x xs ih =>
    cases ys with
    | nil => rw [rdot_nilr]; exact Rb.zero (by omega)
    | cons y ys =>
      rw [rdot_cons, List.length_cons]
      refine (((h x List.mem_cons_self).mul (k y List.mem_cons_self)).add (ih (fun z hz => h z (List.mem_cons_of_mem _ hz)) fun z hz => k z (List.mem_cons_of_mem _ hz))).mono ?_
      rw [Nat.add_mul]
      omega
end Rx

/-! B -/
set_option linter.all false
namespace Bt
open DH
def b0 : SL := (.cons (.set 2 (.bin .add (.int 61403) (.bin .mul (.int 9973) (.var 1)))) (.cons (.fo (.nm 3) (.seq (.slc (.var 0) .no (.yes (.int 9)))) (.cons (.set 2 (.bin .mod (.b1 .int (.bin .add (.bin .add (.bin .mul (.var 2) (.int 52711)) (.bin .mul (.bin .mod (.b1 .int (.var 3)) (.int 2147483579)) (.int 5))) (.int 23))) (.int 2147483579))) .nil)) (.cons (.set 4 (.ite (.cmp .lt (.var 1) (.b1 .len (.var 0))) (.b1 .int (.ix (.var 0) (.var 1))) (.int 0))) (.cons (.set 2 (.bin .mod (.b1 .int (.bin .add (.bin .add (.bin .mul (.var 2) (.int 41)) (.bin .mul (.bin .mod (.b1 .int (.var 4)) (.int 2147483579)) (.int 30103))) (.int 7))) (.int 2147483579))) (.cons (.ret (.lst (.cons (.ite (.or (.cons (.cmp .lt (.var 4) (.int 0)) (.cons (.cmp .ge (.var 4) (.bin .pow (.int 10) (.int 15))) .nil))) (.b1 .abs (.var 4)) (.int 0)) (.cons (.var 2) (.cons (.int 0) .nil))))) .nil)))))
def b1 : SL := (.cons (.ifs (.cmp .gt (.spr 0) (.int 0)) (.cons (.sprD 2 (.var 1)) (.cons (.ret (.var 2)) .nil)) .nil) (.cons (.sprS 2 (.bin .add (.spr 2) (.int 1))) (.cons (.set 3 (.bin .mod (.b1 .int (.bin .add (.bin .mul (.spr 1) (.int 40692)) (.bin .mul (.int 15013) (.spr 2)))) (.int 2147483579))) (.cons (.sprS 1 (.bin .mod (.b1 .int (.bin .add (.bin .mul (.var 3) (.bin .add (.bin .mod (.b1 .int (.var 3)) (.int 6007)) (.int 20011))) (.spr 2))) (.int 2147483579))) (.cons (.ret (.bin .mod (.b1 .int (.bin .fdiv (.spr 1) (.int 1013))) (.var 1))) .nil)))))
def b2 : SL := (.cons (.ret (.ix (.var 1) (.callS 1 (.cons (.b1 .len (.var 1)) .nil)))) .nil)
def b14 : SL := (.cons (.ret (.and (.cons (.isi .int (.var 0)) (.cons (.not (.isi .bool (.var 0))) .nil)))) .nil)
def b15 : SL := (.cons (.ret (.and (.cons (.call 14 (.cons (.var 0) .nil)) (.cons (.cmp .le (.var 1) (.var 0)) (.cons (.cmp .le (.var 0) (.var 2)) .nil))))) .nil)
def b16 : SL := (.cons (.ret (.and (.cons (.isi .tuple (.var 0)) (.cons (.cmp .eq (.b1 .len (.var 0)) (.var 1)) .nil)))) .nil)
def b17 : SL := (.cons (.ifs (.or (.cons (.not (.call 16 (.cons (.var 0) (.cons (.int 2) .nil)))) (.cons (.not (.call 14 (.cons (.ix (.var 0) (.int 0)) .nil))) (.cons (.not (.call 14 (.cons (.ix (.var 0) (.int 1)) .nil))) .nil)))) (.cons (.ret (.bl false)) .nil) .nil) (.cons (.ret (.and (.cons (.cmp .gt (.ix (.var 0) (.int 1)) (.int 0)) (.cons (.cmp .eq (.b2 .gcd (.ix (.var 0) (.int 0)) (.ix (.var 0) (.int 1))) (.int 1)) .nil)))) .nil))
def b18 : SL := (.cons (.ret (.and (.cons (.call 17 (.cons (.var 0) .nil)) (.cons (.cmp .ge (.ix (.var 0) (.int 0)) (.int 0)) .nil)))) .nil)
def b19 : SL := (.cons (.ret (.and (.cons (.call 16 (.cons (.var 0) (.cons (.var 1) .nil))) (.cons (.b1 .all (.comp [2] (.nm 2) (.seq (.var 0)) .no (.call 17 (.cons (.var 2) .nil)))) .nil)))) .nil)
def b20 : SL := (.cons (.set 2 (.b2 .gcd (.var 0) (.var 1))) (.cons (.ifs (.cmp .lt (.var 1) (.int 0)) (.cons (.set 2 (.neg (.var 2))) .nil) .nil) (.cons (.ret (.tup (.cons (.bin .fdiv (.var 0) (.var 2)) (.cons (.bin .fdiv (.var 1) (.var 2)) .nil)))) .nil)))
def b21 : SL := (.cons (.par [(2, false), (3, false)] (.cons (.int 0) (.cons (.int 1) .nil))) (.cons (.fo (.tp (.cons (.tp (.cons (.nm 4) (.cons (.nm 5) .nil))) (.cons (.tp (.cons (.nm 6) (.cons (.nm 7) .nil))) .nil))) (.z2 (.var 0) (.var 1)) (.cons (.ifs (.and (.cons (.cmp .ne (.var 4) (.int 0)) (.cons (.cmp .ne (.var 6) (.int 0)) .nil))) (.cons (.set 8 (.bin .mul (.var 5) (.var 7))) (.cons (.set 9 (.b2 .gcd (.var 3) (.var 8))) (.cons (.set 2 (.bin .add (.bin .mul (.var 2) (.bin .fdiv (.var 8) (.var 9))) (.bin .mul (.bin .mul (.var 4) (.var 6)) (.bin .fdiv (.var 3) (.var 9))))) (.cons (.set 3 (.bin .mul (.bin .fdiv (.var 3) (.var 9)) (.var 8))) .nil)))) .nil) .nil)) (.cons (.ret (.call 20 (.cons (.var 2) (.cons (.var 3) .nil)))) .nil)))
def b22 : SL := (.cons (.ret (.call 21 (.cons (.var 0) (.cons (.bin .mul (.lst (.cons (.glob 0) .nil)) (.b1 .len (.var 0))) .nil)))) .nil)
def b23 : SL := (.cons (.ifs (.or (.cons (.not (.call 16 (.cons (.var 0) (.cons (.var 1) .nil)))) (.cons (.not (.b1 .all (.comp [2] (.nm 2) (.seq (.var 0)) .no (.call 18 (.cons (.var 2) .nil))))) .nil))) (.cons (.ret (.bl false)) .nil) .nil) (.cons (.ret (.cmp .eq (.call 22 (.cons (.var 0) .nil)) (.glob 0))) .nil))
def b24 : SL := (.cons (.ifs (.not (.isi .tuple (.var 0))) (.cons (.ret (.bl false)) .nil) .nil) (.cons (.set 2 (.int 0)) (.cons (.fo (.nm 3) (.seq (.var 0)) (.cons (.ifs (.or (.cons (.not (.call 16 (.cons (.var 3) (.cons (.int 2) .nil)))) (.cons (.not (.call 15 (.cons (.ix (.var 3) (.int 0)) (.cons (.var 2) (.cons (.bin .sub (.var 1) (.int 1)) .nil))))) .nil))) (.cons (.ret (.bl false)) .nil) .nil) (.cons (.ifs (.or (.cons (.not (.call 18 (.cons (.ix (.var 3) (.int 1)) .nil))) (.cons (.cmp .eq (.ix (.ix (.var 3) (.int 1)) (.int 0)) (.int 0)) .nil))) (.cons (.ret (.bl false)) .nil) .nil) (.cons (.set 2 (.bin .add (.ix (.var 3) (.int 0)) (.int 1))) .nil)))) (.cons (.ret (.cmp .eq (.call 22 (.cons (.comp [4, 5] (.tp (.cons (.nm 4) (.cons (.nm 5) .nil))) (.seq (.var 0)) .no (.var 5)) .nil)) (.glob 0))) .nil))))
def b30 : SL := (.cons (.ifs (.not (.call 16 (.cons (.var 1) (.cons (.ix (.var 0) (.int 1)) .nil)))) (.cons .never .nil) .nil) (.cons (.fo (.tp (.cons (.nm 2) (.cons (.nm 3) .nil))) (.enu (.var 1)) (.cons (.ifs (.not (.call 17 (.cons (.var 3) .nil))) (.cons .never .nil) .nil) .nil)) .nil))
def b32 : SL := (.cons (.set 2 (.bin .add (.int 61990) (.bin .mul (.int 9973) (.var 1)))) (.cons (.fo (.nm 3) (.seq (.slc (.var 0) .no (.yes (.int 9)))) (.cons (.set 2 (.bin .mod (.b1 .int (.bin .add (.bin .add (.bin .mul (.var 2) (.int 52711)) (.bin .mul (.bin .mod (.b1 .int (.var 3)) (.int 2147483579)) (.int 5))) (.int 23))) (.int 2147483579))) .nil)) (.cons (.set 4 (.ite (.cmp .lt (.var 1) (.b1 .len (.var 0))) (.b1 .int (.ix (.var 0) (.var 1))) (.int 0))) (.cons (.set 2 (.bin .mod (.b1 .int (.bin .add (.bin .add (.bin .mul (.var 2) (.int 41)) (.bin .mul (.bin .mod (.b1 .int (.var 4)) (.int 2147483579)) (.int 30103))) (.int 7))) (.int 2147483579))) (.cons (.ret (.lst (.cons (.ite (.or (.cons (.cmp .lt (.var 4) (.int 0)) (.cons (.cmp .ge (.var 4) (.bin .pow (.int 10) (.int 15))) .nil))) (.b1 .abs (.var 4)) (.int 0)) (.cons (.var 2) (.cons (.int 0) .nil))))) .nil)))))
def b33 : SL := (.cons (.par [(2, false), (3, false)] (.cons (.b1 .abs (.var 0)) (.cons (.b1 .abs (.var 1)) .nil))) (.cons (.wh (.cmp .gt (.var 3) (.int 0)) (.cons (.par [(2, false), (3, false)] (.cons (.var 3) (.cons (.bin .mod (.b1 .int (.var 2)) (.var 3)) .nil))) .nil)) (.cons (.ret (.ite (.cmp .gt (.var 1) (.int 0)) (.tup (.cons (.bin .fdiv (.var 0) (.var 2)) (.cons (.bin .fdiv (.var 1) (.var 2)) .nil))) (.tup (.cons (.bin .sub (.int 0) (.bin .fdiv (.var 0) (.var 2))) (.cons (.bin .sub (.int 0) (.bin .fdiv (.var 1) (.var 2))) .nil))))) .nil)))
def b34 : SL := (.cons (.ret (.call 33 (.cons (.bin .add (.bin .mul (.ix (.var 0) (.int 0)) (.ix (.var 1) (.int 1))) (.bin .mul (.ix (.var 1) (.int 0)) (.ix (.var 0) (.int 1)))) (.cons (.bin .mul (.ix (.var 0) (.int 1)) (.ix (.var 1) (.int 1))) .nil)))) .nil)
def b35 : SL := (.cons (.ret (.call 33 (.cons (.bin .mul (.ix (.var 0) (.int 0)) (.ix (.var 1) (.int 0))) (.cons (.bin .mul (.ix (.var 0) (.int 1)) (.ix (.var 1) (.int 1))) .nil)))) .nil)
def b36 : SL := (.cons (.set 1 (.tup (.cons (.int 0) (.cons (.int 1) .nil)))) (.cons (.fo (.nm 2) (.seq (.var 0)) (.cons (.set 1 (.call 34 (.cons (.var 1) (.cons (.var 2) .nil)))) .nil)) (.cons (.ret (.var 1)) .nil)))
def b37 : SL := (.cons (.set 2 (.tup (.cons (.int 0) (.cons (.int 1) .nil)))) (.cons (.fo (.tp (.cons (.nm 3) (.cons (.nm 4) .nil))) (.z2 (.var 0) (.var 1)) (.cons (.set 2 (.call 34 (.cons (.var 2) (.cons (.call 35 (.cons (.var 3) (.cons (.var 4) .nil))) .nil)))) .nil)) (.cons (.ret (.var 2)) .nil)))
def b38 : SL := (.cons (.set 1 (.callS 1 (.cons (.int 9) .nil))) (.cons (.ifs (.cmp .lt (.var 1) (.int 7)) (.cons (.ret (.ix (.tup (.cons (.tup (.cons (.int 1) (.cons (.int 2) .nil))) (.cons (.tup (.cons (.int 1) (.cons (.int 2) .nil))) (.cons (.tup (.cons (.int 1) (.cons (.int 3) .nil))) (.cons (.tup (.cons (.int 2) (.cons (.int 3) .nil))) (.cons (.tup (.cons (.int 3) (.cons (.int 4) .nil))) (.cons (.tup (.cons (.int 1) (.cons (.int 4) .nil))) (.cons (.tup (.cons (.int 0) (.cons (.int 1) .nil))) .nil)))))))) (.var 1))) .nil) .nil) (.cons (.set 2 (.bin .add (.int 2) (.callS 1 (.cons (.int 60) .nil)))) (.cons (.ret (.call 33 (.cons (.callS 1 (.cons (.var 2) .nil)) (.cons (.var 2) .nil)))) .nil))))
def b39 : SL := (.cons (.own 2 (.lst .nil)) (.cons (.fo (.nm 3) (.rng (.var 1)) (.cons (.ifs (.cmp .eq (.callS 1 (.cons (.int 14) .nil)) (.int 13)) (.cons (.app 2 (.call 33 (.cons (.bin .sub (.callS 1 (.cons (.int 20000001) .nil)) (.int 10000000)) (.cons (.bin .add (.int 1) (.callS 1 (.cons (.int 60) .nil))) .nil)))) .nil) (.cons (.app 2 (.call 33 (.cons (.bin .sub (.callS 1 (.cons (.int 8) .nil)) (.int 3)) (.cons (.callS 2 (.cons (.tup (.cons (.int 1) (.cons (.int 1) (.cons (.int 1) (.cons (.int 2) (.cons (.int 3) .nil)))))) .nil)) .nil)))) .nil)) .nil)) (.cons (.ret (.b1 .tuple (.peek 2))) .nil)))
def b40 : SL := (.cons (.own 2 (.lst .nil)) (.cons (.fo (.nm 3) (.rng (.var 1)) (.cons (.set 4 (.callS 1 (.cons (.int 13) .nil))) (.cons (.app 2 (.ite (.cmp .lt (.var 4) (.int 12)) (.ix (.tup (.cons (.int 0) (.cons (.int 1) (.cons (.int 0) (.cons (.int 1) (.cons (.int 2) (.cons (.int 0) (.cons (.int 1) (.cons (.int 3) (.cons (.int 0) (.cons (.int 1) (.cons (.int 2) (.cons (.int 0) .nil))))))))))))) (.var 4)) (.bin .add (.int 4) (.callS 1 (.cons (.int 40) .nil))))) .nil))) (.cons (.ifs (.cmp .eq (.b1 .sum (.peek 2)) (.int 0)) (.cons (.setIx 2 (.callS 1 (.cons (.var 1) .nil)) (.int 1)) .nil) .nil) (.cons (.frz 2) (.cons (.ret (.var 2)) .nil)))))
def b41 : SL := (.cons (.set 2 (.callS 40 (.cons (.var 1) .nil))) (.cons (.ret (.b1 .tuple (.comp [3] (.nm 3) (.rng (.var 1)) (.yes (.cmp .gt (.ix (.var 2) (.var 3)) (.int 0))) (.tup (.cons (.var 3) (.cons (.call 33 (.cons (.ix (.var 2) (.var 3)) (.cons (.b1 .sum (.var 2)) .nil))) .nil)))))) .nil))
def b42 : SL := (.cons (.set 2 (.callS 40 (.cons (.var 1) .nil))) (.cons (.ret (.b1 .tuple (.comp [3] (.nm 3) (.seq (.var 2)) .no (.call 33 (.cons (.var 3) (.cons (.b1 .sum (.var 2)) .nil)))))) .nil))
def b43 : SL := (.cons (.par [(3, false), (4, true)] (.cons (.callS 38 .nil) (.cons (.lst .nil) .nil))) (.cons (.fo (.nm 5) (.seq (.var 1)) (.cons (.own 6 (.lst .nil)) (.cons (.fo (.nm 7) (.rng (.var 5)) (.cons (.ifs (.and (.cons (.cmp .ne (.peek 6) (.lst .nil)) (.cons (.cmp .eq (.callS 1 (.cons (.int 9) .nil)) (.int 8)) .nil))) (.cons (.app 6 (.ix (.peek 6) (.int 0))) .nil) (.cons (.set 8 (.callS 41 (.cons (.b1 .len (.var 1)) .nil))) (.cons (.app 6 (.tup (.cons (.var 8) (.cons (.callS 39 (.cons (.var 2) .nil)) .nil)))) .nil))) .nil)) (.cons (.app 4 (.b1 .tuple (.peek 6))) .nil)))) (.cons (.ret (.tup (.cons (.var 3) (.cons (.var 2) (.cons (.b1 .tuple (.peek 4)) .nil))))) .nil)))
def b44 : SL := (.cons (.own 4 (.lst .nil)) (.cons (.fo (.nm 5) (.rng (.bin .add (.int 1) (.callS 1 (.cons (.var 1) .nil)))) (.cons (.app 4 (.bin .add (.int 1) (.callS 1 (.cons (.var 2) .nil)))) .nil)) (.cons (.frz 4) (.cons (.ret (.callS 43 (.cons (.var 4) (.cons (.var 3) .nil)))) .nil))))
def b45 : SL := (.cons (.own 2 (.lst .nil)) (.cons (.fo (.nm 3) (.seq (.ix (.var 0) (.int 2))) (.cons (.app 2 (.b1 .tuple (.comp [4] (.nm 4) (.seq (.var 3)) .no (.tup (.cons (.ix (.var 4) (.int 0)) (.cons (.tup (.cons (.call 37 (.cons (.var 1) (.cons (.ix (.var 4) (.int 1)) .nil))) .nil)) .nil)))))) .nil)) (.cons (.ret (.tup (.cons (.ix (.var 0) (.int 0)) (.cons (.int 1) (.cons (.b1 .tuple (.peek 2)) .nil))))) .nil)))
def b46 : SL := (.cons (.ret (.and (.cons (.isi .int (.var 0)) (.cons (.not (.isi .bool (.var 0))) .nil)))) .nil)
def b47 : SL := (.cons (.ret (.and (.cons (.isi .tuple (.var 0)) (.cons (.cmp .eq (.b1 .len (.var 0)) (.var 1)) .nil)))) .nil)
def b48 : SL := (.cons (.ifs (.or (.cons (.not (.call 47 (.cons (.var 0) (.cons (.int 2) .nil)))) (.cons (.not (.call 46 (.cons (.ix (.var 0) (.int 0)) .nil))) (.cons (.not (.call 46 (.cons (.ix (.var 0) (.int 1)) .nil))) .nil)))) (.cons (.ret (.bl false)) .nil) .nil) (.cons (.ret (.and (.cons (.cmp .gt (.ix (.var 0) (.int 1)) (.int 0)) (.cons (.cmp .eq (.call 33 (.cons (.ix (.var 0) (.int 0)) (.cons (.ix (.var 0) (.int 1)) .nil))) (.var 0)) .nil)))) .nil))
def b49 : SL := (.cons (.ret (.and (.cons (.call 47 (.cons (.var 0) (.cons (.var 1) .nil))) (.cons (.b1 .all (.comp [2] (.nm 2) (.seq (.var 0)) .no (.call 48 (.cons (.var 2) .nil)))) .nil)))) .nil)
def b50 : SL := (.cons (.ifs (.not (.call 49 (.cons (.var 0) (.cons (.var 1) .nil)))) (.cons (.ret (.bl false)) .nil) .nil) (.cons (.ret (.and (.cons (.b1 .all (.comp [2] (.nm 2) (.seq (.var 0)) .no (.cmp .ge (.ix (.var 2) (.int 0)) (.int 0)))) (.cons (.cmp .eq (.call 36 (.cons (.var 0) .nil)) (.tup (.cons (.int 1) (.cons (.int 1) .nil)))) .nil)))) .nil))
def b51 : SL := (.cons (.ifs (.or (.cons (.not (.call 47 (.cons (.var 0) (.cons (.int 2) .nil)))) (.cons (.not (.isi .tuple (.ix (.var 0) (.int 0)))) (.cons (.not (.call 49 (.cons (.ix (.var 0) (.int 1)) (.cons (.var 1) .nil)))) .nil)))) (.cons (.ret (.bl false)) .nil) .nil) (.cons (.par [(3, false), (4, false)] (.cons (.neg (.int 1)) (.cons (.tup (.cons (.int 0) (.cons (.int 1) .nil))) .nil))) (.cons (.fo (.nm 5) (.seq (.ix (.var 0) (.int 0))) (.cons (.ifs (.or (.cons (.not (.call 47 (.cons (.var 5) (.cons (.int 2) .nil)))) (.cons (.not (.call 46 (.cons (.ix (.var 5) (.int 0)) .nil))) (.cons (.not (.call 48 (.cons (.ix (.var 5) (.int 1)) .nil))) .nil)))) (.cons (.ret (.bl false)) .nil) .nil) (.cons (.ifs (.or (.cons (.not (.chain .lt .lt (.var 3) (.ix (.var 5) (.int 0)) (.var 2))) (.cons (.cmp .le (.ix (.ix (.var 5) (.int 1)) (.int 0)) (.int 0)) .nil))) (.cons (.ret (.bl false)) .nil) .nil) (.cons (.par [(3, false), (4, false)] (.cons (.ix (.var 5) (.int 0)) (.cons (.call 34 (.cons (.var 4) (.cons (.ix (.var 5) (.int 1)) .nil))) .nil))) .nil)))) (.cons (.ret (.cmp .eq (.var 4) (.tup (.cons (.int 1) (.cons (.int 1) .nil))))) .nil))))
def b52 : SL := (.cons (.ifs (.or (.cons (.not (.call 47 (.cons (.var 0) (.cons (.int 3) .nil)))) (.cons (.not (.call 48 (.cons (.ix (.var 0) (.int 0)) .nil))) (.cons (.not (.call 46 (.cons (.ix (.var 0) (.int 1)) .nil))) .nil)))) (.cons (.ret (.bl false)) .nil) .nil) (.cons (.ifs (.or (.cons (.not (.chain .le .lt (.int 0) (.ix (.ix (.var 0) (.int 0)) (.int 0)) (.ix (.ix (.var 0) (.int 0)) (.int 1)))) (.cons (.not (.chain .le .le (.int 1) (.ix (.var 0) (.int 1)) (.int 4))) .nil))) (.cons (.ret (.bl false)) .nil) .nil) (.cons (.ifs (.or (.cons (.not (.isi .tuple (.ix (.var 0) (.int 2)))) (.cons (.not (.chain .le .le (.int 1) (.b1 .len (.ix (.var 0) (.int 2))) (.int 8))) .nil))) (.cons (.ret (.bl false)) .nil) .nil) (.cons (.fo (.nm 1) (.seq (.ix (.var 0) (.int 2))) (.cons (.ifs (.or (.cons (.not (.isi .tuple (.var 1))) (.cons (.not (.chain .le .le (.int 1) (.b1 .len (.var 1)) (.int 4))) .nil))) (.cons (.ret (.bl false)) .nil) .nil) (.cons (.ifs (.not (.b1 .all (.comp [2] (.nm 2) (.seq (.var 1)) .no (.call 51 (.cons (.var 2) (.cons (.ix (.var 0) (.int 1)) (.cons (.b1 .len (.ix (.var 0) (.int 2))) .nil))))))) (.cons (.ret (.bl false)) .nil) .nil) .nil))) (.cons (.ret (.bl true)) .nil)))))
def b53 : SL := (.cons (.ret (.callS 2 (.cons (.tup (.cons .non (.cons (.bl true) (.cons (.bl false) (.cons (.int 0) (.cons (.int 1) (.cons (.int 2) (.cons (.int 3) (.cons (.int 7) (.cons (.neg (.int 1)) (.cons (.int 61) (.cons (.str "") (.cons (.str "a") (.cons (.str "1/2") (.cons (.tup .nil) (.cons (.tup (.cons (.int 0) .nil)) (.cons (.tup (.cons (.int 1) .nil)) (.cons (.tup (.cons (.int 0) (.cons (.int 1) .nil))) (.cons (.tup (.cons (.int 1) (.cons (.int 1) .nil))) (.cons (.tup (.cons (.int 1) (.cons (.int 2) .nil))) (.cons (.tup (.cons (.int 2) (.cons (.int 4) .nil))) (.cons (.tup (.cons (.int 0) (.cons (.int 2) .nil))) (.cons (.tup (.cons (.int 1) (.cons (.int 0) .nil))) (.cons (.tup (.cons (.neg (.int 1)) (.cons (.int 2) .nil))) (.cons (.tup (.cons (.int 1) (.cons (.neg (.int 2)) .nil))) (.cons (.tup (.cons (.bl true) (.cons (.int 2) .nil))) (.cons (.tup (.cons (.int 1) (.cons (.bl true) .nil))) (.cons (.tup (.cons (.tup (.cons (.int 0) (.cons (.int 1) .nil))) .nil)) (.cons (.tup (.cons (.tup (.cons (.int 1) (.cons (.int 1) .nil))) .nil)) (.cons (.tup (.cons (.int 0) (.cons (.int 1) (.cons (.int 0) .nil)))) (.cons (.tup (.cons (.tup (.cons (.int 1) (.cons (.int 2) .nil))) (.cons (.tup (.cons (.int 1) (.cons (.int 2) .nil))) .nil))) (.cons (.tup (.cons (.tup (.cons (.int 1) (.cons (.int 1) .nil))) (.cons (.tup (.cons (.int 0) (.cons (.int 1) .nil))) .nil))) (.cons (.tup (.cons (.tup (.cons (.tup (.cons (.int 1) (.cons (.int 1) .nil))) .nil)) .nil)) (.cons (.tup (.cons (.int 0) (.cons (.int 0) (.cons (.int 0) .nil)))) (.cons (.tup (.cons (.tup (.cons (.int 1) (.cons (.int 1) .nil))) (.cons (.tup (.cons (.int 1) (.cons (.int 1) .nil))) (.cons (.tup (.cons (.int 1) (.cons (.int 1) .nil))) .nil)))) (.cons (.tup (.cons .non .nil)) (.cons (.tup (.cons (.tup .nil) .nil)) (.cons (.lst .nil) (.cons (.lst (.cons (.int 1) .nil)) (.cons (.lst (.cons (.tup (.cons (.int 1) (.cons (.int 1) .nil))) .nil)) (.cons (.lst (.cons (.lst (.cons (.tup (.cons (.int 1) (.cons (.int 1) .nil))) .nil)) .nil)) (.cons .dic0 (.cons (.dic1 "a" (.int 1)) (.cons (.tup (.cons (.str "a") (.cons .non .nil))) .nil)))))))))))))))))))))))))))))))))))))))))))) .nil))) .nil)
def b54 : SL := (.cons (.ifs (.and (.cons (.cmp .eq (.b1 .len (.var 0)) (.int 2)) (.cons (.isi .int (.ix (.var 0) (.int 0))) (.cons (.isi .int (.ix (.var 0) (.int 1))) .nil)))) (.cons (.ret (.tup (.cons (.bin .mul (.ix (.var 0) (.int 0)) (.int 2)) (.cons (.bin .mul (.ix (.var 0) (.int 1)) (.int 2)) .nil)))) .nil) .nil) (.cons (.ret (.bin .add (.var 0) (.var 0))) .nil))
def b55 : SL := (.cons (.ifs (.and (.cons (.isi .tuple (.var 1)) (.cons (.cmp .gt (.b1 .len (.var 1)) (.int 0)) (.cons (.cmp .gt (.callS 1 (.cons (.int 7) .nil)) (.int 0)) .nil)))) (.cons (.set 2 (.callS 1 (.cons (.b1 .len (.var 1)) .nil))) (.cons (.ret (.bin .add (.bin .add (.slc (.var 1) .no (.yes (.var 2))) (.tup (.cons (.callS 55 (.cons (.ix (.var 1) (.var 2)) .nil)) .nil))) (.slc (.var 1) (.yes (.bin .add (.var 2) (.int 1))) .no))) .nil)) .nil) (.cons (.set 3 (.callS 1 (.cons (.int 9) .nil))) (.cons (.ifs (.and (.cons (.isi .tuple (.var 1)) (.cons (.cmp .lt (.var 3) (.int 7)) .nil))) (.cons (.set 4 (.call 54 (.cons (.var 1) .nil))) (.cons (.ret (.ix (.tup (.cons (.bin .add (.var 1) (.slc (.var 1) (.yes (.neg (.int 1))) .no)) (.cons (.slc (.var 1) (.yes (.int 1)) .no) (.cons (.slc (.var 1) .no (.yes (.neg (.int 1)))) (.cons (.rev (.var 1)) (.cons (.b1 .list (.var 1)) (.cons (.tup (.cons (.var 1) .nil)) (.cons (.var 4) .nil)))))))) (.var 3))) .nil)) .nil) (.cons (.ifs (.and (.cons (.isi .int (.var 1)) (.cons (.cmp .lt (.var 3) (.int 7)) .nil))) (.cons (.ret (.ix (.tup (.cons (.bin .sub (.var 1) (.int 1)) (.cons (.bin .add (.var 1) (.int 1)) (.cons (.bin .sub (.int 0) (.var 1)) (.cons (.bin .mul (.var 1) (.int 2)) (.cons (.cmp .gt (.var 1) (.int 0)) (.cons (.bin .add (.var 1) (.int 7)) (.cons (.b1 .str (.var 1)) .nil)))))))) (.var 3))) .nil) .nil) (.cons (.ret (.callS 53 .nil)) .nil)))))
def b56 : SL := (.cons (.set 2 (.callS 1 (.cons (.int 10) .nil))) (.cons (.ifs (.cmp .lt (.var 2) (.int 6)) (.cons (.ret (.var 1)) .nil) .nil) (.cons (.ret (.ite (.cmp .lt (.var 2) (.int 9)) (.callS 55 (.cons (.var 1) .nil)) (.callS 53 .nil))) .nil)))
def b57 : SL := (.cons (.par [(1, false), (2, true), (3, false)] (.cons (.callS 1 (.cons (.int 4) .nil)) (.cons (.lst .nil) (.cons (.int 1) .nil)))) (.cons (.ifs (.cmp .eq (.var 1) (.int 0)) (.cons (.fo (.nm 4) (.rng (.bin .add (.int 8) (.callS 1 (.cons (.int 2) .nil)))) (.cons (.app 2 (.bin .add (.int 1) (.callS 1 (.cons (.int 2) .nil)))) .nil)) .nil) .nil) (.cons (.ifs (.cmp .eq (.var 1) (.int 1)) (.cons (.own 2 (.lst (.cons (.bin .add (.int 1) (.callS 1 (.cons (.int 2) .nil))) (.cons (.bin .add (.int 4) (.callS 1 (.cons (.int 2) .nil))) .nil)))) .nil) .nil) (.cons (.ifs (.cmp .gt (.var 1) (.int 1)) (.cons (.par [(2, false), (3, false)] (.cons (.lst (.cons (.int 1) (.cons (.bin .add (.int 1) (.callS 1 (.cons (.int 3) .nil))) .nil))) (.cons (.ix (.tup (.cons (.int 0) (.cons (.int 4) (.cons (.int 5) .nil)))) (.callS 1 (.cons (.int 3) .nil))) .nil))) .nil) (.cons (.frz 2) .nil)) (.cons (.ret (.callS 43 (.cons (.var 2) (.cons (.var 3) .nil)))) .nil)))))
def b494 : SL := (.cons (.ifs (.or (.cons (.not (.isi .tuple (.var 0))) (.cons (.not (.call 15 (.cons (.b1 .len (.var 0)) (.cons (.int 1) (.cons (.int 4) .nil))))) .nil))) (.cons (.ret (.bl false)) .nil) .nil) (.cons (.ret (.b1 .all (.comp [2] (.nm 2) (.seq (.var 0)) .no (.and (.cons (.call 16 (.cons (.var 2) (.cons (.int 2) .nil))) (.cons (.call 19 (.cons (.ix (.var 2) (.int 1)) (.cons (.var 1) .nil))) .nil)))))) .nil))
def b495 : SL := (.cons (.ifs (.not (.call 16 (.cons (.var 0) (.cons (.int 3) .nil)))) (.cons (.ret (.bl false)) .nil) .nil) (.cons (.asg (.tp (.cons (.nm 1) (.cons (.nm 2) (.cons (.nm 3) .nil)))) (.var 0)) (.cons (.ifs (.or (.cons (.not (.call 18 (.cons (.var 1) .nil))) (.cons (.cmp .ge (.ix (.var 1) (.int 0)) (.ix (.var 1) (.int 1))) (.cons (.not (.call 15 (.cons (.var 2) (.cons (.int 1) (.cons (.int 4) .nil))))) .nil)))) (.cons (.ret (.bl false)) .nil) .nil) (.cons (.ifs (.or (.cons (.not (.isi .tuple (.var 3))) (.cons (.not (.call 15 (.cons (.b1 .len (.var 3)) (.cons (.int 1) (.cons (.int 8) .nil))))) .nil))) (.cons (.ret (.bl false)) .nil) .nil) (.cons (.ret (.b1 .all (.comp [4] (.nm 4) (.seq (.var 3)) .no (.call 494 (.cons (.var 4) (.cons (.var 2) .nil)))))) .nil)))))
def b496 : SL := (.cons (.ret (.comp2 [1, 2, 3] (.nm 1) (.seq (.ix (.var 0) (.int 2))) .no (.tp (.cons (.nm 2) (.cons (.nm 3) .nil))) (.seq (.var 1)) .no (.var 2))) .nil)
def b497 : SL := (.cons (.ret (.and (.cons (.call 495 (.cons (.var 0) .nil)) (.cons (.b1 .all (.comp [1] (.nm 1) (.seq (.call 496 (.cons (.var 0) .nil))) .no (.call 24 (.cons (.var 1) (.cons (.b1 .len (.ix (.var 0) (.int 2))) .nil))))) .nil)))) .nil)
def b498 : SL := (.cons (.ifs (.not (.call 497 (.cons (.var 0) .nil))) (.cons .never .nil) .nil) .nil)
def b499 : SL := (.cons (.expr (.call 498 (.cons (.var 0) .nil))) (.cons (.ret (.call 23 (.cons (.var 1) (.cons (.b1 .len (.ix (.var 0) (.int 2))) .nil)))) .nil))
def b500 : SL := (.cons (.asg (.tp (.cons (.nm 2) (.cons (.nm 3) (.cons (.nm 4) .nil)))) (.var 0)) (.cons (.own 5 (.lst .nil)) (.cons (.fo (.nm 6) (.seq (.var 4)) (.cons (.app 5 (.b1 .tuple (.comp [7, 8] (.tp (.cons (.nm 7) (.cons (.nm 8) .nil))) (.seq (.var 6)) .no (.tup (.cons (.var 7) (.cons (.tup (.cons (.call 21 (.cons (.var 1) (.cons (.var 8) .nil))) .nil)) .nil)))))) .nil)) (.cons (.ret (.tup (.cons (.var 2) (.cons (.int 1) (.cons (.b1 .tuple (.peek 5)) .nil))))) .nil))))
def b501 : SL := (.cons (.expr (.call 498 (.cons (.var 0) .nil))) (.cons (.expr (.call 30 (.cons (.var 0) (.cons (.var 1) .nil)))) (.cons (.ret (.call 500 (.cons (.var 0) (.cons (.var 1) .nil)))) .nil)))
def b502 : SL := (.cons (.set 1 (.callS 44 (.cons (.int 3) (.cons (.int 3) (.cons (.bin .add (.int 1) (.callS 1 (.cons (.int 4) .nil))) .nil))))) (.cons (.set 2 (.callS 56 (.cons (.ite (.cmp .eq (.callS 1 (.cons (.int 3) .nil)) (.int 2)) (.callS 57 .nil) (.var 1)) .nil))) (.cons (.set 3 (.callS 56 (.cons (.callS 42 (.cons (.b1 .len (.ix (.var 1) (.int 2))) .nil)) .nil))) (.cons (.set 4 (.callS 39 (.cons (.ix (.var 1) (.int 1)) .nil))) (.cons (.set 5 (.lst (.cons (.call 497 (.cons (.var 1) .nil)) (.cons (.call 497 (.cons (.var 2) .nil)) (.cons (.callK 497 [0] (.cons (.var 2) .nil)) (.cons (.call 499 (.cons (.var 1) (.cons (.var 3) .nil))) .nil)))))) (.cons (.set 5 (.bin .add (.var 5) (.lst (.cons (.callK 499 [1, 0] (.cons (.var 3) (.cons (.var 1) .nil))) .nil)))) (.cons (.set 6 (.call 50 (.cons (.var 3) (.cons (.b1 .len (.ix (.var 1) (.int 2))) .nil)))) (.cons (.ifs (.cmp .ne (.b1 .repr (.var 5)) (.b1 .repr (.lst (.cons (.bl true) (.cons (.call 52 (.cons (.var 2) .nil)) (.cons (.call 52 (.cons (.var 2) .nil)) (.cons (.var 6) (.cons (.var 6) .nil)))))))) (.cons (.ret (.bl false)) .nil) .nil) (.cons (.set 7 (.lst (.cons (.call 501 (.cons (.var 1) (.cons (.var 4) .nil))) (.cons (.callK 501 [1, 0] (.cons (.var 4) (.cons (.var 1) .nil))) .nil)))) (.cons (.ret (.cmp .eq (.b1 .repr (.var 7)) (.b1 .repr (.bin .mul (.lst (.cons (.call 45 (.cons (.var 1) (.cons (.var 4) .nil))) .nil)) (.int 2))))) .nil))))))))))
def b503 : SL := (.cons (.ret (.b1 .all (.comp [1] (.nm 1) (.rng (.b2 .max (.int 2) (.b2 .min (.b1 .len (.var 0)) (.int 5)))) .no (.callP 502 32 (.cons (.var 0) (.cons (.var 1) .nil)))))) .nil)
end Bt

/-! S0 -/
set_option Elab.async false
set_option linter.all false
set_option maxRecDepth 100000
set_option maxHeartbeats 4000000
namespace Sp
open PySem DH Bt Rx
theorem atI_of {ds : List D} {k : Nat} {d : D} (h : ds[k]? = some d) : L2.atI ds (k : Int) = some d := by
  unfold L2.atI L2.ixN
  have hk : k < ds.length := (List.getElem?_eq_some_iff.mp h).1
  have hk2 : (k : Int) < ds.length := by omega
  simp [h, hk2]
theorem ixT {ds : List D} {k : Nat} {d : D} {Q : D → Prop} (h : ds[k]? = some d) : ixW (.tuple ds) (.int (k : Nat)) Q = Q d := by
  apply propext
  simp only [ixW, atI_of h]
  exact ⟨fun ⟨_, e, q⟩ => by cases e; exact q, fun q => ⟨_, rfl, q⟩⟩
theorem ixL {ds : List D} {k : Nat} {d : D} {Q : D → Prop} (h : ds[k]? = some d) : ixW (.list ds) (.int (k : Nat)) Q = Q d := by
  apply propext
  simp only [ixW, atI_of h]
  exact ⟨fun ⟨_, e, q⟩ => by cases e; exact q, fun q => ⟨_, rfl, q⟩⟩
theorem ixT0 {x : D} {xs : List D} {Q : D → Prop} : ixW (.tuple (x :: xs)) (.int 0) Q = Q x := ixT (k := 0) rfl
theorem ixT1 {x y : D} {xs : List D} {Q : D → Prop} : ixW (.tuple (x :: y :: xs)) (.int 1) Q = Q y := ixT (k := 1) rfl
theorem ixT2 {x y z : D} {xs : List D} {Q : D → Prop} : ixW (.tuple (x :: y :: z :: xs)) (.int 2) Q = Q z := ixT (k := 2) rfl
theorem ixL0 {x : D} {xs : List D} {Q : D → Prop} : ixW (.list (x :: xs)) (.int 0) Q = Q x := ixL (k := 0) rfl
theorem ixL1 {x y : D} {xs : List D} {Q : D → Prop} : ixW (.list (x :: y :: xs)) (.int 1) Q = Q y := ixL (k := 1) rfl
theorem ixL2 {x y z : D} {xs : List D} {Q : D → Prop} : ixW (.list (x :: y :: z :: xs)) (.int 2) Q = Q z := ixL (k := 2) rfl
/-! ### fractions -/
def fr (r : Rat) : D := .tuple [.int r.num, .int (r.den : Int)]
theorem fr_inj {r s : Rat} : fr r = fr s ↔ r = s := by
  constructor
  · intro h
    unfold fr at h
    simp only [PyData.tuple.injEq, List.cons.injEq, PyData.int.injEq] at h
    exact Rat.ext h.1 (by exact_mod_cast h.2.1)
  · rintro rfl; rfl
theorem fr0 : PyData.tuple [.int 0, .int 1] = fr 0 := rfl
theorem fr1 : PyData.tuple [.int 1, .int 1] = fr 1 := rfl
theorem fr_num {r : Rat} {Q : D → Prop} : ixW (fr r) (.int 0) Q = Q (.int r.num) := ixT0
theorem fr_den {r : Rat} {Q : D → Prop} : ixW (fr r) (.int 1) Q = Q (.int (r.den : Int)) := ixT1
def qeq (r s : Rat) : Bool := decide (r = s)
theorem qeq_iff {r s : Rat} : qeq r s = true ↔ r = s := decide_eq_true_iff
theorem frEq {r s : Rat} {Q : Bool → Prop} : cmpW .eq (fr r) (fr s) Q = Q (qeq r s) := by
  unfold fr qeq
  rw [cEqP]
  congr 1
  by_cases e : r = s
  · subst e
    simp
  · have : ¬ (r.num = s.num ∧ (r.den : Int) = s.den) := fun ⟨h1, h2⟩ => e (Rat.ext h1 (by exact_mod_cast h2))
    rw [decide_eq_false e]
    cases h1 : decide (r.num = s.num) with
    | false => rfl
    | true => exact decide_eq_false fun h2 => this ⟨of_decide_eq_true h1, h2⟩
/-- calculate; what stands in brackets too -/
local macro_rules | `(tactic| dsimp! [$ls,*]) => `(tactic| simp only [wSs_nil, wSs_cons, wS_set, wS_own, wS_asg, wS_par, wS_app, wS_setIx, wS_ret, wS_ifs, wS_brk, wS_pass, wS_expr, wS_frz, wS_sprS, wS_sprD, wS_ext, wS_aug, wE_m1, wE_dget, wE_var, wE_peek, wE_glob, wE_non, wE_bl, wE_int, wE_str, wE_tup, wE_lst, wE_bin, wE_neg, wE_not, wE_and, wE_or, wE_ite, wE_cmp, wE_chain, wE_ix, wE_slc, wE_rev,
  wE_call, wE_callS, wE_callK, wE_callP, wE_spr, wE_b1, wE_b2, wE_isi, wE_dic0, wE_dic1, wL_nil, wL_cons, wA_1, wA_2, wO_1, wO_2, wP_no, wP_yes, wC_no, wC_yes, cEq, cNe, cLt, cLe, cGt, cGe, truB, truT, truL, bAdd, bSub, bMul, bDiv, bMod, uLenT, uLenL, uTupL, uInt, uAbs, vGcd, vMax, vMin,
  e0F, e0T, gV, gO, parE, isiD, List.map_cons, List.map_nil, List.replicate, List.nil_append, List.append_nil, List.cons_append, List.getElem?_cons_zero, List.getElem?_cons_succ, List.set_cons_zero, List.set_cons_succ, Option.some.injEq, Sl.val.injEq, Sl.own.injEq, exists_eq_left', exists_eq_left, PyData.bool.injEq, PyData.int.injEq, PyData.list.injEq, PyData.tuple.injEq, Bool.false_eq_true, if_false, if_true, Bool.not_true, Bool.not_false,
  ixT0, ixT1, ixT2, ixL0, ixL1, ixL2, fr_num, fr_den, frEq, fr0, fr1, decide_true, decide_false, $ls,*])
local macro_rules | `(tactic| dsimp! [$ls,*] at $h:ident) => `(tactic| simp only [wSs_nil, wSs_cons, wS_set, wS_own, wS_asg, wS_par, wS_app, wS_setIx, wS_ret, wS_ifs, wS_brk, wS_pass, wS_expr, wS_frz, wS_sprS, wS_sprD, wS_ext, wS_aug, wE_m1, wE_dget, wE_var, wE_peek, wE_glob, wE_non, wE_bl, wE_int, wE_str, wE_tup, wE_lst, wE_bin, wE_neg, wE_not, wE_and, wE_or, wE_ite, wE_cmp, wE_chain, wE_ix, wE_slc, wE_rev,
  wE_call, wE_callS, wE_callK, wE_callP, wE_spr, wE_b1, wE_b2, wE_isi, wE_dic0, wE_dic1, wL_nil, wL_cons, wA_1, wA_2, wO_1, wO_2, wP_no, wP_yes, wC_no, wC_yes, cEq, cNe, cLt, cLe, cGt, cGe, truB, truT, truL, bAdd, bSub, bMul, bDiv, bMod, uLenT, uLenL, uTupL, uInt, uAbs, vGcd, vMax, vMin,
  e0F, e0T, gV, gO, parE, isiD, List.map_cons, List.map_nil, List.replicate, List.nil_append, List.append_nil, List.cons_append, List.getElem?_cons_zero, List.getElem?_cons_succ, List.set_cons_zero, List.set_cons_succ, Option.some.injEq, Sl.val.injEq, Sl.own.injEq, exists_eq_left', exists_eq_left, PyData.bool.injEq, PyData.int.injEq, PyData.list.injEq, PyData.tuple.injEq, Bool.false_eq_true, if_false, if_true, Bool.not_true, Bool.not_false,
  ixT0, ixT1, ixT2, ixL0, ixL1, ixL2, fr_num, fr_den, frEq, fr0, fr1, decide_true, decide_false, $ls,*] at $h:ident)
end Sp

/-! S1 -/
set_option Elab.async false
set_option linter.all false
set_option maxRecDepth 100000
set_option maxHeartbeats 4000000
namespace Sp
open PySem DH Bt Rx
local macro_rules | `(tactic| dsimp! [$ls,*]) => `(tactic| simp only [wSs_nil, wSs_cons, wS_set, wS_own, wS_asg, wS_par, wS_app, wS_setIx, wS_ret, wS_ifs, wS_brk, wS_pass, wS_expr, wS_frz, wS_sprS, wS_sprD, wS_ext, wS_aug, wE_m1, wE_dget, wE_var, wE_peek, wE_glob, wE_non, wE_bl, wE_int, wE_str, wE_tup, wE_lst, wE_bin, wE_neg, wE_not, wE_and, wE_or, wE_ite, wE_cmp, wE_chain, wE_ix, wE_slc, wE_rev,
  wE_call, wE_callS, wE_callK, wE_callP, wE_spr, wE_b1, wE_b2, wE_isi, wE_dic0, wE_dic1, wL_nil, wL_cons, wA_1, wA_2, wO_1, wO_2, wP_no, wP_yes, wC_no, wC_yes, cEq, cNe, cLt, cLe, cGt, cGe, truB, truT, truL, bAdd, bSub, bMul, bDiv, bMod, uLenT, uLenL, uTupL, uInt, uAbs, vGcd, vMax, vMin,
  e0F, e0T, gV, gO, parE, isiD, List.map_cons, List.map_nil, List.replicate, List.nil_append, List.append_nil, List.cons_append, List.getElem?_cons_zero, List.getElem?_cons_succ, List.set_cons_zero, List.set_cons_succ, Option.some.injEq, Sl.val.injEq, Sl.own.injEq, exists_eq_left', exists_eq_left, PyData.bool.injEq, PyData.int.injEq, PyData.list.injEq, PyData.tuple.injEq, Bool.false_eq_true, if_false, if_true, Bool.not_true, Bool.not_false,
  ixT0, ixT1, ixT2, ixL0, ixL1, ixL2, fr_num, fr_den, frEq, fr0, fr1, decide_true, decide_false, $ls,*])
local macro_rules | `(tactic| dsimp! [$ls,*] at $h:ident) => `(tactic| simp only [wSs_nil, wSs_cons, wS_set, wS_own, wS_asg, wS_par, wS_app, wS_setIx, wS_ret, wS_ifs, wS_brk, wS_pass, wS_expr, wS_frz, wS_sprS, wS_sprD, wS_ext, wS_aug, wE_m1, wE_dget, wE_var, wE_peek, wE_glob, wE_non, wE_bl, wE_int, wE_str, wE_tup, wE_lst, wE_bin, wE_neg, wE_not, wE_and, wE_or, wE_ite, wE_cmp, wE_chain, wE_ix, wE_slc, wE_rev,
  wE_call, wE_callS, wE_callK, wE_callP, wE_spr, wE_b1, wE_b2, wE_isi, wE_dic0, wE_dic1, wL_nil, wL_cons, wA_1, wA_2, wO_1, wO_2, wP_no, wP_yes, wC_no, wC_yes, cEq, cNe, cLt, cLe, cGt, cGe, truB, truT, truL, bAdd, bSub, bMul, bDiv, bMod, uLenT, uLenL, uTupL, uInt, uAbs, vGcd, vMax, vMin,
  e0F, e0T, gV, gO, parE, isiD, List.map_cons, List.map_nil, List.replicate, List.nil_append, List.append_nil, List.cons_append, List.getElem?_cons_zero, List.getElem?_cons_succ, List.set_cons_zero, List.set_cons_succ, Option.some.injEq, Sl.val.injEq, Sl.own.injEq, exists_eq_left', exists_eq_left, PyData.bool.injEq, PyData.int.injEq, PyData.list.injEq, PyData.tuple.injEq, Bool.false_eq_true, if_false, if_true, Bool.not_true, Bool.not_false,
  ixT0, ixT1, ixT2, ixL0, ixL1, ixL2, fr_num, fr_den, frEq, fr0, fr1, decide_true, decide_false, $ls,*] at $h:ident)
/-! ### looks at values -/
def isInt : D → Bool
  | .int _ => true
  | _ => false
theorem isInt_int (i : Int) : isInt (.int i) = true := rfl
def within (a b : Int) : D → Bool
  | .int i => decide (a ≤ i) && decide (i ≤ b)
  | _ => false
def isTup : D → Int → Bool
  | .tuple ds, n => decide ((ds.length : Int) = n)
  | _, _ => false
def sp14 : PSpec
  | [v], Q => Q (.bool (isInt v))
  | _, _ => False
theorem ok14 {T : Tb} : ∀ ds Q, sp14 ds Q → bodyW T 0 false b14 ds Q := by
  intro ds Q h
  match ds, h with
  | [d], h =>
    unfold bodyW b14
    cases d <;> (dsimp! []; exact h)
def sp15 : PSpec
  | [v, .int a, .int b], Q => Q (.bool (within a b v))
  | _, _ => False
theorem ok15 {T : Tb} (h14 : T.f 14 = sp14) : ∀ ds Q, sp15 ds Q → bodyW T 0 false b15 ds Q := by
  intro ds Q h
  match ds, h with
  | [d, .int a, .int b], h =>
    unfold bodyW b15
    cases d with
    | int i =>
      dsimp! [h14, sp14, isInt]
      dsimp! [sp15, within] at h
      cases e : decide (a ≤ i) <;> simpa [e] using h
    | _ => dsimp! [h14, sp14, isInt]; exact h
def sp16 : PSpec
  | [v, .int n], Q => Q (.bool (isTup v n))
  | _, _ => False
theorem ok16 {T : Tb} : ∀ ds Q, sp16 ds Q → bodyW T 0 false b16 ds Q := by
  intro ds Q h
  match ds, h with
  | [d, .int n], h =>
    unfold bodyW b16
    cases d <;> (dsimp! []; exact h)
/-! ### fractions -/
def isFrac : D → Bool
  | .tuple [.int a, .int b] => decide (0 < b) && decide ((Nat.gcd a.natAbs b.natAbs : Int) = 1)
  | _ => false
theorem frac_fr {v : D} : isFrac v = true ↔ ∃ r, v = fr r := by
  constructor
  · intro h
    unfold isFrac at h
    split at h
    · rename_i a b
      simp only [Bool.and_eq_true, decide_eq_true_eq] at h
      refine ⟨⟨a, b.natAbs, by omega, ?_⟩, ?_⟩
      · have := h.2
        unfold Nat.Coprime
        omega
      · unfold fr
        simp only [Int.natAbs_of_nonneg (Int.le_of_lt h.1)]
    · cases h
  · rintro ⟨r, rfl⟩
    have h1 := r.den_pos
    have h2 : Nat.gcd r.num.natAbs r.den = 1 := r.reduced
    simp [isFrac, fr, h1, h2]
theorem isFrac_fr (r : Rat) : isFrac (fr r) = true := frac_fr.mpr ⟨r, rfl⟩
/-- a value has the form of a pair of whole numbers, or the look says so -/
theorem pair_or (v : D) : (∃ a b, v = .tuple [.int a, .int b]) ∨ (isFrac v = false ∧ ((∃ ds, v = .tuple ds ∧ ds.length ≠ 2) ∨ (∃ x y, v = .tuple [x, y] ∧ isInt x = false) ∨ (∃ a y, v = .tuple [.int a, y] ∧ isInt y = false) ∨ ∀ n, isTup v n = false)) := by
  cases v with
  | tuple ds =>
    match ds with
    | [] => exact .inr ⟨rfl, .inl ⟨_, rfl, by simp⟩⟩
    | [x] => exact .inr ⟨by cases x <;> rfl, .inl ⟨_, rfl, by simp⟩⟩
    | [x, y] =>
      cases x with
      | int a =>
        cases y with
        | int b => exact .inl ⟨a, b, rfl⟩
        | _ => exact .inr ⟨rfl, .inr (.inr (.inl ⟨_, _, rfl, rfl⟩))⟩
      | _ => exact .inr ⟨by cases y <;> rfl, .inr (.inl ⟨_, _, rfl, rfl⟩)⟩
    | x :: y :: z :: r => exact .inr ⟨by unfold isFrac; split <;> simp_all, .inl ⟨_, rfl, by simp⟩⟩
  | _ => exact .inr ⟨rfl, .inr (.inr (.inr fun _ => rfl))⟩
def sp17 : PSpec
  | [v], Q => Q (.bool (isFrac v))
  | _, _ => False
theorem ok17 {T : Tb} (h14 : T.f 14 = sp14) (h16 : T.f 16 = sp16) : ∀ ds Q, sp17 ds Q → bodyW T 0 false b17 ds Q := by
  intro ds Q h
  match ds, h with
  | [d], h =>
    unfold bodyW b17
    dsimp! [sp17] at h
    rcases pair_or d with ⟨a, b, rfl⟩ | ⟨e, ⟨ds, rfl, h2⟩ | ⟨x, y, rfl, h2⟩ | ⟨x, y, rfl, h2⟩ | h2⟩
    · dsimp! [h14, h16, sp14, sp16, isTup, isInt, List.length_cons, List.length_nil]
      dsimp! [isFrac] at h
      cases e : decide (0 < b) <;> simpa [e] using h
    · rw [e] at h
      have h3 : ¬ (ds.length : Int) = 2 := by omega
      dsimp! [h14, h16, sp14, sp16, isTup, h3]
      exact h
    · rw [e] at h
      dsimp! [h14, h16, sp14, sp16, isTup, h2, List.length_cons, List.length_nil]
      exact h
    · rw [e] at h
      dsimp! [h14, h16, sp14, sp16, isTup, isInt_int, h2, List.length_cons, List.length_nil]
      exact h
    · rw [e] at h
      dsimp! [h14, h16, sp14, sp16, h2]
      exact h

/-- the same of the law's own -/
theorem ok46 {T : Tb} : ∀ ds Q, sp14 ds Q → bodyW T 0 false b46 ds Q := ok14
theorem ok47 {T : Tb} : ∀ ds Q, sp16 ds Q → bodyW T 0 false b47 ds Q := ok16
def isNN (v : D) : Bool := isFrac v && (match v with | .tuple (.int a :: _) => decide (0 ≤ a) | _ => false)
theorem nn_fr {v : D} : isNN v = true ↔ ∃ r, v = fr r ∧ 0 ≤ r := by
  unfold isNN
  constructor
  · intro h
    rw [Bool.and_eq_true] at h
    obtain ⟨r, rfl⟩ := frac_fr.mp h.1
    have h2 := h.2
    simp only [fr, decide_eq_true_eq] at h2
    exact ⟨r, rfl, Rat.num_nonneg.mp h2⟩
  · rintro ⟨r, rfl, h⟩
    rw [isFrac_fr]
    simp only [fr, Bool.true_and, decide_eq_true_eq]
    exact Rat.num_nonneg.mpr h
theorem nn_of_fr {r : Rat} : isNN (fr r) = decide (0 ≤ r) := by
  cases e : isNN (fr r) with
  | true =>
    obtain ⟨s, h, h2⟩ := nn_fr.mp e
    rw [fr_inj.mp h]
    simp [h2]
  | false =>
    symm
    rw [decide_eq_false_iff_not]
    intro h
    rw [nn_fr.mpr ⟨r, rfl, h⟩] at e
    cases e
theorem nn_not {v : D} (h : isFrac v = false) : isNN v = false := by
  unfold isNN
  rw [h]
  rfl
def sp18 : PSpec
  | [v], Q => Q (.bool (isNN v))
  | _, _ => False
theorem ok18 {T : Tb} (h17 : T.f 17 = sp17) : ∀ ds Q, sp18 ds Q → bodyW T 0 false b18 ds Q := by
  intro ds Q h
  match ds, h with
  | [d], h =>
    unfold bodyW b18
    dsimp! [sp18] at h
    dsimp! [h17, sp17]
    cases e : isFrac d with
    | false =>
      rw [nn_not e] at h
      exact h
    | true =>
      obtain ⟨r, rfl⟩ := frac_fr.mp e
      rw [nn_of_fr] at h
      dsimp! []
      simpa [Rat.num_nonneg] using h
/-! ### ratio -/
/-- both parts by the common divisor, the sign at the top -/
theorem div_parts {a b : Int} (h : 0 < b) : (Rat.divInt a b).num = a.fdiv (Nat.gcd a.natAbs b.natAbs : Nat) ∧ ((Rat.divInt a b).den : Int) = b.fdiv (Nat.gcd a.natAbs b.natAbs : Nat) := by
  have hg : (0 : Int) ≤ (Nat.gcd a.natAbs b.natAbs : Nat) := Int.natCast_nonneg _
  rw [Int.fdiv_eq_ediv_of_nonneg _ hg, Int.fdiv_eq_ediv_of_nonneg _ hg, Rat.num_divInt, Rat.den_divInt]
  have hb : b.sign = 1 := Int.sign_eq_one_of_pos h
  rw [hb, Int.one_mul, if_neg (by omega)]
  refine ⟨?_, ?_⟩
  · rw [Int.gcd_comm]
    rfl
  · have e : (b.natAbs : Int) = b := Int.natAbs_of_nonneg (by omega)
    rw [Int.natCast_ediv, e, Int.gcd_comm]
    rfl
theorem neg_parts {a b : Int} (h : b < 0) : (Rat.divInt a b).num = a.fdiv (-(Nat.gcd a.natAbs b.natAbs : Nat)) ∧ ((Rat.divInt a b).den : Int) = b.fdiv (-(Nat.gcd a.natAbs b.natAbs : Nat)) := by
  have e : Rat.divInt a b = Rat.divInt (-a) (-b) := (Rat.neg_divInt_neg a b).symm
  obtain ⟨h1, h2⟩ := div_parts (a := -a) (b := -b) (by omega)
  rw [e, h1, h2, Int.natAbs_neg, Int.natAbs_neg]
  have k : ∀ x g : Int, x.fdiv (-g) = (-x).fdiv g := fun x g => by
    have := Int.neg_fdiv_neg x (-g)
    rw [Int.neg_neg] at this
    exact this.symm
  exact ⟨(k _ _).symm, (k _ _).symm⟩
theorem gcd_ne {a b : Int} (hb : b ≠ 0) : Nat.gcd a.natAbs b.natAbs ≠ 0 := fun z => hb (Int.natAbs_eq_zero.mp (Nat.gcd_eq_zero_iff.mp z).2)
theorem gcd_log {a b : Int} (hb : b ≠ 0) (hs : b.natAbs.log2 < 9000) : (Nat.gcd a.natAbs b.natAbs).log2 < 9000 := by
  have hle : Nat.gcd a.natAbs b.natAbs ≤ b.natAbs := Nat.gcd_le_right _ (by omega)
  have h0 := gcd_ne (a := a) hb
  rw [Nat.log2_lt h0]
  exact Nat.lt_of_le_of_lt hle ((Nat.log2_lt (by omega)).mp hs)
/-- the fraction of two whole numbers, the second one not 0 and of no more than 9000 bits -/
def spRat : PSpec
  | [.int a, .int b], Q => (b ≠ 0 ∧ b.natAbs.log2 < 9000) ∧ Q (fr (Rat.divInt a b))
  | _, _ => False
abbrev sp20 := spRat
abbrev sp33 := spRat
theorem ok20 {T : Tb} : ∀ ds Q, sp20 ds Q → bodyW T 1 false b20 ds Q := by
  intro ds Q h
  match ds, h with
  | [.int a, .int b], h =>
    obtain ⟨⟨hb, hs⟩, h⟩ := h
    unfold bodyW b20
    dsimp! []
    have g0 := gcd_ne (a := a) hb
    have gl := gcd_log (a := a) hb hs
    have c : ((Nat.gcd a.natAbs b.natAbs : Nat) : Int) ≠ 0 ∧ ((Nat.gcd a.natAbs b.natAbs : Nat) : Int).natAbs.log2 < 9000 := ⟨by omega, by rw [Int.natAbs_natCast]; exact gl⟩
    by_cases hp : b < 0
    · rw [decide_eq_true hp]
      obtain ⟨h1, h2⟩ := neg_parts (a := a) hp
      unfold fr at h
      rw [h1, h2] at h
      dsimp! []
      exact ⟨⟨by omega, by rw [Int.natAbs_neg]; exact c.2⟩, ⟨by omega, by rw [Int.natAbs_neg]; exact c.2⟩, h⟩
    · rw [decide_eq_false hp]
      obtain ⟨h1, h2⟩ := div_parts (a := a) (b := b) (by omega)
      unfold fr at h
      rw [h1, h2] at h
      dsimp! []
      exact ⟨c, c, h⟩
/-! ### the law's own fraction -/
def eC : E := .cmp .gt (.var 3) (.int 0)
def eB : SL := .cons (.par [(2, false), (3, false)] (.cons (.var 3) (.cons (.bin .mod (.b1 .int (.var 2)) (.var 3)) .nil))) .nil
def eR (a b : D) (x y : Int) : DH.Env := [some (.val a), some (.val b), some (.val (.int x)), some (.val (.int y))]
theorem eC_at {T : Tb} {a b : D} {x y : Int} {k : Bool → Prop} (h : k (decide (0 < y))) : whC T eC (eR a b x y) k := by
  unfold whC eC eR
  dsimp! []
  exact h
theorem eB_at {T : Tb} {a b : D} {x y : Int} {N : Po} (hy : y ≠ 0) (h : N.nx (eR a b y (x.fmod y))) : whB T eB (eR a b x y) N := by
  unfold whB eB eR
  dsimp! []
  exact ⟨hy, h⟩
theorem euclid {T : Tb} {a b : D} {N : Po} : ∀ (k x y : Nat), y ≤ k → N.nx (eR a b (Nat.gcd x y : Nat) 0) → whileW (whC T eC) (whB T eB) (k + 1) (eR a b x y) N := by
  intro k
  induction k with
  | zero =>
    intro x y hy h
    obtain rfl : y = 0 := by omega
    unfold whileW
    refine eC_at ?_
    simpa using h
  | succ k ih =>
    intro x y hy h
    rw [whileW]
    refine eC_at ?_
    by_cases h0 : y = 0
    · subst h0
      simpa using h
    · rw [show decide ((0 : Int) < (y : Int)) = true from decide_eq_true (by omega)]
      refine eB_at (by omega) ?_
      have hm : (x : Int).fmod (y : Int) = ((x % y : Nat) : Int) := by
        rw [Int.fmod_eq_emod_of_nonneg _ (by omega)]
        rfl
      rw [hm]
      refine ih y (x % y) ?_ ?_
      · have := Nat.mod_lt x (Nat.pos_of_ne_zero h0)
        omega
      · rw [Nat.gcd_comm y, ← Nat.gcd_rec, Nat.gcd_comm]
        exact h
theorem ok33 {T : Tb} : ∀ ds Q, sp33 ds Q → bodyW T 2 false b33 ds Q := by
  intro ds Q h
  match ds, h with
  | [.int a, .int b], h =>
    obtain ⟨⟨hb, hs⟩, h⟩ := h
    unfold bodyW b33
    dsimp! []
    rw [wS_wh]
    refine ⟨b.natAbs + 1, ?_⟩
    refine euclid (a := .int a) (b := .int b) (T := T) b.natAbs a.natAbs b.natAbs (Nat.le_refl _) ?_
    unfold eR
    dsimp! []
    have g0 := gcd_ne (a := a) hb
    have gl := gcd_log (a := a) hb hs
    have c : ((Nat.gcd a.natAbs b.natAbs : Nat) : Int) ≠ 0 ∧ ((Nat.gcd a.natAbs b.natAbs : Nat) : Int).natAbs.log2 < 9000 := ⟨by omega, by rw [Int.natAbs_natCast]; exact gl⟩
    by_cases hp : 0 < b
    · rw [decide_eq_true hp]
      obtain ⟨h1, h2⟩ := div_parts (a := a) hp
      unfold fr at h
      rw [h1, h2] at h
      exact ⟨c, c, h⟩
    · rw [decide_eq_false hp]
      have hn : b < 0 := by omega
      obtain ⟨h1, h2⟩ := neg_parts (a := a) hn
      unfold fr at h
      rw [h1, h2] at h
      dsimp! []
      have ex : ∀ x : Int, ((Nat.gcd a.natAbs b.natAbs : Nat) : Int) ∣ x → x.fdiv (-(Nat.gcd a.natAbs b.natAbs : Nat)) = 0 - x.fdiv (Nat.gcd a.natAbs b.natAbs : Nat) := fun x ⟨y, hy⟩ => by
        have hg : ((Nat.gcd a.natAbs b.natAbs : Nat) : Int) ≠ 0 := c.1
        have h1 : x.fdiv (Nat.gcd a.natAbs b.natAbs : Nat) = y := by
          rw [hy]
          exact Int.mul_fdiv_cancel_left _ hg
        have h2 : x.fdiv (-(Nat.gcd a.natAbs b.natAbs : Nat)) = -y := by
          rw [hy, ← Int.neg_mul_neg]
          exact Int.mul_fdiv_cancel_left _ (by omega)
        rw [h1, h2]
        omega
      rw [ex a (Int.ofNat_dvd_left.mpr (Nat.gcd_dvd_left _ _)), ex b (Int.ofNat_dvd_left.mpr (Nat.gcd_dvd_right _ _))] at h
      exact ⟨c, c, h⟩
/-! ### sums and products of fractions -/
theorem mulOk {i j : Int} {n m : Nat} (hi : i.natAbs < 2 ^ n) (hj : j.natAbs < 2 ^ m) (hn : 0 < n) (hm : 0 < m) (h : n + m ≤ 1000000) : L2.CMul i j ∨ L2.CMulW i j := .inr (L2.wide_mul hi hj hn hm h)
theorem logOk {i : Int} {n : Nat} (hi : i.natAbs < 2 ^ n) (hn : 0 < n) (h : n ≤ 9000) : i.natAbs.log2 < 9000 := Nat.lt_of_lt_of_le (PySem.Flt.log2_lt_of hn hi) h
theorem den_lt {n : Nat} {r : Rat} (h : Rb n r) : ((r.den : Int)).natAbs < 2 ^ n := by simpa using h.2
theorem den_mul_ne (r s : Rat) : (r.den : Int) * s.den ≠ 0 := by
  have := r.den_pos
  have := s.den_pos
  exact Int.mul_ne_zero (by omega) (by omega)
/-- two fractions of together no more than 8999 bits -/
def Two (x y : Rat) : Prop := ∃ n m, Rb n x ∧ Rb m y ∧ n + m ≤ 8999
def spPlus : PSpec := fun ds Q => ∃ x y, ds = [fr x, fr y] ∧ Two x y ∧ Q (fr (x + y))
def spTimes : PSpec := fun ds Q => ∃ x y, ds = [fr x, fr y] ∧ Two x y ∧ Q (fr (x * y))
def spMinus : PSpec := fun ds Q => ∃ x y, ds = [fr x, fr y] ∧ Two x y ∧ Q (fr (x - y))
theorem plus_at {x y : Rat} {Q : D → Prop} : spPlus [fr x, fr y] Q = (Two x y ∧ Q (fr (x + y))) := by
  apply propext
  constructor
  · rintro ⟨a, b, h, q⟩
    simp only [List.cons.injEq, fr_inj, and_true] at h
    obtain ⟨rfl, rfl⟩ := h
    exact q
  · intro q
    exact ⟨x, y, rfl, q⟩
theorem times_at {x y : Rat} {Q : D → Prop} : spTimes [fr x, fr y] Q = (Two x y ∧ Q (fr (x * y))) := by
  apply propext
  constructor
  · rintro ⟨a, b, h, q⟩
    simp only [List.cons.injEq, fr_inj, and_true] at h
    obtain ⟨rfl, rfl⟩ := h
    exact q
  · intro q
    exact ⟨x, y, rfl, q⟩
theorem minus_at {x y : Rat} {Q : D → Prop} : spMinus [fr x, fr y] Q = (Two x y ∧ Q (fr (x - y))) := by
  apply propext
  constructor
  · rintro ⟨a, b, h, q⟩
    simp only [List.cons.injEq, fr_inj, and_true] at h
    obtain ⟨rfl, rfl⟩ := h
    exact q
  · intro q
    exact ⟨x, y, rfl, q⟩
abbrev sp34 := spPlus
abbrev sp35 := spTimes
theorem ok34 {T : Tb} (h33 : T.f 33 = sp33) : ∀ ds Q, sp34 ds Q → bodyW T 0 false b34 ds Q := by
  rintro ds Q ⟨x, y, rfl, ⟨n, m, hx, hy, hs⟩, h⟩
  unfold bodyW b34
  have h1 := hx.pos
  have h2 := hy.pos
  dsimp! [h33, sp33, spRat]
  refine ⟨mulOk hx.1 (den_lt hy) h1 h2 (by omega), mulOk hy.1 (den_lt hx) h2 h1 (by omega), mulOk (den_lt hx) (den_lt hy) h1 h2 (by omega), ⟨den_mul_ne x y, logOk (lt_mul (den_lt hx) (den_lt hy)) (by omega) (by omega)⟩, ?_⟩
  rw [← add_eq]
  exact h
theorem ok35 {T : Tb} (h33 : T.f 33 = sp33) : ∀ ds Q, sp35 ds Q → bodyW T 0 false b35 ds Q := by
  rintro ds Q ⟨x, y, rfl, ⟨n, m, hx, hy, hs⟩, h⟩
  unfold bodyW b35
  have h1 := hx.pos
  have h2 := hy.pos
  dsimp! [h33, sp33, spRat]
  refine ⟨mulOk hx.1 hy.1 h1 h2 (by omega), mulOk (den_lt hx) (den_lt hy) h1 h2 (by omega), ⟨den_mul_ne x y, logOk (lt_mul (den_lt hx) (den_lt hy)) (by omega) (by omega)⟩, ?_⟩
  rw [← mul_eq]
  exact h
end Sp

/-! S2 -/
set_option Elab.async false
set_option linter.all false
set_option maxRecDepth 100000
set_option maxHeartbeats 4000000
namespace Sp
open PySem DH Bt Rx
local macro_rules | `(tactic| dsimp! [$ls,*]) => `(tactic| simp only [wSs_nil, wSs_cons, wS_set, wS_own, wS_asg, wS_par, wS_app, wS_setIx, wS_ret, wS_ifs, wS_brk, wS_pass, wS_expr, wS_frz, wS_sprS, wS_sprD, wS_ext, wS_aug, wE_m1, wE_dget, wE_var, wE_peek, wE_glob, wE_non, wE_bl, wE_int, wE_str, wE_tup, wE_lst, wE_bin, wE_neg, wE_not, wE_and, wE_or, wE_ite, wE_cmp, wE_chain, wE_ix, wE_slc, wE_rev,
  wE_call, wE_callS, wE_callK, wE_callP, wE_spr, wE_b1, wE_b2, wE_isi, wE_dic0, wE_dic1, wL_nil, wL_cons, wA_1, wA_2, wO_1, wO_2, wP_no, wP_yes, wC_no, wC_yes, cEq, cNe, cLt, cLe, cGt, cGe, truB, truT, truL, bAdd, bSub, bMul, bDiv, bMod, uLenT, uLenL, uTupL, uInt, uAbs, vGcd, vMax, vMin,
  e0F, e0T, gV, gO, parE, isiD, List.map_cons, List.map_nil, List.replicate, List.nil_append, List.append_nil, List.cons_append, List.getElem?_cons_zero, List.getElem?_cons_succ, List.set_cons_zero, List.set_cons_succ, Option.some.injEq, Sl.val.injEq, Sl.own.injEq, exists_eq_left', exists_eq_left, PyData.bool.injEq, PyData.int.injEq, PyData.list.injEq, PyData.tuple.injEq, Bool.false_eq_true, if_false, if_true, Bool.not_true, Bool.not_false,
  ixT0, ixT1, ixT2, ixL0, ixL1, ixL2, fr_num, fr_den, frEq, fr0, fr1, decide_true, decide_false, $ls,*])
local macro_rules | `(tactic| dsimp! [$ls,*] at $h:ident) => `(tactic| simp only [wSs_nil, wSs_cons, wS_set, wS_own, wS_asg, wS_par, wS_app, wS_setIx, wS_ret, wS_ifs, wS_brk, wS_pass, wS_expr, wS_frz, wS_sprS, wS_sprD, wS_ext, wS_aug, wE_m1, wE_dget, wE_var, wE_peek, wE_glob, wE_non, wE_bl, wE_int, wE_str, wE_tup, wE_lst, wE_bin, wE_neg, wE_not, wE_and, wE_or, wE_ite, wE_cmp, wE_chain, wE_ix, wE_slc, wE_rev,
  wE_call, wE_callS, wE_callK, wE_callP, wE_spr, wE_b1, wE_b2, wE_isi, wE_dic0, wE_dic1, wL_nil, wL_cons, wA_1, wA_2, wO_1, wO_2, wP_no, wP_yes, wC_no, wC_yes, cEq, cNe, cLt, cLe, cGt, cGe, truB, truT, truL, bAdd, bSub, bMul, bDiv, bMod, uLenT, uLenL, uTupL, uInt, uAbs, vGcd, vMax, vMin,
  e0F, e0T, gV, gO, parE, isiD, List.map_cons, List.map_nil, List.replicate, List.nil_append, List.append_nil, List.cons_append, List.getElem?_cons_zero, List.getElem?_cons_succ, List.set_cons_zero, List.set_cons_succ, Option.some.injEq, Sl.val.injEq, Sl.own.injEq, exists_eq_left', exists_eq_left, PyData.bool.injEq, PyData.int.injEq, PyData.list.injEq, PyData.tuple.injEq, Bool.false_eq_true, if_false, if_true, Bool.not_true, Bool.not_false,
  ixT0, ixT1, ixT2, ixL0, ixL1, ixL2, fr_num, fr_den, frEq, fr0, fr1, decide_true, decide_false, $ls,*] at $h:ident)
/-! ### what is walked -/
section
variable {T : Tb} {ρ : DH.Env} {Q : List D → Prop}
theorem src_seq {e : E} : wpSrc T (.seq e) ρ Q = wpE T e ρ fun x => ∃ ds, itemsOf x = some ds ∧ Q ds := rfl
theorem src_rng {a : E} : wpSrc T (.rng a) ρ Q = wpE T a ρ fun x => ∃ j, x = .int j ∧ j ≤ 1000000 ∧ -1000000 ≤ j ∧ Q (rngD 0 j.toNat) := rfl
theorem src_rng2 {a b : E} : wpSrc T (.rng2 a b) ρ Q = wpE T a ρ fun x => wpE T b ρ fun y => ∃ i, x = .int i ∧ ∃ j, y = .int j ∧ (-1000000 ≤ i ∧ i ≤ 1000000 ∧ -1000000 ≤ j ∧ j ≤ 1000000) ∧ Q (rngD i (j - i).toNat) := by
  show (wpE T a ρ fun x => wpE T b ρ fun y => ∃ i j, x = .int i ∧ y = .int j ∧ (-1000000 ≤ i ∧ i ≤ 1000000 ∧ -1000000 ≤ j ∧ j ≤ 1000000) ∧ Q (rngD i (j - i).toNat)) = _
  congr 1
  funext x
  congr 1
  funext y
  simp only [exists_and_left]
theorem src_z2 {a b : E} : wpSrc T (.z2 a b) ρ Q = wpE T a ρ fun x => wpE T b ρ fun y => ∃ xs, itemsOf x = some xs ∧ ∃ ys, itemsOf y = some ys ∧ Q (z2D xs ys) := by
  show (wpE T a ρ fun x => wpE T b ρ fun y => ∃ xs ys, itemsOf x = some xs ∧ itemsOf y = some ys ∧ Q (z2D xs ys)) = _
  congr 1
  funext x
  congr 1
  funext y
  simp only [exists_and_left]
theorem src_z3 {a b c : E} : wpSrc T (.z3 a b c) ρ Q = wpE T a ρ fun x => wpE T b ρ fun y => wpE T c ρ fun z => ∃ xs, itemsOf x = some xs ∧ ∃ ys, itemsOf y = some ys ∧ ∃ zs, itemsOf z = some zs ∧ Q (z3D xs ys zs) := by
  show (wpE T a ρ fun x => wpE T b ρ fun y => wpE T c ρ fun z => ∃ xs ys zs, itemsOf x = some xs ∧ itemsOf y = some ys ∧ itemsOf z = some zs ∧ Q (z3D xs ys zs)) = _
  congr 1
  funext x
  congr 1
  funext y
  congr 1
  funext z
  simp only [exists_and_left]
theorem src_enu {a : E} : wpSrc T (.enu a) ρ Q = wpE T a ρ fun x => ∃ xs, itemsOf x = some xs ∧ Q (enD xs) := rfl
end
theorem itemsT (ds : List D) : itemsOf (.tuple ds) = some ds := rfl
theorem itemsL (ds : List D) : itemsOf (.list ds) = some ds := rfl
/-! ### targets -/
def asgLW (ts : TgL) (ds : List D) (ρ : DH.Env) (k : DH.Env → Prop) : Prop := ∃ ρ', asgL ts ds ρ = some ρ' ∧ k ρ'
section
variable {ρ : DH.Env} {k : DH.Env → Prop}
theorem a_nm {i : Nat} {d : D} : asgW (.nm i) d ρ k = k (ρ.set i (some (.val d))) := by
  apply propext
  unfold asgW asg
  simp
theorem a_tp {ts : TgL} {ds : List D} : asgW (.tp ts) (.tuple ds) ρ k = asgLW ts ds ρ k := by
  unfold asgW asgLW asg
  rfl
theorem a_fr {ts : TgL} {r : Rat} : asgW (.tp ts) (fr r) ρ k = asgLW ts [.int r.num, .int (r.den : Int)] ρ k := by
  unfold asgW asgLW asg fr
  rfl
theorem a_nil : asgLW .nil [] ρ k = k ρ := by
  apply propext
  unfold asgLW asgL
  simp
theorem a_cons {t : Tg} {ts : TgL} {d : D} {ds : List D} : asgLW (.cons t ts) (d :: ds) ρ k = asgW t d ρ fun ρ1 => asgLW ts ds ρ1 k := by
  apply propext
  have e : asgL (.cons t ts) (d :: ds) ρ = (asg t d ρ).bind (asgL ts ds) := by rw [asgL]
  unfold asgLW asgW
  rw [e]
  cases asg t d ρ <;> simp
theorem wipe0 : wipeE ρ [] = ρ := rfl
theorem wipeS {v : Nat} {vs : List Nat} : wipeE ρ (v :: vs) = (wipeE ρ vs).set v none := rfl
end
theorem cG_at {t : Tg} {ρ : DH.Env} {own : List Nat} {d : D} {k : DH.Env → Prop} : cG t ρ own d k = asgW t d (wipeE ρ own) k := rfl
theorem fG_at {t : Tg} {ρ : DH.Env} {d : D} {k : DH.Env → Prop} : fG t d ρ k = asgW t d ρ k := rfl
theorem cS_at {T : Tb} {s : Src} {ρ : DH.Env} {k : List D → Prop} : cS T s ρ k = wpSrc T s ρ k := rfl
theorem cB_at {T : Tb} {b : E} {ρ : DH.Env} {k : D → Prop} : cB T b ρ k = wpE T b ρ k := rfl
theorem cT_yes {T : Tb} {e : E} {ρ : DH.Env} {k : Bool → Prop} : cT T (.yes e) ρ k = wpE T e ρ fun x => ∃ b, tru x = some b ∧ k b := rfl
theorem whB_at {T : Tb} {b : SL} {ρ : DH.Env} {N : Po} : whB T b ρ N = wpSs T b ρ N := rfl
theorem whC_at {T : Tb} {c : E} {ρ : DH.Env} {k : Bool → Prop} : whC T c ρ k = wpE T c ρ fun x => ∃ t, tru x = some t ∧ k t := rfl
/-- calculate, targets and sources too -/
local macro_rules | `(tactic| simp! [$ls,*]) => `(tactic| simp only [wSs_nil, wSs_cons, wS_set, wS_own, wS_asg, wS_par, wS_app, wS_setIx, wS_ret, wS_ifs, wS_brk, wS_pass, wS_expr, wS_frz, wS_sprS, wS_sprD, wS_ext, wS_aug, wE_m1, wE_dget, wE_var, wE_peek, wE_glob, wE_non, wE_bl, wE_int, wE_str, wE_tup, wE_lst, wE_bin, wE_neg, wE_not, wE_and, wE_or, wE_ite, wE_cmp, wE_chain, wE_ix, wE_slc, wE_rev,
  wE_call, wE_callS, wE_callK, wE_callP, wE_spr, wE_b1, wE_b2, wE_isi, wE_dic0, wE_dic1, wL_nil, wL_cons, wA_1, wA_2, wO_1, wO_2, wP_no, wP_yes, wC_no, wC_yes, cEq, cNe, cLt, cLe, cGt, cGe, truB, truT, truL, bAdd, bSub, bMul, bDiv, bMod, uLenT, uLenL, uTupL, uInt, uAbs, vGcd, vMax, vMin,
  e0F, e0T, gV, gO, parE, isiD, List.map_cons, List.map_nil, List.replicate, List.nil_append, List.append_nil, List.cons_append, List.getElem?_cons_zero, List.getElem?_cons_succ, List.set_cons_zero, List.set_cons_succ, Option.some.injEq, Sl.val.injEq, Sl.own.injEq, exists_eq_left', exists_eq_left, PyData.bool.injEq, PyData.int.injEq, PyData.list.injEq, PyData.tuple.injEq, Bool.false_eq_true, if_false, if_true, Bool.not_true, Bool.not_false,
  ixT0, ixT1, ixT2, ixL0, ixL1, ixL2, fr_num, fr_den, frEq, fr0, fr1, decide_true, decide_false, wS_fo, wS_wh, wE_comp, wE_comp2, cS_at, tslots, tslotsL, src_seq, src_rng, src_rng2, src_z2, src_z3, src_enu, itemsT, itemsL, a_nm, a_tp, a_fr, a_nil, a_cons, wipe0, wipeS, cG_at, fG_at, cB_at, cT_yes, whB_at, whC_at, $ls,*])
local macro_rules | `(tactic| simp! [$ls,*] at $h:ident) => `(tactic| simp only [wSs_nil, wSs_cons, wS_set, wS_own, wS_asg, wS_par, wS_app, wS_setIx, wS_ret, wS_ifs, wS_brk, wS_pass, wS_expr, wS_frz, wS_sprS, wS_sprD, wS_ext, wS_aug, wE_m1, wE_dget, wE_var, wE_peek, wE_glob, wE_non, wE_bl, wE_int, wE_str, wE_tup, wE_lst, wE_bin, wE_neg, wE_not, wE_and, wE_or, wE_ite, wE_cmp, wE_chain, wE_ix, wE_slc, wE_rev,
  wE_call, wE_callS, wE_callK, wE_callP, wE_spr, wE_b1, wE_b2, wE_isi, wE_dic0, wE_dic1, wL_nil, wL_cons, wA_1, wA_2, wO_1, wO_2, wP_no, wP_yes, wC_no, wC_yes, cEq, cNe, cLt, cLe, cGt, cGe, truB, truT, truL, bAdd, bSub, bMul, bDiv, bMod, uLenT, uLenL, uTupL, uInt, uAbs, vGcd, vMax, vMin,
  e0F, e0T, gV, gO, parE, isiD, List.map_cons, List.map_nil, List.replicate, List.nil_append, List.append_nil, List.cons_append, List.getElem?_cons_zero, List.getElem?_cons_succ, List.set_cons_zero, List.set_cons_succ, Option.some.injEq, Sl.val.injEq, Sl.own.injEq, exists_eq_left', exists_eq_left, PyData.bool.injEq, PyData.int.injEq, PyData.list.injEq, PyData.tuple.injEq, Bool.false_eq_true, if_false, if_true, Bool.not_true, Bool.not_false,
  ixT0, ixT1, ixT2, ixL0, ixL1, ixL2, fr_num, fr_den, frEq, fr0, fr1, decide_true, decide_false, wS_fo, wS_wh, wE_comp, wE_comp2, cS_at, tslots, tslotsL, src_seq, src_rng, src_rng2, src_z2, src_z3, src_enu, itemsT, itemsL, a_nm, a_tp, a_fr, a_nil, a_cons, wipe0, wipeS, cG_at, fG_at, cB_at, cT_yes, whB_at, whC_at, $ls,*] at $h:ident)
/-! ### comprehensions -/
theorem comp_map {T : Tb} {g : D → (DH.Env → Prop) → Prop} {b : DH.Env → (D → Prop) → Prop} {α : Type} (e F : α → D) {Q : List D → Prop} : ∀ (xs : List α) (acc : List D),
    (∀ x ∈ xs, ∀ K : D → Prop, K (F x) → g (e x) fun ρ1 => b ρ1 K) → Q (acc ++ xs.map F) → compW g (cT T .no) b (xs.map e) acc Q
  | [], acc, _, q => by simpa [compW] using q
  | x :: xs, acc, h, q => by
    show g (e x) _
    refine h x List.mem_cons_self _ ?_
    exact comp_map e F xs (acc ++ [F x]) (fun y hy => h y (List.mem_cons_of_mem _ hy)) (by simpa using q)
theorem comp_mapI {T : Tb} {g : D → (DH.Env → Prop) → Prop} {b : DH.Env → (D → Prop) → Prop} (F : D → D) {Q : List D → Prop} {xs acc : List D} (h : ∀ x ∈ xs, ∀ K : D → Prop, K (F x) → g x fun ρ1 => b ρ1 K) (q : Q (acc ++ xs.map F)) : compW g (cT T .no) b xs acc Q := by
  have z := comp_map (T := T) (g := g) (b := b) id F (Q := Q) xs acc h q
  rw [List.map_id] at z
  exact z
theorem comp2_map {T : Tb} {g : D → (DH.Env → Prop) → Prop} {src : DH.Env → (List D → Prop) → Prop} {g1 : DH.Env → D → (DH.Env → Prop) → Prop} {t1 : DH.Env → (Bool → Prop) → Prop} {b : DH.Env → (D → Prop) → Prop} {α : Type} (e : α → D) (F : α → List D) {Q : List D → Prop} : ∀ (xs : List α) (acc : List D),
    (∀ x ∈ xs, ∀ (acc : List D) (K : List D → Prop), K (acc ++ F x) → g (e x) fun ρ1 => src ρ1 fun items => items.length ≤ 1000 ∧ compW (g1 ρ1) t1 b items acc K) → Q (acc ++ xs.flatMap F) → compW2 g (cT T .no) src g1 t1 b (xs.map e) acc Q
  | [], acc, _, q => by simpa [compW2] using q
  | x :: xs, acc, h, q => by
    show g (e x) _
    refine h x List.mem_cons_self acc _ ?_
    exact comp2_map e F xs (acc ++ F x) (fun y hy => h y (List.mem_cons_of_mem _ hy)) (by simpa using q)
theorem comp_fil {g : D → (DH.Env → Prop) → Prop} {t : DH.Env → (Bool → Prop) → Prop} {b : DH.Env → (D → Prop) → Prop} {α : Type} (e F : α → D) (p : α → Bool) {Q : List D → Prop} : ∀ (xs : List α) (acc : List D),
    (∀ x ∈ xs, ∀ (K1 : D → Prop) (K2 : Prop), (p x = true → K1 (F x)) → (p x = false → K2) → g (e x) fun ρ1 => t ρ1 fun k => match k with | true => b ρ1 K1 | false => K2) → Q (acc ++ (xs.filter p).map F) → compW g t b (xs.map e) acc Q
  | [], acc, _, q => by simpa [compW] using q
  | x :: xs, acc, h, q => by
    show g (e x) _
    refine h x List.mem_cons_self _ _ (fun e1 => ?_) fun e1 => ?_
    · refine comp_fil e F p xs (acc ++ [F x]) (fun y hy => h y (List.mem_cons_of_mem _ hy)) ?_
      rw [List.filter_cons, if_pos e1] at q
      simpa using q
    · refine comp_fil e F p xs acc (fun y hy => h y (List.mem_cons_of_mem _ hy)) ?_
      rw [List.filter_cons, if_neg (by simp [e1])] at q
      exact q
/-- what stands at each place is one of what may stand there -/
inductive All2 {α : Type} (P : α → D → Prop) : List α → List D → Prop
  | nil : All2 P [] []
  | cons {x : α} {d : D} {xs : List α} {ds : List D} (h : P x d) (t : All2 P xs ds) : All2 P (x :: xs) (d :: ds)
theorem comp_any {T : Tb} {g : D → (DH.Env → Prop) → Prop} {b : DH.Env → (D → Prop) → Prop} {α : Type} (e : α → D) (P : α → D → Prop) {Q : List D → Prop} : ∀ (xs : List α) (acc : List D),
    (∀ x ∈ xs, ∀ K : D → Prop, (∀ d, P x d → K d) → g (e x) fun ρ1 => b ρ1 K) → (∀ ds, All2 P xs ds → Q (acc ++ ds)) → compW g (cT T .no) b (xs.map e) acc Q
  | [], acc, _, q => by simpa [compW] using q [] .nil
  | x :: xs, acc, h, q => by
    show g (e x) _
    refine h x List.mem_cons_self _ fun d hd => ?_
    exact comp_any e P xs (acc ++ [d]) (fun y hy => h y (List.mem_cons_of_mem _ hy)) fun ds hs => by simpa using q (d :: ds) (.cons hd hs)
/-! ### for -/
theorem for_inv {g : D → DH.Env → (DH.Env → Prop) → Prop} {b : DH.Env → Po → Prop} {α : Type} (e : α → D) {N : Po} (xs : List α) (I : List α → DH.Env → Prop) {ρ : DH.Env}
    (h0 : I [] ρ)
    (h : ∀ pre x post, xs = pre ++ x :: post → ∀ ρ, I pre ρ → ∀ N' : Po, N'.rt = N.rt → N'.bk = N.nx → (∀ ρ', I (pre ++ [x]) ρ' → N'.nx ρ') → (∀ ρ', I (pre ++ [x]) ρ' → N'.ct ρ') → g (e x) ρ fun ρ1 => b ρ1 N')
    (fin : ∀ ρ, I xs ρ → N.nx ρ) : forW g b (xs.map e) ρ N := by
  have key : ∀ (post pre : List α) ρ, xs = pre ++ post → I pre ρ → forW g b (post.map e) ρ N := by
    intro post
    induction post with
    | nil =>
      intro pre ρ hx hi
      rw [List.append_nil] at hx
      subst hx
      exact fin _ hi
    | cons x post ih =>
      intro pre ρ hx hi
      show g (e x) ρ _
      have k : ∀ ρ', I (pre ++ [x]) ρ' → forW g b (post.map e) ρ' N := fun ρ' i => ih (pre ++ [x]) ρ' (by rw [hx, List.append_assoc]; rfl) i
      exact h pre x post hx ρ hi _ rfl rfl k k
  exact key xs [] ρ rfl h0
theorem for_invI {g : D → DH.Env → (DH.Env → Prop) → Prop} {b : DH.Env → Po → Prop} {N : Po} (xs : List D) (I : List D → DH.Env → Prop) {ρ : DH.Env}
    (h0 : I [] ρ)
    (h : ∀ pre x post, xs = pre ++ x :: post → ∀ ρ, I pre ρ → ∀ N' : Po, N'.rt = N.rt → N'.bk = N.nx → (∀ ρ', I (pre ++ [x]) ρ' → N'.nx ρ') → (∀ ρ', I (pre ++ [x]) ρ' → N'.ct ρ') → g x ρ fun ρ1 => b ρ1 N')
    (fin : ∀ ρ, I xs ρ → N.nx ρ) : forW g b xs ρ N := by
  have z := for_inv id xs I h0 h fin
  rw [List.map_id] at z
  exact z
theorem z2_map {α β : Type} (f : α → D) (g : β → D) (xs : List α) (ys : List β) : z2D (xs.map f) (ys.map g) = (xs.zip ys).map fun p => .tuple [f p.1, g p.2] := by
  unfold z2D
  rw [List.zip_map, List.map_map]
  rfl
theorem en_map {α : Type} (f : α → D) (xs : List α) : enD (xs.map f) = xs.zipIdx.map fun p => .tuple [.int (p.2 : Nat), f p.1] := by
  unfold enD
  rw [List.zipIdx_map, List.map_map]
  rfl
/-! ### dot -/
def spDot : PSpec := fun ds Q => ∃ (A B : D) (xs ys : List Rat) (n m : Nat), ds = [A, B] ∧ itemsOf A = some (xs.map fr) ∧ itemsOf B = some (ys.map fr) ∧ (∀ x ∈ xs, Rb n x) ∧ (∀ y ∈ ys, Rb m y) ∧ xs.length * (n + m + 1) ≤ 8900 ∧ Q (fr (rdot xs ys))
theorem sumParts {c p q t h : Int} (hc : c ≠ 0) (hp : p ≠ 0) (hq : q ≠ 0) : Rat.divInt (t * q + h * p) (p * (c * q)) = Rat.divInt t (c * p) + Rat.divInt h (c * q) := by
  rw [Rat.divInt_add_divInt _ _ (Int.mul_ne_zero hc hp) (Int.mul_ne_zero hc hq)]
  have e1 : t * (c * q) + h * (c * p) = c * (t * q + h * p) := by grind
  have e2 : c * p * (c * q) = c * (p * (c * q)) := by grind
  rw [e1, e2, Rat.divInt_mul_left hc]
theorem dotStep {top : Int} {x y : Rat} {bot : Nat} (h0 : bot ≠ 0) :
    let below := x.den * y.den
    let c := Nat.gcd bot below
    Rat.divInt (top * ((below / c : Nat) : Int) + x.num * y.num * ((bot / c : Nat) : Int)) (((bot / c) * below : Nat) : Int) = Rat.divInt top bot + x * y := by
  intro below c
  have hb : below ≠ 0 := Nat.mul_ne_zero x.den_nz y.den_nz
  have hc : c ≠ 0 := fun z => h0 (Nat.gcd_eq_zero_iff.mp z).1
  obtain ⟨p, hp⟩ : c ∣ bot := Nat.gcd_dvd_left _ _
  obtain ⟨q, hq⟩ : c ∣ below := Nat.gcd_dvd_right _ _
  have e1 : bot / c = p := by rw [hp]; exact Nat.mul_div_cancel_left _ (Nat.pos_of_ne_zero hc)
  have e2 : below / c = q := by rw [hq]; exact Nat.mul_div_cancel_left _ (Nat.pos_of_ne_zero hc)
  have hp0 : p ≠ 0 := fun z => h0 (by rw [hp, z, Nat.mul_zero])
  have hq0 : q ≠ 0 := fun z => hb (by rw [hq, z, Nat.mul_zero])
  rw [e1, e2, mul_eq x y]
  have e3 : ((x.den : Int) * (y.den : Int)) = ((c : Int) * (q : Int)) := by
    have : (below : Int) = c * q := by rw [hq]; simp
    rw [← this]
    simp [below]
  have e4 : ((p * below : Nat) : Int) = (p : Int) * ((c : Int) * q) := by
    rw [hq]; simp
  have e5 : (bot : Int) = (c : Int) * p := by rw [hp]; simp
  rw [e3, e4, e5]
  exact sumParts (by omega) (by omega) (by omega)

theorem ofN {k n : Nat} (h : k < 2 ^ n) : ((k : Nat) : Int).natAbs < 2 ^ n := by rw [Int.natAbs_natCast]; exact h
theorem ok21 {T : Tb} (h20 : T.f 20 = sp20) : ∀ ds Q, spDot ds Q → bodyW T 8 false b21 ds Q := by
  rintro ds Q ⟨A, B, xs, ys, n, m, rfl, hA, hB, hx, hy, hs, h⟩
  unfold bodyW b21
  simp! [hA, hB]
  rw [z2_map]
  have hl : (xs.zip ys).length ≤ xs.length := by rw [List.length_zip]; exact Nat.min_le_left _ _
  have hz : (xs.zip ys).length * (n + m + 1) ≤ 8900 := Nat.le_trans (Nat.mul_le_mul_right _ hl) hs
  refine for_inv (fun p : Rat × Rat => .tuple [fr p.1, fr p.2]) (xs.zip ys) (fun pre ρ => ∃ (top : Int) (bot : Nat) (u1 u2 u3 u4 u5 u6 : Option Sl), ρ = [some (.val A), some (.val B), some (.val (.int top)), some (.val (.int (bot : Int))), u1, u2, u3, u4, u5, u6] ∧ bot ≠ 0 ∧ bot < 2 ^ (pre.length * (n + m + 1) + 1) ∧ top.natAbs < 2 ^ (pre.length * (n + m + 1) + 1) ∧ Rat.divInt top bot = pre.foldl (fun a p => a + p.1 * p.2) 0) ?_ ?_ ?_
  · exact ⟨0, 1, _, _, _, _, _, _, rfl, by decide, by simp, by simp, rfl⟩
  · rintro pre ⟨x, y⟩ post he ρ ⟨top, bot, u1, u2, u3, u4, u5, u6, rfl, hb0, hb, ht, hd⟩ N' _ _ k _
    have hlen : (pre.length + 1) * (n + m + 1) ≤ 8900 := by
      refine Nat.le_trans (Nat.mul_le_mul_right _ ?_) hz
      rw [he]; simp
    have hmem : (x, y) ∈ xs.zip ys := by rw [he]; simp
    have bx := hx x (List.of_mem_zip hmem).1
    have byy := hy y (List.of_mem_zip hmem).2
    have px := bx.pos
    have py := byy.pos
    generalize hL : pre.length * (n + m + 1) = L at *
    have hL2 : (pre.length + 1) * (n + m + 1) = L + (n + m + 1) := by rw [Nat.add_mul, Nat.one_mul, hL]
    have hfold : (pre ++ [(x, y)]).foldl (fun a p => a + p.1 * p.2) 0 = Rat.divInt top bot + x * y := by
      rw [List.foldl_append, ← hd]; rfl
    have hle : L + 1 ≤ L + (n + m + 1) + 1 := by omega
    have skip : x * y = 0 → N'.nx [some (.val A), some (.val B), some (.val (.int top)), some (.val (.int (bot : Int))), some (.val (.int x.num)), some (.val (.int (x.den : Int))), some (.val (.int y.num)), some (.val (.int (y.den : Int))), u5, u6] := fun z => by
      refine k _ ⟨top, bot, _, _, _, _, _, _, rfl, hb0, ?_, ?_, ?_⟩
      · rw [List.length_append, List.length_singleton, hL2]
        exact Nat.lt_of_lt_of_le hb (Nat.pow_le_pow_right (by decide) hle)
      · rw [List.length_append, List.length_singleton, hL2]
        exact Nat.lt_of_lt_of_le ht (Nat.pow_le_pow_right (by decide) hle)
      · rw [hfold, z, Rat.add_zero]
    simp! []
    by_cases e1 : x.num = 0
    · dsimp! [e1, decide_true, Bool.not_true]
      have := skip (by rw [Rat.num_eq_zero.mp e1, Rat.zero_mul])
      rw [e1] at this
      exact this
    · by_cases e2 : y.num = 0
      · dsimp! [e1, e2, decide_true, decide_false, Bool.not_true, Bool.not_false]
        have := skip (by rw [Rat.num_eq_zero.mp e2, Rat.mul_zero])
        rw [e2] at this
        exact this
      · dsimp! [e1, e2, decide_false, Bool.not_false]
        have hbel : (x.den * y.den) ≠ 0 := Nat.mul_ne_zero x.den_nz y.den_nz
        have hbell : x.den * y.den < 2 ^ (n + m) := lt_mulN bx.2 byy.2
        have hc0 : Nat.gcd bot (x.den * y.den) ≠ 0 := fun z => hb0 (Nat.gcd_eq_zero_iff.mp z).1
        have hcl : Nat.gcd bot (x.den * y.den) < 2 ^ (n + m) := Nat.lt_of_le_of_lt (Nat.gcd_le_right _ (Nat.pos_of_ne_zero hbel)) hbell
        have ce : ((x.den : Int) * (y.den : Int)) = ((x.den * y.den : Nat) : Int) := by simp
        have cd : ∀ a c : Nat, ((a : Nat) : Int).fdiv (c : Int) = ((a / c : Nat) : Int) := fun a c => by
          rw [Int.fdiv_eq_ediv_of_nonneg _ (by omega)]; simp
        simp only [ce, Int.natAbs_natCast, cd]
        have hstep := dotStep (top := top) (x := x) (y := y) hb0
        simp only at hstep
        generalize hcg : Nat.gcd bot (x.den * y.den) = c at *
        have q1 : x.den * y.den / c < 2 ^ (n + m) := Nat.lt_of_le_of_lt (Nat.div_le_self _ _) hbell
        have q2 : bot / c < 2 ^ (L + 1) := Nat.lt_of_le_of_lt (Nat.div_le_self _ _) hb
        have cc : ((c : Nat) : Int) ≠ 0 ∧ c.log2 < 9000 := ⟨by omega, by
          have := logOk (i := (c : Int)) (n := n + m) (ofN hcl) (by omega) (by omega)
          simpa using this⟩
        refine ⟨mulOk (den_lt bx) (den_lt byy) px py (by omega), cc, mulOk ht (j := ((x.den * y.den / c : Nat) : Int)) (m := n + m) (ofN q1) (by omega) (by omega) (by omega), mulOk bx.1 byy.1 px py (by omega), cc, mulOk (lt_mul bx.1 byy.1) (j := ((bot / c : Nat) : Int)) (m := L + 1) (ofN q2) (by omega) (by omega) (by omega), cc, mulOk (i := ((bot / c : Nat) : Int)) (n := L + 1) (ofN q2) (j := ((x.den * y.den : Nat) : Int)) (m := n + m) (ofN hbell) (by omega) (by omega) (by omega), ?_⟩
        have ce2 : ((bot / c : Nat) : Int) * ((x.den * y.den : Nat) : Int) = ((bot / c * (x.den * y.den) : Nat) : Int) := by simp
        rw [ce2]
        refine k _ ⟨_, _, _, _, _, _, _, _, rfl, ?_, ?_, ?_, ?_⟩
        · refine Nat.mul_ne_zero ?_ hbel
          have hdvd : c ∣ bot := by rw [← hcg]; exact Nat.gcd_dvd_left _ _
          exact Nat.ne_of_gt (Nat.div_pos (Nat.le_of_dvd (Nat.pos_of_ne_zero hb0) hdvd) (Nat.pos_of_ne_zero hc0))
        · rw [List.length_append, List.length_singleton, hL2]
          exact Nat.lt_of_lt_of_le (lt_mulN q2 hbell) (Nat.pow_le_pow_right (by decide) (by omega))
        · rw [List.length_append, List.length_singleton, hL2]
          have t1 : (top * ((x.den * y.den / c : Nat) : Int)).natAbs < 2 ^ (L + (n + m + 1)) := Nat.lt_of_lt_of_le (lt_mul ht (b := ((x.den * y.den / c : Nat) : Int)) (m := n + m) (ofN q1)) (Nat.pow_le_pow_right (by decide) (by omega))
          have t2 : (x.num * y.num * ((bot / c : Nat) : Int)).natAbs < 2 ^ (L + (n + m + 1)) := Nat.lt_of_lt_of_le (lt_mul (lt_mul bx.1 byy.1) (b := ((bot / c : Nat) : Int)) (m := L + 1) (ofN q2)) (Nat.pow_le_pow_right (by decide) (by omega))
          exact lt_add t1 t2
        · rw [hfold, ← hstep]
  · rintro ρ ⟨top, bot, u1, u2, u3, u4, u5, u6, rfl, hb0, hb, ht, hd⟩
    simp! [h20, sp20, spRat]
    refine ⟨⟨by omega, ?_⟩, ?_⟩
    · exact logOk (i := (bot : Int)) (n := (xs.zip ys).length * (n + m + 1) + 1) (ofN hb) (by omega) (by omega)
    · rw [hd]; exact h
end Sp

/-! S3 -/
set_option Elab.async false
set_option linter.all false
set_option maxRecDepth 100000
set_option maxHeartbeats 4000000
namespace Sp
open PySem DH Bt Rx
local macro_rules | `(tactic| dsimp! [$ls,*]) => `(tactic| simp only [wSs_nil, wSs_cons, wS_set, wS_own, wS_asg, wS_par, wS_app, wS_setIx, wS_ret, wS_ifs, wS_brk, wS_pass, wS_expr, wS_frz, wS_sprS, wS_sprD, wS_ext, wS_aug, wE_m1, wE_dget, wE_var, wE_peek, wE_glob, wE_non, wE_bl, wE_int, wE_str, wE_tup, wE_lst, wE_bin, wE_neg, wE_not, wE_and, wE_or, wE_ite, wE_cmp, wE_chain, wE_ix, wE_slc, wE_rev,
  wE_call, wE_callS, wE_callK, wE_callP, wE_spr, wE_b1, wE_b2, wE_isi, wE_dic0, wE_dic1, wL_nil, wL_cons, wA_1, wA_2, wO_1, wO_2, wP_no, wP_yes, wC_no, wC_yes, cEq, cNe, cLt, cLe, cGt, cGe, truB, truT, truL, bAdd, bSub, bMul, bDiv, bMod, uLenT, uLenL, uTupL, uInt, uAbs, vGcd, vMax, vMin,
  e0F, e0T, gV, gO, parE, isiD, List.map_cons, List.map_nil, List.replicate, List.nil_append, List.append_nil, List.cons_append, List.getElem?_cons_zero, List.getElem?_cons_succ, List.set_cons_zero, List.set_cons_succ, Option.some.injEq, Sl.val.injEq, Sl.own.injEq, exists_eq_left', exists_eq_left, PyData.bool.injEq, PyData.int.injEq, PyData.list.injEq, PyData.tuple.injEq, Bool.false_eq_true, if_false, if_true, Bool.not_true, Bool.not_false,
  ixT0, ixT1, ixT2, ixL0, ixL1, ixL2, fr_num, fr_den, frEq, fr0, fr1, decide_true, decide_false, $ls,*])
local macro_rules | `(tactic| dsimp! [$ls,*] at $h:ident) => `(tactic| simp only [wSs_nil, wSs_cons, wS_set, wS_own, wS_asg, wS_par, wS_app, wS_setIx, wS_ret, wS_ifs, wS_brk, wS_pass, wS_expr, wS_frz, wS_sprS, wS_sprD, wS_ext, wS_aug, wE_m1, wE_dget, wE_var, wE_peek, wE_glob, wE_non, wE_bl, wE_int, wE_str, wE_tup, wE_lst, wE_bin, wE_neg, wE_not, wE_and, wE_or, wE_ite, wE_cmp, wE_chain, wE_ix, wE_slc, wE_rev,
  wE_call, wE_callS, wE_callK, wE_callP, wE_spr, wE_b1, wE_b2, wE_isi, wE_dic0, wE_dic1, wL_nil, wL_cons, wA_1, wA_2, wO_1, wO_2, wP_no, wP_yes, wC_no, wC_yes, cEq, cNe, cLt, cLe, cGt, cGe, truB, truT, truL, bAdd, bSub, bMul, bDiv, bMod, uLenT, uLenL, uTupL, uInt, uAbs, vGcd, vMax, vMin,
  e0F, e0T, gV, gO, parE, isiD, List.map_cons, List.map_nil, List.replicate, List.nil_append, List.append_nil, List.cons_append, List.getElem?_cons_zero, List.getElem?_cons_succ, List.set_cons_zero, List.set_cons_succ, Option.some.injEq, Sl.val.injEq, Sl.own.injEq, exists_eq_left', exists_eq_left, PyData.bool.injEq, PyData.int.injEq, PyData.list.injEq, PyData.tuple.injEq, Bool.false_eq_true, if_false, if_true, Bool.not_true, Bool.not_false,
  ixT0, ixT1, ixT2, ixL0, ixL1, ixL2, fr_num, fr_den, frEq, fr0, fr1, decide_true, decide_false, $ls,*] at $h:ident)
local macro_rules | `(tactic| simp! [$ls,*]) => `(tactic| simp only [wSs_nil, wSs_cons, wS_set, wS_own, wS_asg, wS_par, wS_app, wS_setIx, wS_ret, wS_ifs, wS_brk, wS_pass, wS_expr, wS_frz, wS_sprS, wS_sprD, wS_ext, wS_aug, wE_m1, wE_dget, wE_var, wE_peek, wE_glob, wE_non, wE_bl, wE_int, wE_str, wE_tup, wE_lst, wE_bin, wE_neg, wE_not, wE_and, wE_or, wE_ite, wE_cmp, wE_chain, wE_ix, wE_slc, wE_rev,
  wE_call, wE_callS, wE_callK, wE_callP, wE_spr, wE_b1, wE_b2, wE_isi, wE_dic0, wE_dic1, wL_nil, wL_cons, wA_1, wA_2, wO_1, wO_2, wP_no, wP_yes, wC_no, wC_yes, cEq, cNe, cLt, cLe, cGt, cGe, truB, truT, truL, bAdd, bSub, bMul, bDiv, bMod, uLenT, uLenL, uTupL, uInt, uAbs, vGcd, vMax, vMin,
  e0F, e0T, gV, gO, parE, isiD, List.map_cons, List.map_nil, List.replicate, List.nil_append, List.append_nil, List.cons_append, List.getElem?_cons_zero, List.getElem?_cons_succ, List.set_cons_zero, List.set_cons_succ, Option.some.injEq, Sl.val.injEq, Sl.own.injEq, exists_eq_left', exists_eq_left, PyData.bool.injEq, PyData.int.injEq, PyData.list.injEq, PyData.tuple.injEq, Bool.false_eq_true, if_false, if_true, Bool.not_true, Bool.not_false,
  ixT0, ixT1, ixT2, ixL0, ixL1, ixL2, fr_num, fr_den, frEq, fr0, fr1, decide_true, decide_false, wS_fo, wS_wh, wE_comp, wE_comp2, cS_at, tslots, tslotsL, src_seq, src_rng, src_rng2, src_z2, src_z3, src_enu, itemsT, itemsL, a_nm, a_tp, a_fr, a_nil, a_cons, wipe0, wipeS, cG_at, fG_at, cB_at, cT_yes, whB_at, whC_at, $ls,*])
local macro_rules | `(tactic| simp! [$ls,*] at $h:ident) => `(tactic| simp only [wSs_nil, wSs_cons, wS_set, wS_own, wS_asg, wS_par, wS_app, wS_setIx, wS_ret, wS_ifs, wS_brk, wS_pass, wS_expr, wS_frz, wS_sprS, wS_sprD, wS_ext, wS_aug, wE_m1, wE_dget, wE_var, wE_peek, wE_glob, wE_non, wE_bl, wE_int, wE_str, wE_tup, wE_lst, wE_bin, wE_neg, wE_not, wE_and, wE_or, wE_ite, wE_cmp, wE_chain, wE_ix, wE_slc, wE_rev,
  wE_call, wE_callS, wE_callK, wE_callP, wE_spr, wE_b1, wE_b2, wE_isi, wE_dic0, wE_dic1, wL_nil, wL_cons, wA_1, wA_2, wO_1, wO_2, wP_no, wP_yes, wC_no, wC_yes, cEq, cNe, cLt, cLe, cGt, cGe, truB, truT, truL, bAdd, bSub, bMul, bDiv, bMod, uLenT, uLenL, uTupL, uInt, uAbs, vGcd, vMax, vMin,
  e0F, e0T, gV, gO, parE, isiD, List.map_cons, List.map_nil, List.replicate, List.nil_append, List.append_nil, List.cons_append, List.getElem?_cons_zero, List.getElem?_cons_succ, List.set_cons_zero, List.set_cons_succ, Option.some.injEq, Sl.val.injEq, Sl.own.injEq, exists_eq_left', exists_eq_left, PyData.bool.injEq, PyData.int.injEq, PyData.list.injEq, PyData.tuple.injEq, Bool.false_eq_true, if_false, if_true, Bool.not_true, Bool.not_false,
  ixT0, ixT1, ixT2, ixL0, ixL1, ixL2, fr_num, fr_den, frEq, fr0, fr1, decide_true, decide_false, wS_fo, wS_wh, wE_comp, wE_comp2, cS_at, tslots, tslotsL, src_seq, src_rng, src_rng2, src_z2, src_z3, src_enu, itemsT, itemsL, a_nm, a_tp, a_fr, a_nil, a_cons, wipe0, wipeS, cG_at, fG_at, cB_at, cT_yes, whB_at, whC_at, $ls,*] at $h:ident)
/-! ### total -/
theorem bMulL {a : List D} {k : Int} {Q : D → Prop} : binW .mul (.list a) (.int k) Q = (0 ≤ k ∧ k ≤ 100000 ∧ a.length * k.toNat ≤ 1000000 ∧ Q (.list (List.replicate k.toNat a).flatten)) := rfl
theorem bAddL {a b : List D} {Q : D → Prop} : binW .add (.list a) (.list b) Q = (a.length + b.length ≤ 1000000 ∧ Q (.list (a ++ b))) := rfl
theorem bAddT {a b : List D} {Q : D → Prop} : binW .add (.tuple a) (.tuple b) Q = (a.length + b.length ≤ 1000000 ∧ Q (.tuple (a ++ b))) := rfl
theorem rep_flat {x : D} (n : Nat) : (List.replicate n [x]).flatten = List.replicate n x := by
  induction n with
  | zero => rfl
  | succ n ih => rw [List.replicate_succ, List.flatten_cons, ih, List.replicate_succ]; rfl
theorem len_items {A : D} {ds : List D} {Q : D → Prop} (h : itemsOf A = some ds) : b1W .len A Q = Q (.int ds.length) := by
  cases A <;> simp [itemsOf] at h <;> subst h <;> rfl
def spTotal : PSpec := fun ds Q => ∃ (A : D) (xs : List Rat) (n : Nat), ds = [A] ∧ itemsOf A = some (xs.map fr) ∧ (∀ x ∈ xs, Rb n x) ∧ xs.length * (n + 2) ≤ 8900 ∧ Q (fr (rsum xs))
theorem ok22 {T : Tb} (h21 : T.f 21 = spDot) (c0 : T.c 0 = .tuple [.int 1, .int 1]) : ∀ ds Q, spTotal ds Q → bodyW T 0 false b22 ds Q := by
  rintro ds Q ⟨A, xs, n, rfl, hA, hx, hs, h⟩
  unfold bodyW b22
  have hl : xs.length ≤ 8900 := Nat.le_trans (Nat.le_mul_of_pos_right _ (by omega)) hs
  simp! [h21, c0, len_items hA, bMulL, rep_flat, List.length_map, List.length_cons, List.length_nil]
  refine ⟨by omega, by omega, by omega, A, .list (List.replicate xs.length (fr 1)), xs, List.replicate xs.length 1, n, 1, by simp, hA, ?_, hx, ?_, ?_, ?_⟩
  · rw [itemsL, List.map_replicate]
  · intro y hy
    rw [List.eq_of_mem_replicate hy]
    exact Rb.one (by decide)
  · exact Nat.le_trans (Nat.mul_le_mul_left _ (by omega)) hs
  · rw [rdot_ones]; exact h
theorem ok36 {T : Tb} (h34 : T.f 34 = sp34) : ∀ ds Q, spTotal ds Q → bodyW T 2 false b36 ds Q := by
  rintro ds Q ⟨A, xs, n, rfl, hA, hx, hs, h⟩
  unfold bodyW b36
  simp! [hA]
  refine for_inv fr xs (fun pre ρ => ∃ u, ρ = [some (.val A), some (.val (fr (rsum pre))), u]) ⟨none, rfl⟩ ?_ ?_
  · rintro pre x post he ρ ⟨u, rfl⟩ N' _ _ k _
    have hp : ∀ y ∈ pre, Rb n y := fun y hy => hx y (by rw [he]; simp [hy])
    have hxx : Rb n x := hx x (by rw [he]; simp)
    have hlen : (pre.length + 1) * (n + 2) ≤ 8900 := by
      refine Nat.le_trans (Nat.mul_le_mul_right _ ?_) hs
      rw [he]; simp
    rw [Nat.add_mul] at hlen
    have hm : pre.length * (n + 1) ≤ pre.length * (n + 2) := Nat.mul_le_mul_left _ (by omega)
    simp! [h34, sp34, plus_at]
    refine ⟨⟨_, n, Rb.sum hp, hxx, by omega⟩, k _ ⟨some (.val (fr x)), ?_⟩⟩
    rw [rsum_append, rsum_cons, rsum_nil, Rat.add_zero]
  · rintro ρ ⟨u, rfl⟩
    simp! []
    exact h
/-! ### bounded values -/
mutual
def bd : D → Bool
  | .int i => decide (i.natAbs < 2 ^ 64)
  | .tuple ds => decide (ds.length ≤ 100) && bdAll ds
  | _ => true
def bdAll : List D → Bool
  | [] => true
  | d :: ds => bd d && bdAll ds
end
theorem bdAll_iff : ∀ {ds : List D}, bdAll ds = true ↔ ∀ d ∈ ds, bd d = true
  | [] => by simp [bdAll]
  | d :: ds => by simp [bdAll, bdAll_iff (ds := ds)]
theorem bd_tup {ds : List D} : bd (.tuple ds) = true ↔ ds.length ≤ 100 ∧ ∀ d ∈ ds, bd d = true := by
  simp [bd, bdAll_iff]
theorem bd_fr {r : Rat} (h : bd (fr r) = true) : Rb 64 r := by
  unfold fr at h
  have h2 := (bd_tup.mp h).2
  have h3 := h2 (.int r.num) (by simp)
  have h4 := h2 (.int r.den) (by simp)
  simp only [bd, decide_eq_true_eq, Int.natAbs_natCast] at h3 h4
  exact ⟨h3, h4⟩
theorem bd_of_rb {r : Rat} (h : Rb 64 r) : bd (fr r) = true := by
  unfold fr
  refine bd_tup.mpr ⟨by simp, fun d hd => ?_⟩
  simp only [List.mem_cons, List.not_mem_nil, or_false] at hd
  rcases hd with rfl | rfl
  · simpa [bd] using h.1
  · simpa [bd] using h.2
/-! ### rows, odds -/
theorem uAll {f : D → Bool} {ds : List D} {Q : D → Prop} : b1W .all (.list (ds.map fun d => .bool (f d))) Q = Q (.bool (ds.all f)) := by
  apply propext
  show (∃ bs : List Bool, (ds.map fun d => PyData.bool (f d)) = bs.map PyData.bool ∧ Q (.bool (bs.all id))) ↔ _
  constructor
  · rintro ⟨bs, e, q⟩
    have : bs = ds.map f := by
      have e2 : (ds.map f).map PyData.bool = bs.map PyData.bool := by rw [← e, List.map_map]; rfl
      exact ((List.map_inj_right (fun _ _ h => PyData.bool.inj h)).mp e2).symm
    subst this
    simpa [List.all_map] using q
  · intro q
    exact ⟨ds.map f, by rw [List.map_map]; rfl, by simpa [List.all_map] using q⟩
theorem uAllA {α : Type} {f : α → Bool} {ds : List α} {Q : D → Prop} (q : Q (.bool (ds.all f))) : b1W .all (.list (ds.map fun d => .bool (f d))) Q := by
  refine ⟨ds.map f, by rw [List.map_map]; rfl, by simpa [List.all_map] using q⟩
def ratOf : D → Rat
  | .tuple [.int a, .int b] => Rat.divInt a b
  | _ => 0
theorem ratOf_fr (r : Rat) : ratOf (fr r) = r := Rat.num_divInt_den r
def elems : D → List D
  | .tuple ds => ds
  | _ => []
def isRow (v : D) (k : Int) : Bool := isTup v k && (elems v).all isFrac
def isOdds (v : D) (k : Int) : Bool := isTup v k && (elems v).all isNN && qeq (rsum ((elems v).map ratOf)) 1
theorem allFr {ds : List D} (h : ds.all isFrac = true) : ∃ xs : List Rat, ds = xs.map fr := by
  induction ds with
  | nil => exact ⟨[], rfl⟩
  | cons d ds ih =>
    simp only [List.all_cons, Bool.and_eq_true] at h
    obtain ⟨r, rfl⟩ := frac_fr.mp h.1
    obtain ⟨xs, rfl⟩ := ih h.2
    exact ⟨r :: xs, rfl⟩
theorem allNN {ds : List D} (h : ds.all isNN = true) : ∃ xs : List Rat, ds = xs.map fr ∧ ∀ x ∈ xs, 0 ≤ x := by
  induction ds with
  | nil => exact ⟨[], rfl, by simp⟩
  | cons d ds ih =>
    simp only [List.all_cons, Bool.and_eq_true] at h
    obtain ⟨r, rfl, h0⟩ := nn_fr.mp h.1
    obtain ⟨xs, rfl, h2⟩ := ih h.2
    exact ⟨r :: xs, rfl, by simpa using ⟨h0, h2⟩⟩
theorem all_nn (xs : List Rat) : (xs.map fr).all isNN = xs.all fun x => decide (0 ≤ x) := by
  rw [List.all_map]
  congr 1
  funext x
  exact nn_of_fr
theorem map_ratOf (xs : List Rat) : (xs.map fr).map ratOf = xs := by
  rw [List.map_map]
  conv => rhs; rw [← List.map_id xs]
  congr 1
  funext x
  exact ratOf_fr x
theorem tup_of {v : D} {k : Int} (h : isTup v k = true) : ∃ ds, v = .tuple ds ∧ (ds.length : Int) = k := by
  cases v with
  | tuple ds => exact ⟨ds, rfl, by simpa [isTup] using h⟩
  | _ => cases h
def sp19 : PSpec
  | [v, .int k], Q => Q (.bool (isRow v k))
  | _, _ => False
theorem ok19 {T : Tb} (h16 : T.f 16 = sp16) (h17 : T.f 17 = sp17) : ∀ ds Q, sp19 ds Q → bodyW T 1 false b19 ds Q := by
  intro ds Q h
  match ds, h with
  | [v, .int k], h =>
    unfold bodyW b19
    simp! [h16, sp16]
    dsimp! [sp19, isRow] at h
    cases e : isTup v k with
    | false => simpa [e] using h
    | true =>
      obtain ⟨ds, rfl, hk⟩ := tup_of e
      rw [e] at h
      simp! []
      refine comp_mapI (fun d => .bool (isFrac d)) (fun x _ K hK => ?_) ?_
      · simp! [h17, sp17]
        exact hK
      · rw [List.nil_append, uAll]
        exact ⟨_, rfl, h⟩
/-- a pair of odds: value, how many -/
def sp23 : PSpec
  | [v, .int k], Q => (bd v = true) ∧ Q (.bool (isOdds v k))
  | _, _ => False
theorem ok23 {T : Tb} (h16 : T.f 16 = sp16) (h18 : T.f 18 = sp18) (h22 : T.f 22 = spTotal) (c0 : T.c 0 = .tuple [.int 1, .int 1]) : ∀ ds Q, sp23 ds Q → bodyW T 1 false b23 ds Q := by
  intro ds Q h
  match ds, h with
  | [v, .int k], ⟨hb, h⟩ =>
    unfold bodyW b23
    simp! [h16, sp16]
    dsimp! [isOdds] at h
    cases e : isTup v k with
    | false => simpa [e] using h
    | true =>
      obtain ⟨ds, rfl, hk⟩ := tup_of e
      rw [e] at h
      simp! []
      refine comp_mapI (fun d => .bool (isNN d)) (fun x _ K hK => ?_) ?_
      · simp! [h18, sp18]
        exact hK
      · rw [List.nil_append, uAll]
        simp only [elems, Bool.true_and] at h
        cases e2 : ds.all isNN with
        | false => simpa [e2, truB] using h
        | true =>
          rw [e2] at h
          obtain ⟨xs, rfl, _⟩ := allNN e2
          have hb2 := bd_tup.mp hb
          rw [List.length_map] at hb2
          simp! [h22, c0]
          refine ⟨.tuple (xs.map fr), xs, 64, rfl, rfl, fun x hx => bd_fr (hb2.2 _ (List.mem_map_of_mem hx)), by omega, ?_⟩
          simp! []
          rw [map_ratOf] at h
          exact h

/-! ### the same of the law's own -/
def spFracB : PSpec
  | [v], Q => bd v = true ∧ Q (.bool (isFrac v))
  | _, _ => False
abbrev sp48 := spFracB
theorem isFrac_pair {a b : Int} (h : 0 < b) : isFrac (.tuple [.int a, .int b]) = (decide ((Rat.divInt a b).num = a) && decide (((Rat.divInt a b).den : Int) = b)) := by
  cases e : isFrac (.tuple [.int a, .int b]) with
  | true =>
    obtain ⟨r, hr⟩ := frac_fr.mp e
    unfold fr at hr
    simp only [PyData.tuple.injEq, List.cons.injEq, PyData.int.injEq, and_true] at hr
    rw [hr.1, hr.2, Rat.num_divInt_den]
    simp
  | false =>
    cases e2 : (decide ((Rat.divInt a b).num = a) && decide (((Rat.divInt a b).den : Int) = b)) with
    | false => rfl
    | true =>
      simp only [Bool.and_eq_true, decide_eq_true_eq] at e2
      have h2 : PyData.tuple [.int a, .int b] = fr (Rat.divInt a b) := by unfold fr; rw [e2.1, e2.2]
      rw [h2, isFrac_fr] at e
      cases e
theorem ok48 {T : Tb} (h33 : T.f 33 = sp33) (h46 : T.f 46 = sp14) (h47 : T.f 47 = sp16) : ∀ ds Q, sp48 ds Q → bodyW T 0 false b48 ds Q := by
  intro ds Q h
  match ds, h with
  | [d], ⟨hb, h⟩ =>
    unfold bodyW b48
    rcases pair_or d with ⟨a, b, rfl⟩ | ⟨e, ⟨ds, rfl, h2⟩ | ⟨x, y, rfl, h2⟩ | ⟨x, y, rfl, h2⟩ | h2⟩
    · have hb2 := (bd_tup.mp hb).2 (.int b) (by simp)
      simp only [bd, decide_eq_true_eq] at hb2
      dsimp! [h46, h47, h33, sp14, sp16, sp33, spRat, isTup, isInt, List.length_cons, List.length_nil]
      by_cases hp : 0 < b
      · rw [isFrac_pair hp] at h
        simp only [hp, decide_true]
        refine ⟨⟨by omega, logOk hb2 (by decide) (by decide)⟩, ?_⟩
        unfold fr
        dsimp! [cEqP]
        exact h
      · have : isFrac (.tuple [.int a, .int b]) = false := by simp [isFrac, hp]
        rw [this] at h
        simp only [hp, decide_false]
        exact h
    · rw [e] at h
      have h3 : ¬ (ds.length : Int) = 2 := by omega
      dsimp! [h46, h47, sp14, sp16, isTup, h3]
      exact h
    · rw [e] at h
      dsimp! [h46, h47, sp14, sp16, isTup, h2, List.length_cons, List.length_nil]
      exact h
    · rw [e] at h
      dsimp! [h46, h47, sp14, sp16, isTup, isInt_int, h2, List.length_cons, List.length_nil]
      exact h
    · rw [e] at h
      dsimp! [h46, h47, sp14, sp16, h2]
      exact h
def sp49 : PSpec
  | [v, .int k], Q => bd v = true ∧ Q (.bool (isRow v k))
  | _, _ => False
theorem ok49 {T : Tb} (h47 : T.f 47 = sp16) (h48 : T.f 48 = sp48) : ∀ ds Q, sp49 ds Q → bodyW T 1 false b49 ds Q := by
  intro ds Q h
  match ds, h with
  | [v, .int k], ⟨hb, h⟩ =>
    unfold bodyW b49
    simp! [h47, sp16]
    dsimp! [isRow] at h
    cases e : isTup v k with
    | false => simpa [e] using h
    | true =>
      obtain ⟨ds, rfl, hk⟩ := tup_of e
      rw [e] at h
      simp! []
      refine comp_mapI (fun d => .bool (isFrac d)) (fun x hx K hK => ?_) ?_
      · simp! [h48, sp48, spFracB]
        exact ⟨(bd_tup.mp hb).2 x hx, hK⟩
      · rw [List.nil_append, uAll]
        exact ⟨_, rfl, h⟩
theorem ok50 {T : Tb} (h36 : T.f 36 = spTotal) (h49 : T.f 49 = sp49) : ∀ ds Q, sp23 ds Q → bodyW T 1 false b50 ds Q := by
  intro ds Q h
  match ds, h with
  | [v, .int k], ⟨hb, h⟩ =>
    unfold bodyW b50
    simp! [h49, sp49]
    refine ⟨hb, ?_⟩
    dsimp! [isOdds] at h
    cases e : isTup v k with
    | false =>
      simp only [isRow, e, Bool.false_and] at h ⊢
      simp! []
      exact h
    | true =>
      obtain ⟨ds, rfl, hk⟩ := tup_of e
      simp only [isRow, e, elems, Bool.true_and] at h ⊢
      cases e2 : ds.all isFrac with
      | false =>
        have : ds.all isNN = false := by
          cases e3 : ds.all isNN with
          | false => rfl
          | true =>
            obtain ⟨xs, rfl, _⟩ := allNN e3
            rw [← e2]
            simp [List.all_eq_true, isFrac_fr]
        rw [this] at h
        simp! []
        exact h
      | true =>
        obtain ⟨xs, rfl⟩ := allFr e2
        have hb2 := bd_tup.mp hb
        rw [List.length_map] at hb2
        rw [all_nn, map_ratOf] at h
        simp! []
        refine comp_map fr (fun x => .bool (decide (0 ≤ x))) xs [] (fun x hx K hK => ?_) ?_
        · simp! [Rat.num_nonneg]
          exact hK
        · rw [List.nil_append]
          refine uAllA ?_
          refine ⟨_, rfl, ?_⟩
          cases e3 : xs.all fun x => decide (0 ≤ x) with
          | false => rw [e3] at h; exact h
          | true =>
            rw [e3] at h
            simp! [h36]
            refine ⟨.tuple (xs.map fr), xs, 64, rfl, rfl, fun x hx => bd_fr (hb2.2 _ (List.mem_map_of_mem hx)), by omega, ?_⟩
            simp! []
            exact h
end Sp

/-! S4 -/
set_option Elab.async false
set_option linter.all false
set_option maxRecDepth 100000
set_option maxHeartbeats 4000000
namespace Sp
open PySem DH Bt Rx
local macro_rules | `(tactic| dsimp! [$ls,*]) => `(tactic| simp only [wSs_nil, wSs_cons, wS_set, wS_own, wS_asg, wS_par, wS_app, wS_setIx, wS_ret, wS_ifs, wS_brk, wS_pass, wS_expr, wS_frz, wS_sprS, wS_sprD, wS_ext, wS_aug, wE_m1, wE_dget, wE_var, wE_peek, wE_glob, wE_non, wE_bl, wE_int, wE_str, wE_tup, wE_lst, wE_bin, wE_neg, wE_not, wE_and, wE_or, wE_ite, wE_cmp, wE_chain, wE_ix, wE_slc, wE_rev,
  wE_call, wE_callS, wE_callK, wE_callP, wE_spr, wE_b1, wE_b2, wE_isi, wE_dic0, wE_dic1, wL_nil, wL_cons, wA_1, wA_2, wO_1, wO_2, wP_no, wP_yes, wC_no, wC_yes, cEq, cNe, cLt, cLe, cGt, cGe, truB, truT, truL, bAdd, bSub, bMul, bDiv, bMod, uLenT, uLenL, uTupL, uInt, uAbs, vGcd, vMax, vMin,
  e0F, e0T, gV, gO, parE, isiD, List.map_cons, List.map_nil, List.replicate, List.nil_append, List.append_nil, List.cons_append, List.getElem?_cons_zero, List.getElem?_cons_succ, List.set_cons_zero, List.set_cons_succ, Option.some.injEq, Sl.val.injEq, Sl.own.injEq, exists_eq_left', exists_eq_left, PyData.bool.injEq, PyData.int.injEq, PyData.list.injEq, PyData.tuple.injEq, Bool.false_eq_true, if_false, if_true, Bool.not_true, Bool.not_false,
  ixT0, ixT1, ixT2, ixL0, ixL1, ixL2, fr_num, fr_den, frEq, fr0, fr1, decide_true, decide_false, $ls,*])
local macro_rules | `(tactic| dsimp! [$ls,*] at $h:ident) => `(tactic| simp only [wSs_nil, wSs_cons, wS_set, wS_own, wS_asg, wS_par, wS_app, wS_setIx, wS_ret, wS_ifs, wS_brk, wS_pass, wS_expr, wS_frz, wS_sprS, wS_sprD, wS_ext, wS_aug, wE_m1, wE_dget, wE_var, wE_peek, wE_glob, wE_non, wE_bl, wE_int, wE_str, wE_tup, wE_lst, wE_bin, wE_neg, wE_not, wE_and, wE_or, wE_ite, wE_cmp, wE_chain, wE_ix, wE_slc, wE_rev,
  wE_call, wE_callS, wE_callK, wE_callP, wE_spr, wE_b1, wE_b2, wE_isi, wE_dic0, wE_dic1, wL_nil, wL_cons, wA_1, wA_2, wO_1, wO_2, wP_no, wP_yes, wC_no, wC_yes, cEq, cNe, cLt, cLe, cGt, cGe, truB, truT, truL, bAdd, bSub, bMul, bDiv, bMod, uLenT, uLenL, uTupL, uInt, uAbs, vGcd, vMax, vMin,
  e0F, e0T, gV, gO, parE, isiD, List.map_cons, List.map_nil, List.replicate, List.nil_append, List.append_nil, List.cons_append, List.getElem?_cons_zero, List.getElem?_cons_succ, List.set_cons_zero, List.set_cons_succ, Option.some.injEq, Sl.val.injEq, Sl.own.injEq, exists_eq_left', exists_eq_left, PyData.bool.injEq, PyData.int.injEq, PyData.list.injEq, PyData.tuple.injEq, Bool.false_eq_true, if_false, if_true, Bool.not_true, Bool.not_false,
  ixT0, ixT1, ixT2, ixL0, ixL1, ixL2, fr_num, fr_den, frEq, fr0, fr1, decide_true, decide_false, $ls,*] at $h:ident)
local macro_rules | `(tactic| simp! [$ls,*]) => `(tactic| simp only [wSs_nil, wSs_cons, wS_set, wS_own, wS_asg, wS_par, wS_app, wS_setIx, wS_ret, wS_ifs, wS_brk, wS_pass, wS_expr, wS_frz, wS_sprS, wS_sprD, wS_ext, wS_aug, wE_m1, wE_dget, wE_var, wE_peek, wE_glob, wE_non, wE_bl, wE_int, wE_str, wE_tup, wE_lst, wE_bin, wE_neg, wE_not, wE_and, wE_or, wE_ite, wE_cmp, wE_chain, wE_ix, wE_slc, wE_rev,
  wE_call, wE_callS, wE_callK, wE_callP, wE_spr, wE_b1, wE_b2, wE_isi, wE_dic0, wE_dic1, wL_nil, wL_cons, wA_1, wA_2, wO_1, wO_2, wP_no, wP_yes, wC_no, wC_yes, cEq, cNe, cLt, cLe, cGt, cGe, truB, truT, truL, bAdd, bSub, bMul, bDiv, bMod, uLenT, uLenL, uTupL, uInt, uAbs, vGcd, vMax, vMin,
  e0F, e0T, gV, gO, parE, isiD, List.map_cons, List.map_nil, List.replicate, List.nil_append, List.append_nil, List.cons_append, List.getElem?_cons_zero, List.getElem?_cons_succ, List.set_cons_zero, List.set_cons_succ, Option.some.injEq, Sl.val.injEq, Sl.own.injEq, exists_eq_left', exists_eq_left, PyData.bool.injEq, PyData.int.injEq, PyData.list.injEq, PyData.tuple.injEq, Bool.false_eq_true, if_false, if_true, Bool.not_true, Bool.not_false,
  ixT0, ixT1, ixT2, ixL0, ixL1, ixL2, fr_num, fr_den, frEq, fr0, fr1, decide_true, decide_false, wS_fo, wS_wh, wE_comp, wE_comp2, cS_at, tslots, tslotsL, src_seq, src_rng, src_rng2, src_z2, src_z3, src_enu, itemsT, itemsL, a_nm, a_tp, a_fr, a_nil, a_cons, wipe0, wipeS, cG_at, fG_at, cB_at, cT_yes, whB_at, whC_at, $ls,*])
local macro_rules | `(tactic| simp! [$ls,*] at $h:ident) => `(tactic| simp only [wSs_nil, wSs_cons, wS_set, wS_own, wS_asg, wS_par, wS_app, wS_setIx, wS_ret, wS_ifs, wS_brk, wS_pass, wS_expr, wS_frz, wS_sprS, wS_sprD, wS_ext, wS_aug, wE_m1, wE_dget, wE_var, wE_peek, wE_glob, wE_non, wE_bl, wE_int, wE_str, wE_tup, wE_lst, wE_bin, wE_neg, wE_not, wE_and, wE_or, wE_ite, wE_cmp, wE_chain, wE_ix, wE_slc, wE_rev,
  wE_call, wE_callS, wE_callK, wE_callP, wE_spr, wE_b1, wE_b2, wE_isi, wE_dic0, wE_dic1, wL_nil, wL_cons, wA_1, wA_2, wO_1, wO_2, wP_no, wP_yes, wC_no, wC_yes, cEq, cNe, cLt, cLe, cGt, cGe, truB, truT, truL, bAdd, bSub, bMul, bDiv, bMod, uLenT, uLenL, uTupL, uInt, uAbs, vGcd, vMax, vMin,
  e0F, e0T, gV, gO, parE, isiD, List.map_cons, List.map_nil, List.replicate, List.nil_append, List.append_nil, List.cons_append, List.getElem?_cons_zero, List.getElem?_cons_succ, List.set_cons_zero, List.set_cons_succ, Option.some.injEq, Sl.val.injEq, Sl.own.injEq, exists_eq_left', exists_eq_left, PyData.bool.injEq, PyData.int.injEq, PyData.list.injEq, PyData.tuple.injEq, Bool.false_eq_true, if_false, if_true, Bool.not_true, Bool.not_false,
  ixT0, ixT1, ixT2, ixL0, ixL1, ixL2, fr_num, fr_den, frEq, fr0, fr1, decide_true, decide_false, wS_fo, wS_wh, wE_comp, wE_comp2, cS_at, tslots, tslotsL, src_seq, src_rng, src_rng2, src_z2, src_z3, src_enu, itemsT, itemsL, a_nm, a_tp, a_fr, a_nil, a_cons, wipe0, wipeS, cG_at, fG_at, cB_at, cT_yes, whB_at, whC_at, $ls,*] at $h:ident)
/-! ### chances -/
def intOf : D → Int
  | .int i => i
  | _ => 0
def isPos (v : D) : Bool := isFrac v && decide (0 < (ratOf v).num)
def chOne (k least : Int) (d : D) : Bool := match d with
  | .tuple [i, c] => within least (k - 1) i && isPos c
  | _ => false
def nextOf : D → Int
  | .tuple [i, _] => intOf i + 1
  | _ => 0
def chs (k : Int) : Int → List D → Bool
  | _, [] => true
  | least, d :: ds => chOne k least d && chs k (nextOf d) ds
def second : D → Rat
  | .tuple [_, c] => ratOf c
  | _ => 0
def isChances (v : D) (k : Int) : Bool := match v with
  | .tuple ds => chs k 0 ds && qeq (rsum (ds.map second)) 1
  | _ => false
def pe (p : Int × Rat) : D := .tuple [.int p.1, fr p.2]
def chF (k : Int) : Int → List (Int × Rat) → Prop
  | _, [] => True
  | least, p :: ps => (least ≤ p.1 ∧ p.1 ≤ k - 1) ∧ 0 < p.2 ∧ chF k (p.1 + 1) ps
theorem within_iff {a b : Int} {v : D} : within a b v = true ↔ ∃ i, v = .int i ∧ a ≤ i ∧ i ≤ b := by
  cases v with
  | int i => simp [within]
  | _ => simp [within]
theorem pos_iff {v : D} : isPos v = true ↔ ∃ r, v = fr r ∧ 0 < r := by
  unfold isPos
  constructor
  · intro h
    rw [Bool.and_eq_true] at h
    obtain ⟨r, rfl⟩ := frac_fr.mp h.1
    have h2 := h.2
    rw [ratOf_fr, decide_eq_true_eq] at h2
    refine ⟨r, rfl, ?_⟩
    have h3 : 0 ≤ r.num := Int.le_of_lt h2
    refine Rat.lt_iff_le_and_ne.mpr ⟨Rat.num_nonneg.mp h3, fun z => ?_⟩
    rw [← z] at h2
    simp at h2
  · rintro ⟨r, rfl, h⟩
    rw [isFrac_fr, ratOf_fr]
    have h1 : 0 ≤ r.num := Rat.num_nonneg.mpr (Rat.le_of_lt h)
    have h2 : r.num ≠ 0 := fun z => Rat.ne_of_gt h (Rat.num_eq_zero.mp z)
    simp
    omega
theorem chOne_iff {k least : Int} {d : D} : chOne k least d = true ↔ ∃ i r, d = pe (i, r) ∧ (least ≤ i ∧ i ≤ k - 1) ∧ 0 < r := by
  constructor
  · intro h
    unfold chOne at h
    split at h
    · rw [Bool.and_eq_true] at h
      obtain ⟨i, rfl, h1⟩ := within_iff.mp h.1
      obtain ⟨r, rfl, h2⟩ := pos_iff.mp h.2
      exact ⟨i, r, rfl, h1, h2⟩
    · cases h
  · rintro ⟨i, r, rfl, h1, h2⟩
    show (within least (k - 1) (.int i) && isPos (fr r)) = true
    rw [within_iff.mpr ⟨i, rfl, h1⟩, pos_iff.mpr ⟨r, rfl, h2⟩]
    rfl
theorem chs_iff {k : Int} : ∀ {ds : List D} {least : Int}, chs k least ds = true ↔ ∃ ps, ds = ps.map pe ∧ chF k least ps
  | [], least => by
    constructor
    · intro _; exact ⟨[], rfl, trivial⟩
    · intro _; rfl
  | d :: ds, least => by
    rw [chs, Bool.and_eq_true]
    constructor
    · rintro ⟨h1, h2⟩
      obtain ⟨i, r, rfl, h3, h4⟩ := chOne_iff.mp h1
      obtain ⟨ps, rfl, h5⟩ := chs_iff.mp h2
      exact ⟨(i, r) :: ps, rfl, h3, h4, h5⟩
    · rintro ⟨ps, e, h⟩
      cases ps with
      | nil => cases e
      | cons p ps =>
        rw [List.map_cons, List.cons.injEq] at e
        obtain ⟨rfl, rfl⟩ := e
        exact ⟨chOne_iff.mpr ⟨p.1, p.2, rfl, h.1, h.2.1⟩, chs_iff.mpr ⟨ps, rfl, h.2.2⟩⟩
theorem second_pe (p : Int × Rat) : second (pe p) = p.2 := ratOf_fr p.2
theorem map_second (ps : List (Int × Rat)) : (ps.map pe).map second = ps.map (·.2) := by
  rw [List.map_map]
  congr 1
  funext p
  exact second_pe p
theorem chF_len {k : Int} : ∀ {ps : List (Int × Rat)} {least : Int}, chF k least ps → 0 ≤ least → (ps.length : Int) ≤ max 0 (k - least)
  | [], least, _, _ => by simp; omega
  | p :: ps, least, h, h0 => by
    have := chF_len h.2.2 (by have := h.1; omega)
    have h1 := h.1
    rw [List.length_cons]
    omega
/-- the place of a value that is no pair of a whole number and a fraction -/
theorem isi_tup (v : D) : isiD .tuple v = (match v with | .tuple _ => true | _ => false) := by cases v <;> rfl
def sp24 : PSpec
  | [v, .int k], Q => (bd v = true ∧ k ≤ 100) ∧ Q (.bool (isChances v k))
  | _, _ => False
def tupN (v : D) : Bool := match v with
  | .tuple _ => true
  | _ => false
theorem isTup2 {v : D} (h : isTup v 2 = true) : ∃ x y, v = .tuple [x, y] := by
  obtain ⟨ds, rfl, hl⟩ := tup_of h
  match ds, hl with
  | [x, y], _ => exact ⟨x, y, rfl⟩
  | [], h => simp at h
  | [x], h => simp at h
  | x :: y :: z :: r, h => simp only [List.length_cons] at h; omega
theorem chOne_not {k least : Int} {d : D} (h : isTup d 2 = false) : chOne k least d = false := by
  cases e : chOne k least d with
  | false => rfl
  | true =>
    obtain ⟨i, r, rfl, _⟩ := chOne_iff.mp e
    cases h
theorem loop24 {T : Tb} (h15 : T.f 15 = sp15) (h16 : T.f 16 = sp16) (h18 : T.f 18 = sp18) {v : D} {k : Int} {N : Po} : ∀ (ds : List D) (least : Int) (u3 u4 u5 : Option Sl),
    (chs k least ds = false → N.rt (.bool false)) → (chs k least ds = true → ∀ l u3, N.nx [some (.val v), some (.val (.int k)), some (.val (.int l)), u3, u4, u5]) →
    forW (fG (.nm 3)) (whB T (.cons (.ifs (.or (.cons (.not (.call 16 (.cons (.var 3) (.cons (.int 2) .nil)))) (.cons (.not (.call 15 (.cons (.ix (.var 3) (.int 0)) (.cons (.var 2) (.cons (.bin .sub (.var 1) (.int 1)) .nil))))) .nil))) (.cons (.ret (.bl false)) .nil) .nil) (.cons (.ifs (.or (.cons (.not (.call 18 (.cons (.ix (.var 3) (.int 1)) .nil))) (.cons (.cmp .eq (.ix (.ix (.var 3) (.int 1)) (.int 0)) (.int 0)) .nil))) (.cons (.ret (.bl false)) .nil) .nil) (.cons (.set 2 (.bin .add (.ix (.var 3) (.int 0)) (.int 1))) .nil)))) ds
      [some (.val v), some (.val (.int k)), some (.val (.int least)), u3, u4, u5] N
  | [], least, u3, u4, u5, _, ht => ht rfl _ _
  | d :: ds, least, u3, u4, u5, hf, ht => by
    have step : chOne k least d = true → ∀ i r, d = pe (i, r) → forW (fG (.nm 3)) (whB T (.cons (.ifs (.or (.cons (.not (.call 16 (.cons (.var 3) (.cons (.int 2) .nil)))) (.cons (.not (.call 15 (.cons (.ix (.var 3) (.int 0)) (.cons (.var 2) (.cons (.bin .sub (.var 1) (.int 1)) .nil))))) .nil))) (.cons (.ret (.bl false)) .nil) .nil) (.cons (.ifs (.or (.cons (.not (.call 18 (.cons (.ix (.var 3) (.int 1)) .nil))) (.cons (.cmp .eq (.ix (.ix (.var 3) (.int 1)) (.int 0)) (.int 0)) .nil))) (.cons (.ret (.bl false)) .nil) .nil) (.cons (.set 2 (.bin .add (.ix (.var 3) (.int 0)) (.int 1))) .nil)))) ds
        [some (.val v), some (.val (.int k)), some (.val (.int (i + 1))), some (.val d), u4, u5] N := fun h1 i r e => by
      refine loop24 h15 h16 h18 ds (i + 1) _ u4 u5 (fun z => hf ?_) (fun z => ht ?_)
      · rw [chs, e]
        show (_ && chs k (i + 1) ds) = false
        rw [z, Bool.and_false]
      · rw [chs, h1, e]
        exact z
    show fG (.nm 3) d _ _
    simp! [h15, h16, h18, sp15, sp16, sp18]
    cases e : isTup d 2 with
    | false =>
      simp! []
      exact hf (by rw [chs, chOne_not e]; rfl)
    | true =>
      obtain ⟨x, y, rfl⟩ := isTup2 e
      simp! []
      have one : chOne k least (.tuple [x, y]) = (within least (k - 1) x && isPos y) := rfl
      cases e1 : within least (k - 1) x with
      | false =>
        simp! []
        exact hf (by rw [chs, one, e1]; rfl)
      | true =>
        obtain ⟨i, rfl, h1⟩ := within_iff.mp e1
        simp! []
        cases e2 : isNN y with
        | false =>
          simp! []
          refine hf ?_
          have : isPos y = false := by
            cases e3 : isPos y with
            | false => rfl
            | true =>
              obtain ⟨r, rfl, h0⟩ := pos_iff.mp e3
              rw [nn_fr.mpr ⟨r, rfl, Rat.le_of_lt h0⟩] at e2
              cases e2
          rw [chs, one, this, Bool.and_false]
          rfl
        | true =>
          obtain ⟨r, rfl, h0⟩ := nn_fr.mp e2
          simp! []
          have hp : isPos (fr r) = !decide (r.num = 0) := by
            unfold isPos
            rw [isFrac_fr, ratOf_fr]
            have : 0 ≤ r.num := Rat.num_nonneg.mpr h0
            by_cases z : r.num = 0
            · simp [z]
            · simp [z]; omega
          cases e3 : decide (r.num = 0) with
          | true =>
            simp! []
            refine hf ?_
            rw [chs, one, hp, e3]
            simp
          | false =>
            simp! []
            refine step ?_ i r rfl
            rw [one, e1, hp, e3]
            rfl
theorem ok24 {T : Tb} (h15 : T.f 15 = sp15) (h16 : T.f 16 = sp16) (h18 : T.f 18 = sp18) (h22 : T.f 22 = spTotal) (c0 : T.c 0 = .tuple [.int 1, .int 1]) : ∀ ds Q, sp24 ds Q → bodyW T 4 false b24 ds Q := by
  intro ds Q h
  match ds, h with
  | [v, .int k], ⟨⟨hb, hk⟩, h⟩ =>
    unfold bodyW b24
    cases v with
    | tuple ds =>
      simp! []
      refine loop24 h15 h16 h18 ds 0 _ _ _ (fun z => ?_) fun z l u3 => ?_
      · show Q _
        have : isChances (.tuple ds) k = false := by unfold isChances; simp [z]
        rw [this] at h
        exact h
      · obtain ⟨ps, rfl, hps⟩ := chs_iff.mp z
        have hl := chF_len hps (by omega)
        have hb2 := bd_tup.mp hb
        rw [List.length_map] at hb2
        simp! [h22, c0]
        refine comp_map pe (fun p => fr p.2) ps [] (fun p hp K hK => ?_) ?_
        · unfold pe
          simp! []
          exact hK
        · rw [List.nil_append]
          refine ⟨.list (ps.map fun p => fr p.2), ps.map (·.2), 64, rfl, by rw [itemsL, List.map_map]; rfl, ?_, ?_, ?_⟩
          · intro x hx
            obtain ⟨p, hp, rfl⟩ := List.mem_map.mp hx
            have h3 := hb2.2 _ (List.mem_map_of_mem (f := pe) hp)
            unfold pe at h3
            exact bd_fr ((bd_tup.mp h3).2 _ (by simp))
          · rw [List.length_map]; omega
          · simp! []
            have : isChances (.tuple (ps.map pe)) k = qeq (rsum (ps.map (·.2))) 1 := by
              show (chs k 0 (ps.map pe) && qeq (rsum ((ps.map pe).map second)) 1) = _
              rw [z, map_second]
              rfl
            rw [this] at h
            exact h
    | _ => simp! []; exact h

/-! ### deeds, stands, houses -/
def isDeed (v : D) (p k : Int) : Bool := match v with
  | .tuple [c, g] => isChances c k && isRow g p
  | _ => false
def isStand (v : D) (p k : Int) : Bool := match v with
  | .tuple ds => (decide (1 ≤ (ds.length : Int)) && decide ((ds.length : Int) ≤ 4)) && ds.all fun d => isDeed d p k
  | _ => false
def isHouse (v : D) : Bool := match v with
  | .tuple [s, .int p, .tuple st] => (isNN s && decide ((ratOf s).num < (ratOf s).den)) && within 1 4 (.int p) && (decide (1 ≤ (st.length : Int)) && decide ((st.length : Int) ≤ 8)) && st.all fun d => isStand d p st.length
  | _ => false
theorem isDeed_not {v : D} {p k : Int} (h : isTup v 2 = false) : isDeed v p k = false := by
  unfold isDeed
  split
  · cases h
  · rfl
theorem isTup3 {v : D} (h : isTup v 3 = true) : ∃ x y z, v = .tuple [x, y, z] := by
  obtain ⟨ds, rfl, hl⟩ := tup_of h
  match ds, hl with
  | [x, y, z], _ => exact ⟨x, y, z, rfl⟩
  | [], h => simp at h
  | [x], h => simp at h
  | [x, y], h => simp at h
  | x :: y :: z :: r :: q, h => simp only [List.length_cons] at h; omega
theorem isHouse_not {v : D} (h : isTup v 3 = false) : isHouse v = false := by
  unfold isHouse
  split
  · cases h
  · rfl
def spHouse : PSpec
  | [v], Q => bd v = true ∧ Q (.bool (isHouse v))
  | _, _ => False
abbrev sp27 := spHouse
theorem isHouse3 (x z : D) (p : Int) : isHouse (.tuple [x, .int p, z]) = (match z with | .tuple st => (isNN x && decide ((ratOf x).num < (ratOf x).den)) && within 1 4 (.int p) && (decide (1 ≤ (st.length : Int)) && decide ((st.length : Int) ≤ 8)) && st.all fun d => isStand d p st.length | _ => false) := by
  cases z <;> rfl
theorem house_nn {x y z : D} (h : isNN x = false) : isHouse (.tuple [x, y, z]) = false := by
  unfold isHouse
  split
  · rename_i e
    simp only [PyData.tuple.injEq, List.cons.injEq, and_true] at e
    obtain ⟨rfl, rfl, rfl⟩ := e
    simp [h]
  · rfl
theorem house_lt {x y z : D} (h : decide ((ratOf x).num < (ratOf x).den) = false) : isHouse (.tuple [x, y, z]) = false := by
  unfold isHouse
  split
  · rename_i e
    simp only [PyData.tuple.injEq, List.cons.injEq, and_true] at e
    obtain ⟨rfl, rfl, rfl⟩ := e
    simp [h]
  · rfl
theorem house_wi {x y z : D} (h : within 1 4 y = false) : isHouse (.tuple [x, y, z]) = false := by
  unfold isHouse
  split
  · rename_i e
    simp only [PyData.tuple.injEq, List.cons.injEq, and_true] at e
    obtain ⟨rfl, rfl, rfl⟩ := e
    simp [h]
  · rfl
def isDeedF (d : D) (p : Int) : Bool := match d with
  | .tuple [_, g] => isRow g p
  | _ => false
def isStandF (v : D) (p : Int) : Bool := match v with
  | .tuple ds => (decide (1 ≤ (ds.length : Int)) && decide ((ds.length : Int) ≤ 4)) && ds.all fun d => isDeedF d p
  | _ => false
def isFrame (v : D) : Bool := match v with
  | .tuple [s, .int p, .tuple st] => (isNN s && decide ((ratOf s).num < (ratOf s).den)) && within 1 4 (.int p) && (decide (1 ≤ (st.length : Int)) && decide ((st.length : Int) ≤ 8)) && st.all fun d => isStandF d p
  | _ => false
def wayOf (d : D) : D := match d with
  | .tuple [c, _] => c
  | _ => .none
def waysOf (s : D) : List D := match s with
  | .tuple ds => ds.map wayOf
  | _ => []
def standsOf (v : D) : List D := match v with
  | .tuple [_, _, .tuple st] => st
  | _ => []
theorem isDeed_split (d : D) (p k : Int) : isDeed d p k = (isDeedF d p && isChances (wayOf d) k) := by
  unfold isDeed isDeedF wayOf
  split
  · exact Bool.and_comm _ _
  · rfl
theorem all_and {α : Type} (f g : α → Bool) : ∀ xs : List α, xs.all (fun x => f x && g x) = (xs.all f && xs.all g)
  | [] => rfl
  | x :: xs => by
    simp only [List.all_cons, all_and f g xs]
    cases f x <;> cases g x <;> simp
theorem isStand_split (s : D) (p k : Int) : isStand s p k = (isStandF s p && (waysOf s).all fun c => isChances c k) := by
  unfold isStand isStandF waysOf
  split
  · rename_i ds
    have e : (ds.all fun d => isDeed d p k) = ((ds.all fun d => isDeedF d p) && (ds.map wayOf).all fun c => isChances c k) := by
      rw [List.all_map, ← all_and]
      congr 1
      funext d
      exact isDeed_split d p k
    rw [e]
    simp only [Bool.and_assoc]
  · rfl
theorem isHouse_split (v : D) : isHouse v = (isFrame v && ((standsOf v).flatMap waysOf).all fun c => isChances c (standsOf v).length) := by
  unfold isHouse isFrame
  split
  · rename_i s p st
    have e : (st.all fun d => isStand d p st.length) = ((st.all fun d => isStandF d p) && (st.flatMap waysOf).all fun c => isChances c st.length) := by
      rw [List.all_flatMap, ← all_and]
      congr 1
      funext d
      exact isStand_split d p st.length
    show _ = (_ && (st.flatMap waysOf).all fun c => isChances c st.length)
    rw [e, ← Bool.and_assoc]
  · rfl
def sp494 : PSpec
  | [v, .int p], Q => bd v = true ∧ Q (.bool (isStandF v p))
  | _, _ => False
theorem deedF_not {v : D} {p : Int} (h : isTup v 2 = false) : isDeedF v p = false := by
  unfold isDeedF
  split
  · cases h
  · rfl
theorem ok494 {T : Tb} (h15 : T.f 15 = sp15) (h16 : T.f 16 = sp16) (h19 : T.f 19 = sp19) : ∀ ds Q, sp494 ds Q → bodyW T 1 false b494 ds Q := by
  intro ds Q h
  match ds, h with
  | [v, .int p], ⟨hb, h⟩ =>
    unfold bodyW b494
    cases v with
    | tuple ds =>
      simp! [h15, sp15, within]
      have one : isStandF (.tuple ds) p = ((decide (1 ≤ (ds.length : Int)) && decide ((ds.length : Int) ≤ 4)) && ds.all fun d => isDeedF d p) := rfl
      rw [one] at h
      cases e : (decide (1 ≤ (ds.length : Int)) && decide ((ds.length : Int) ≤ 4)) with
      | false =>
        rw [e] at h
        simp! []
        exact h
      | true =>
        rw [e] at h
        simp! []
        refine comp_mapI (fun d => .bool (isDeedF d p)) (fun x hx K hK => ?_) ?_
        · simp! [h16, sp16]
          cases e : isTup x 2 with
          | false =>
            simp! []
            rw [deedF_not e] at hK
            exact hK
          | true =>
            obtain ⟨y, z, rfl⟩ := isTup2 e
            simp! [h19, sp19]
            exact hK
        · rw [List.nil_append]
          exact uAllA h
    | _ => simp! []; exact h
theorem isFrame_not {v : D} (h : isTup v 3 = false) : isFrame v = false := by
  unfold isFrame
  split
  · cases h
  · rfl
def sp495 : PSpec
  | [v], Q => bd v = true ∧ Q (.bool (isFrame v))
  | _, _ => False
theorem isFrame3 (x z : D) (p : Int) : isFrame (.tuple [x, .int p, z]) = (match z with | .tuple st => (isNN x && decide ((ratOf x).num < (ratOf x).den)) && within 1 4 (.int p) && (decide (1 ≤ (st.length : Int)) && decide ((st.length : Int) ≤ 8)) && st.all fun d => isStandF d p | _ => false) := by
  cases z <;> rfl
theorem frame_nn {x y z : D} (h : isNN x = false) : isFrame (.tuple [x, y, z]) = false := by
  unfold isFrame
  split
  · rename_i e
    simp only [PyData.tuple.injEq, List.cons.injEq, and_true] at e
    obtain ⟨rfl, rfl, rfl⟩ := e
    simp [h]
  · rfl
theorem frame_lt {x y z : D} (h : decide ((ratOf x).num < (ratOf x).den) = false) : isFrame (.tuple [x, y, z]) = false := by
  unfold isFrame
  split
  · rename_i e
    simp only [PyData.tuple.injEq, List.cons.injEq, and_true] at e
    obtain ⟨rfl, rfl, rfl⟩ := e
    simp [h]
  · rfl
theorem frame_wi {x y z : D} (h : within 1 4 y = false) : isFrame (.tuple [x, y, z]) = false := by
  unfold isFrame
  split
  · rename_i e
    simp only [PyData.tuple.injEq, List.cons.injEq, and_true] at e
    obtain ⟨rfl, rfl, rfl⟩ := e
    simp [h]
  · rfl
theorem ok495 {T : Tb} (h15 : T.f 15 = sp15) (h16 : T.f 16 = sp16) (h18 : T.f 18 = sp18) (h494 : T.f 494 = sp494) : ∀ ds Q, sp495 ds Q → bodyW T 4 false b495 ds Q := by
  intro ds Q h
  match ds, h with
  | [v], ⟨hb, h⟩ =>
    unfold bodyW b495
    simp! [h15, h16, h18, sp15, sp16, sp18]
    cases e : isTup v 3 with
    | false =>
      simp! []
      rw [isFrame_not e] at h
      exact h
    | true =>
      obtain ⟨x, y, z, rfl⟩ := isTup3 e
      simp! []
      cases e1 : isNN x with
      | false =>
        simp! []
        rw [frame_nn e1] at h
        exact h
      | true =>
        obtain ⟨r, rfl, hr⟩ := nn_fr.mp e1
        simp! []
        by_cases e2 : r.num < r.den
        · have e3 : ¬ (r.den : Int) ≤ r.num := by omega
          simp! [e3]
          cases e4 : within 1 4 y with
          | false =>
            simp! []
            rw [frame_wi e4] at h
            exact h
          | true =>
            obtain ⟨p, rfl, hp⟩ := within_iff.mp e4
            simp! []
            rw [isFrame3] at h
            cases z with
            | tuple st =>
              simp! [within]
              simp only [e1, e4, ratOf_fr, e2, decide_true, Bool.true_and] at h
              cases e5 : (decide (1 ≤ (st.length : Int)) && decide ((st.length : Int) ≤ 8)) with
              | false =>
                rw [e5] at h
                simp! []
                exact h
              | true =>
                rw [e5] at h
                simp! []
                have hb2 := (bd_tup.mp ((bd_tup.mp hb).2 (.tuple st) (by simp))).2
                refine comp_mapI (fun d => .bool (isStandF d p)) (fun w hx K hK => ?_) ?_
                · simp! [h494, sp494]
                  exact ⟨hb2 w hx, hK⟩
                · rw [List.nil_append]
                  exact uAllA h
            | _ => simp! []; exact h
        · have e3 : (r.den : Int) ≤ r.num := by omega
          simp! [e3]
          rw [frame_lt (by rw [ratOf_fr]; simpa using e2)] at h
          exact h
/-- stands, deeds of two parts each -/
def IsWays (v : D) : Prop := ∃ (x y : D) (sts : List (List (D × D))), v = .tuple [x, y, .tuple (sts.map fun s => .tuple (s.map fun q => .tuple [q.1, q.2]))] ∧ sts.length ≤ 1000 ∧ ∀ s ∈ sts, s.length ≤ 1000
theorem ways_at {x y : D} (sts : List (List (D × D))) : (standsOf (.tuple [x, y, .tuple (sts.map fun s => .tuple (s.map fun q => .tuple [q.1, q.2]))])).flatMap waysOf = sts.flatMap fun s => s.map (·.1) := by
  show (sts.map _).flatMap waysOf = _
  rw [List.flatMap_map]
  congr 1
  funext s
  show ((s.map _).map wayOf) = _
  rw [List.map_map]
  rfl
theorem deeds_of {p : Int} : ∀ {ds : List D}, (ds.all fun d => isDeedF d p) = true → ∃ s : List (D × D), ds = s.map fun q => .tuple [q.1, q.2]
  | [], _ => ⟨[], rfl⟩
  | d :: ds, h => by
    simp only [List.all_cons, Bool.and_eq_true] at h
    obtain ⟨s, rfl⟩ := deeds_of h.2
    have h1 := h.1
    unfold isDeedF at h1
    split at h1
    · exact ⟨(_, _) :: s, rfl⟩
    · cases h1
theorem stands_of {p : Int} : ∀ {st : List D}, (st.all fun d => isStandF d p) = true → ∃ sts : List (List (D × D)), st = (sts.map fun s => .tuple (s.map fun q => .tuple [q.1, q.2])) ∧ ∀ s ∈ sts, s.length ≤ 1000
  | [], _ => ⟨[], rfl, fun s h => by cases h⟩
  | d :: ds, h => by
    simp only [List.all_cons, Bool.and_eq_true] at h
    obtain ⟨sts, rfl, hl⟩ := stands_of h.2
    have h1 := h.1
    unfold isStandF at h1
    split at h1
    · simp only [Bool.and_eq_true, decide_eq_true_eq] at h1
      obtain ⟨s, rfl⟩ := deeds_of h1.2
      refine ⟨s :: sts, rfl, fun x hx => ?_⟩
      rcases List.mem_cons.mp hx with rfl | hx
      · have := h1.1.2
        rw [List.length_map] at this
        omega
      · exact hl x hx
    · cases h1
theorem frame_ways {v : D} (h : isFrame v = true) : IsWays v := by
  unfold isFrame at h
  split at h
  · simp only [Bool.and_eq_true, decide_eq_true_eq] at h
    obtain ⟨sts, rfl, hl⟩ := stands_of h.2
    refine ⟨_, _, sts, rfl, ?_, hl⟩
    have := h.1.2.2
    rw [List.length_map] at this
    omega
  · cases h
def spWays : PSpec := fun ds Q => ∃ v, ds = [v] ∧ IsWays v ∧ Q (.list ((standsOf v).flatMap waysOf))
abbrev sp496 := spWays
theorem ok496 {T : Tb} : ∀ ds Q, sp496 ds Q → bodyW T 3 false b496 ds Q := by
  rintro ds Q ⟨v, rfl, ⟨x, y, sts, rfl, l1, l2⟩, h⟩
  unfold bodyW b496
  rw [ways_at] at h
  simp! []
  refine ⟨by rw [List.length_map]; exact l1, ?_⟩
  refine comp2_map (fun s : List (D × D) => .tuple (s.map fun q => .tuple [q.1, q.2])) (fun s => s.map (·.1)) sts [] (fun s hs acc K hK => ?_) ?_
  · simp! []
    refine ⟨by rw [List.length_map]; exact l2 s hs, ?_⟩
    refine comp_map (fun q : D × D => .tuple [q.1, q.2]) (·.1) s acc (fun q hq K' hK' => ?_) hK
    simp! []
    exact hK'
  · rw [List.nil_append]
    exact h
def spHouse' : PSpec := spHouse
abbrev sp497 := spHouse
theorem ok497 {T : Tb} (h24 : T.f 24 = sp24) (h495 : T.f 495 = sp495) (h496 : T.f 496 = sp496) : ∀ ds Q, sp497 ds Q → bodyW T 1 false b497 ds Q := by
  intro ds Q h
  match ds, h with
  | [v], ⟨hb, h⟩ =>
    unfold bodyW b497
    rw [isHouse_split] at h
    simp! [h495, h496, sp495]
    refine ⟨hb, ?_⟩
    cases e : isFrame v with
    | false =>
      rw [e] at h
      simp! []
      exact h
    | true =>
      rw [e] at h
      simp! []
      have hw := frame_ways e
      refine ⟨v, rfl, hw, ?_⟩
      obtain ⟨x, y, sts, rfl, l1, l2⟩ := hw
      simp! []
      have hl : sts.length ≤ 100 := by
        unfold isFrame at e
        split at e
        · rename_i e0
          simp only [PyData.tuple.injEq, List.cons.injEq, and_true] at e0
          obtain ⟨_, _, rfl⟩ := e0
          simp only [Bool.and_eq_true, decide_eq_true_eq, List.length_map] at e
          omega
        · cases e
      have hb3 := (bd_tup.mp ((bd_tup.mp hb).2 _ (List.mem_cons_of_mem _ (List.mem_cons_of_mem _ List.mem_cons_self)))).2
      refine comp_mapI (fun c => .bool (isChances c (sts.length : Nat))) (fun c hc K hK => ?_) ?_
      · simp! [h24, sp24, List.length_map]
        refine ⟨⟨?_, by omega⟩, hK⟩
        rw [ways_at] at hc
        obtain ⟨s, hs, hc⟩ := List.mem_flatMap.mp hc
        obtain ⟨q, hq, rfl⟩ := List.mem_map.mp hc
        have h1 := hb3 _ (List.mem_map_of_mem (f := fun s : List (D × D) => PyData.tuple (s.map fun q => .tuple [q.1, q.2])) hs)
        have h2 := (bd_tup.mp h1).2 _ (List.mem_map_of_mem (f := fun q : D × D => PyData.tuple [q.1, q.2]) hq)
        exact (bd_tup.mp h2).2 _ List.mem_cons_self
      · rw [List.nil_append]
        have e2 : ((standsOf (.tuple [x, y, .tuple (sts.map fun s => .tuple (s.map fun q => .tuple [q.1, q.2]))])).length) = sts.length := by
          show (sts.map _).length = _
          rw [List.length_map]
        rw [e2, Bool.true_and] at h
        exact uAllA ⟨_, rfl, h⟩
end Sp

/-! S5 -/
set_option Elab.async false
set_option linter.all false
set_option maxRecDepth 100000
set_option maxHeartbeats 4000000
namespace Sp
open PySem DH Bt Rx
local macro_rules | `(tactic| dsimp! [$ls,*]) => `(tactic| simp only [wSs_nil, wSs_cons, wS_set, wS_own, wS_asg, wS_par, wS_app, wS_setIx, wS_ret, wS_ifs, wS_brk, wS_pass, wS_expr, wS_frz, wS_sprS, wS_sprD, wS_ext, wS_aug, wE_m1, wE_dget, wE_var, wE_peek, wE_glob, wE_non, wE_bl, wE_int, wE_str, wE_tup, wE_lst, wE_bin, wE_neg, wE_not, wE_and, wE_or, wE_ite, wE_cmp, wE_chain, wE_ix, wE_slc, wE_rev,
  wE_call, wE_callS, wE_callK, wE_callP, wE_spr, wE_b1, wE_b2, wE_isi, wE_dic0, wE_dic1, wL_nil, wL_cons, wA_1, wA_2, wO_1, wO_2, wP_no, wP_yes, wC_no, wC_yes, cEq, cNe, cLt, cLe, cGt, cGe, truB, truT, truL, bAdd, bSub, bMul, bDiv, bMod, uLenT, uLenL, uTupL, uInt, uAbs, vGcd, vMax, vMin,
  e0F, e0T, gV, gO, parE, isiD, List.map_cons, List.map_nil, List.replicate, List.nil_append, List.append_nil, List.cons_append, List.getElem?_cons_zero, List.getElem?_cons_succ, List.set_cons_zero, List.set_cons_succ, Option.some.injEq, Sl.val.injEq, Sl.own.injEq, exists_eq_left', exists_eq_left, PyData.bool.injEq, PyData.int.injEq, PyData.list.injEq, PyData.tuple.injEq, Bool.false_eq_true, if_false, if_true, Bool.not_true, Bool.not_false,
  ixT0, ixT1, ixT2, ixL0, ixL1, ixL2, fr_num, fr_den, frEq, fr0, fr1, decide_true, decide_false, $ls,*])
local macro_rules | `(tactic| dsimp! [$ls,*] at $h:ident) => `(tactic| simp only [wSs_nil, wSs_cons, wS_set, wS_own, wS_asg, wS_par, wS_app, wS_setIx, wS_ret, wS_ifs, wS_brk, wS_pass, wS_expr, wS_frz, wS_sprS, wS_sprD, wS_ext, wS_aug, wE_m1, wE_dget, wE_var, wE_peek, wE_glob, wE_non, wE_bl, wE_int, wE_str, wE_tup, wE_lst, wE_bin, wE_neg, wE_not, wE_and, wE_or, wE_ite, wE_cmp, wE_chain, wE_ix, wE_slc, wE_rev,
  wE_call, wE_callS, wE_callK, wE_callP, wE_spr, wE_b1, wE_b2, wE_isi, wE_dic0, wE_dic1, wL_nil, wL_cons, wA_1, wA_2, wO_1, wO_2, wP_no, wP_yes, wC_no, wC_yes, cEq, cNe, cLt, cLe, cGt, cGe, truB, truT, truL, bAdd, bSub, bMul, bDiv, bMod, uLenT, uLenL, uTupL, uInt, uAbs, vGcd, vMax, vMin,
  e0F, e0T, gV, gO, parE, isiD, List.map_cons, List.map_nil, List.replicate, List.nil_append, List.append_nil, List.cons_append, List.getElem?_cons_zero, List.getElem?_cons_succ, List.set_cons_zero, List.set_cons_succ, Option.some.injEq, Sl.val.injEq, Sl.own.injEq, exists_eq_left', exists_eq_left, PyData.bool.injEq, PyData.int.injEq, PyData.list.injEq, PyData.tuple.injEq, Bool.false_eq_true, if_false, if_true, Bool.not_true, Bool.not_false,
  ixT0, ixT1, ixT2, ixL0, ixL1, ixL2, fr_num, fr_den, frEq, fr0, fr1, decide_true, decide_false, $ls,*] at $h:ident)
local macro_rules | `(tactic| simp! [$ls,*]) => `(tactic| simp only [wSs_nil, wSs_cons, wS_set, wS_own, wS_asg, wS_par, wS_app, wS_setIx, wS_ret, wS_ifs, wS_brk, wS_pass, wS_expr, wS_frz, wS_sprS, wS_sprD, wS_ext, wS_aug, wE_m1, wE_dget, wE_var, wE_peek, wE_glob, wE_non, wE_bl, wE_int, wE_str, wE_tup, wE_lst, wE_bin, wE_neg, wE_not, wE_and, wE_or, wE_ite, wE_cmp, wE_chain, wE_ix, wE_slc, wE_rev,
  wE_call, wE_callS, wE_callK, wE_callP, wE_spr, wE_b1, wE_b2, wE_isi, wE_dic0, wE_dic1, wL_nil, wL_cons, wA_1, wA_2, wO_1, wO_2, wP_no, wP_yes, wC_no, wC_yes, cEq, cNe, cLt, cLe, cGt, cGe, truB, truT, truL, bAdd, bSub, bMul, bDiv, bMod, uLenT, uLenL, uTupL, uInt, uAbs, vGcd, vMax, vMin,
  e0F, e0T, gV, gO, parE, isiD, List.map_cons, List.map_nil, List.replicate, List.nil_append, List.append_nil, List.cons_append, List.getElem?_cons_zero, List.getElem?_cons_succ, List.set_cons_zero, List.set_cons_succ, Option.some.injEq, Sl.val.injEq, Sl.own.injEq, exists_eq_left', exists_eq_left, PyData.bool.injEq, PyData.int.injEq, PyData.list.injEq, PyData.tuple.injEq, Bool.false_eq_true, if_false, if_true, Bool.not_true, Bool.not_false,
  ixT0, ixT1, ixT2, ixL0, ixL1, ixL2, fr_num, fr_den, frEq, fr0, fr1, decide_true, decide_false, wS_fo, wS_wh, wE_comp, wE_comp2, cS_at, tslots, tslotsL, src_seq, src_rng, src_rng2, src_z2, src_z3, src_enu, itemsT, itemsL, a_nm, a_tp, a_fr, a_nil, a_cons, wipe0, wipeS, cG_at, fG_at, cB_at, cT_yes, whB_at, whC_at, $ls,*])
local macro_rules | `(tactic| simp! [$ls,*] at $h:ident) => `(tactic| simp only [wSs_nil, wSs_cons, wS_set, wS_own, wS_asg, wS_par, wS_app, wS_setIx, wS_ret, wS_ifs, wS_brk, wS_pass, wS_expr, wS_frz, wS_sprS, wS_sprD, wS_ext, wS_aug, wE_m1, wE_dget, wE_var, wE_peek, wE_glob, wE_non, wE_bl, wE_int, wE_str, wE_tup, wE_lst, wE_bin, wE_neg, wE_not, wE_and, wE_or, wE_ite, wE_cmp, wE_chain, wE_ix, wE_slc, wE_rev,
  wE_call, wE_callS, wE_callK, wE_callP, wE_spr, wE_b1, wE_b2, wE_isi, wE_dic0, wE_dic1, wL_nil, wL_cons, wA_1, wA_2, wO_1, wO_2, wP_no, wP_yes, wC_no, wC_yes, cEq, cNe, cLt, cLe, cGt, cGe, truB, truT, truL, bAdd, bSub, bMul, bDiv, bMod, uLenT, uLenL, uTupL, uInt, uAbs, vGcd, vMax, vMin,
  e0F, e0T, gV, gO, parE, isiD, List.map_cons, List.map_nil, List.replicate, List.nil_append, List.append_nil, List.cons_append, List.getElem?_cons_zero, List.getElem?_cons_succ, List.set_cons_zero, List.set_cons_succ, Option.some.injEq, Sl.val.injEq, Sl.own.injEq, exists_eq_left', exists_eq_left, PyData.bool.injEq, PyData.int.injEq, PyData.list.injEq, PyData.tuple.injEq, Bool.false_eq_true, if_false, if_true, Bool.not_true, Bool.not_false,
  ixT0, ixT1, ixT2, ixL0, ixL1, ixL2, fr_num, fr_den, frEq, fr0, fr1, decide_true, decide_false, wS_fo, wS_wh, wE_comp, wE_comp2, cS_at, tslots, tslotsL, src_seq, src_rng, src_rng2, src_z2, src_z3, src_enu, itemsT, itemsL, a_nm, a_tp, a_fr, a_nil, a_cons, wipe0, wipeS, cG_at, fG_at, cB_at, cT_yes, whB_at, whC_at, $ls,*] at $h:ident)
/-! ### the law's own look at houses -/
theorem chain_at {o p : CO} {a b c : E} {T : Tb} {ρ : DH.Env} {Q : D → Prop} : wpE T (.chain o p a b c) ρ Q = wpE T a ρ fun x => wpE T b ρ fun y => cmpW o x y fun k => match k with
  | true => wpE T c ρ fun z => cmpW p y z fun k => Q (.bool k)
  | false => Q (.bool false) := rfl
def body51 : SL := (.cons (.ifs (.or (.cons (.not (.call 47 (.cons (.var 5) (.cons (.int 2) .nil)))) (.cons (.not (.call 46 (.cons (.ix (.var 5) (.int 0)) .nil))) (.cons (.not (.call 48 (.cons (.ix (.var 5) (.int 1)) .nil))) .nil)))) (.cons (.ret (.bl false)) .nil) .nil) (.cons (.ifs (.or (.cons (.not (.chain .lt .lt (.var 3) (.ix (.var 5) (.int 0)) (.var 2))) (.cons (.cmp .le (.ix (.ix (.var 5) (.int 1)) (.int 0)) (.int 0)) .nil))) (.cons (.ret (.bl false)) .nil) .nil) (.cons (.par [(3, false), (4, false)] (.cons (.ix (.var 5) (.int 0)) (.cons (.call 34 (.cons (.var 4) (.cons (.ix (.var 5) (.int 1)) .nil))) .nil))) .nil)))
theorem chOne_int {k least : Int} {x y : D} (h : isInt x = false) : chOne k least (.tuple [x, y]) = false := by
  show (within least (k - 1) x && isPos y) = false
  have : within least (k - 1) x = false := by cases x <;> first | rfl | cases h
  rw [this]
  rfl
theorem isInt_ex {x : D} (h : isInt x = true) : ∃ i, x = .int i := by
  cases x with
  | int i => exact ⟨i, rfl⟩
  | _ => cases h
theorem loop51 {T : Tb} (h34 : T.f 34 = sp34) (h46 : T.f 46 = sp14) (h47 : T.f 47 = sp16) (h48 : T.f 48 = sp48) {v : D} {p k : Int} {N : Po} : ∀ (ds : List D) (last : Int) (pre : List Rat) (u5 : Option Sl),
    (∀ d ∈ ds, bd d = true) → (∀ r ∈ pre, Rb 64 r) → (pre.length + max 0 (k - 1 - last)) ≤ 100 → -1 ≤ last →
    (chs k (last + 1) ds = false → N.rt (.bool false)) → (chs k (last + 1) ds = true → ∀ l u5, N.nx [some (.val v), some (.val (.int p)), some (.val (.int k)), some (.val (.int l)), some (.val (fr (rsum (pre ++ ds.map second)))), u5]) →
    forW (fG (.nm 5)) (whB T body51) ds [some (.val v), some (.val (.int p)), some (.val (.int k)), some (.val (.int last)), some (.val (fr (rsum pre))), u5] N
  | [], last, pre, u5, _, _, _, _, _, ht => by
    have := ht rfl last u5
    rw [List.map_nil, List.append_nil] at this
    exact this
  | d :: ds, last, pre, u5, hb, hpre, hlen, hl, hf, ht => by
    have hbd := hb d List.mem_cons_self
    show fG (.nm 5) d _ _
    unfold body51
    simp! [h46, h47, sp14, sp16]
    cases e : isTup d 2 with
    | false =>
      simp! []
      exact hf (by rw [chs, chOne_not e]; rfl)
    | true =>
      obtain ⟨x, y, rfl⟩ := isTup2 e
      have hy : bd y = true := (bd_tup.mp hbd).2 y (by simp)
      simp! []
      cases e1 : isInt x with
      | false =>
        simp! []
        exact hf (by rw [chs, chOne_int e1]; rfl)
      | true =>
        obtain ⟨i, rfl⟩ := isInt_ex e1
        simp! [h48, sp48, spFracB]
        refine ⟨hy, ?_⟩
        have one : chOne k (last + 1) (.tuple [.int i, y]) = ((decide (last + 1 ≤ i) && decide (i ≤ k - 1)) && isPos y) := rfl
        cases e2 : isFrac y with
        | false =>
          simp! []
          refine hf ?_
          rw [chs, one]
          simp [isPos, e2]
        | true =>
          obtain ⟨r, rfl⟩ := frac_fr.mp e2
          have hr := bd_fr hy
          simp! []
          have a1 : decide (last < i) = decide (last + 1 ≤ i) := by congr 1
          have a2 : decide (i < k) = decide (i ≤ k - 1) := by
            congr 1
            apply propext
            omega
          have a3 : isPos (fr r) = !decide (r.num ≤ 0) := by
            unfold isPos
            rw [isFrac_fr, ratOf_fr]
            by_cases z : r.num ≤ 0
            · have : ¬ 0 < r.num := by omega
              simp [z, this]
            · have : 0 < r.num := by omega
              simp [z, this]
          rw [a3] at one
          rw [a1, a2]
          cases e3 : decide (last + 1 ≤ i) with
          | false =>
            simp! []
            refine hf ?_
            rw [chs, one, e3]
            rfl
          | true =>
            simp! []
            cases e4 : decide (i ≤ k - 1) with
            | false =>
              simp! []
              refine hf ?_
              rw [chs, one, e4]
              simp
            | true =>
              simp! []
              cases e5 : decide (r.num ≤ 0) with
              | true =>
                simp! []
                refine hf ?_
                rw [chs, one, e5]
                simp
              | false =>
                simp! [h34, sp34, plus_at]
                rw [e3, e4, e5] at one
                have g3 := of_decide_eq_true e3
                have g4 := of_decide_eq_true e4
                have hs := Rb.sum hpre
                have hsz : 1 + pre.length * (64 + 1) + 64 ≤ 8999 := by omega
                refine ⟨⟨_, 64, hs, hr, hsz⟩, ?_⟩
                have ap : rsum pre + r = rsum (pre ++ [r]) := by rw [rsum_append, rsum_cons, rsum_nil, Rat.add_zero]
                rw [ap]
                refine loop51 h34 h46 h47 h48 ds i (pre ++ [r]) _ (fun q hq => hb q (List.mem_cons_of_mem _ hq)) ?_ ?_ (by omega) (fun z => hf ?_) (fun z => ?_)
                · intro q hq
                  rcases List.mem_append.mp hq with h | h
                  · exact hpre q h
                  · simp at h; subst h; exact hr
                · simp; omega
                · rw [chs, one]
                  show (_ && chs k (i + 1) ds) = false
                  rw [z, Bool.and_false]
                · have := ht (by rw [chs, one]; exact z)
                  have es : second (.tuple [.int i, fr r]) = r := ratOf_fr r
                  rw [List.map_cons, es] at this
                  rw [List.append_assoc]
                  exact this
def sp51 : PSpec
  | [v, .int p, .int k], Q => (bd v = true ∧ 0 ≤ k ∧ k ≤ 100) ∧ Q (.bool (isDeed v p k))
  | _, _ => False
theorem ok51 {T : Tb} (h34 : T.f 34 = sp34) (h46 : T.f 46 = sp14) (h47 : T.f 47 = sp16) (h48 : T.f 48 = sp48) (h49 : T.f 49 = sp49) : ∀ ds Q, sp51 ds Q → bodyW T 3 false b51 ds Q := by
  intro ds Q h
  match ds, h with
  | [v, .int p, .int k], ⟨⟨hb, hk0, hk⟩, h⟩ =>
    unfold bodyW b51
    simp! [h47, sp16]
    cases e : isTup v 2 with
    | false =>
      simp! []
      rw [isDeed_not e] at h
      exact h
    | true =>
      obtain ⟨x, y, rfl⟩ := isTup2 e
      have one : isDeed (.tuple [x, y]) p k = (isChances x k && isRow y p) := rfl
      rw [one] at h
      have hb2 := (bd_tup.mp hb).2
      cases x with
      | tuple cs =>
        simp! [h49, sp49]
        refine ⟨hb2 y (by simp), ?_⟩
        have two : isChances (.tuple cs) k = (chs k 0 cs && qeq (rsum (cs.map second)) 1) := rfl
        rw [two] at h
        cases e2 : isRow y p with
        | false =>
          simp! []
          rw [e2, Bool.and_false] at h
          exact h
        | true =>
          rw [e2, Bool.and_true] at h
          simp! []
          rw [show (0 : Rat) = rsum [] from rfl]
          refine loop51 h34 h46 h47 h48 cs (-1) [] _ (bd_tup.mp (hb2 (.tuple cs) (by simp))).2 (by simp) (by simp; omega) (by omega) (fun z => ?_) fun z l u5 => ?_
          · rw [show chs k 0 cs = false from z] at h
            exact h
          · rw [show chs k 0 cs = true from z] at h
            simp! []
            exact h
      | _ => simp! []; exact h

abbrev sp52 := spHouse
theorem frac_nn {r : Rat} (h : 0 ≤ r.num) : isNN (fr r) = true := nn_fr.mpr ⟨r, rfl, Rat.num_nonneg.mp h⟩
theorem house_fr {x y z : D} (h : isFrac x = false) : isHouse (.tuple [x, y, z]) = false := house_nn (nn_not h)
theorem house_neg {r : Rat} {y z : D} (h : ¬ 0 ≤ r.num) : isHouse (.tuple [fr r, y, z]) = false := house_nn (by rw [nn_of_fr]; exact decide_eq_false fun q => h (Rat.num_nonneg.mpr q))
theorem within_not {y : D} {a b : Int} (h : isInt y = false) : within a b y = false := by cases y <;> first | rfl | cases h
theorem loop52 {T : Tb} (h51 : T.f 51 = sp51) {v s p : D} {pi : Int} {st : List D} {N : Po} (hv : v = .tuple [s, .int pi, .tuple st]) (hst : st.length ≤ 8) : ∀ (ds : List D) (u1 u2 : Option Sl), (∀ d ∈ ds, bd d = true) →
    (ds.all (fun d => isStand d pi st.length) = false → N.rt (.bool false)) → (ds.all (fun d => isStand d pi st.length) = true → ∀ u1, N.nx [some (.val v), u1, u2]) →
    forW (fG (.nm 1)) (whB T (.cons (.ifs (.or (.cons (.not (.isi .tuple (.var 1))) (.cons (.not (.chain .le .le (.int 1) (.b1 .len (.var 1)) (.int 4))) .nil))) (.cons (.ret (.bl false)) .nil) .nil) (.cons (.ifs (.not (.b1 .all (.comp [2] (.nm 2) (.seq (.var 1)) .no (.call 51 (.cons (.var 2) (.cons (.ix (.var 0) (.int 1)) (.cons (.b1 .len (.ix (.var 0) (.int 2))) .nil))))))) (.cons (.ret (.bl false)) .nil) .nil) .nil))) ds [some (.val v), u1, u2] N
  | [], u1, u2, _, _, ht => ht rfl u1
  | d :: ds, u1, u2, hb, hf, ht => by
    subst hv
    have hbd := hb d List.mem_cons_self
    show fG (.nm 1) d _ _
    have done : isStand d pi st.length = false → N.rt (.bool false) := fun z => hf (by rw [List.all_cons, z]; rfl)
    cases d with
    | tuple es =>
      simp! []
      have one : isStand (.tuple es) pi st.length = ((decide (1 ≤ (es.length : Int)) && decide ((es.length : Int) ≤ 4)) && es.all fun d => isDeed d pi st.length) := rfl
      cases e1 : decide (1 ≤ (es.length : Int)) with
      | false =>
        simp! []
        exact done (by rw [one, e1]; rfl)
      | true =>
        simp! []
        cases e2 : decide ((es.length : Int) ≤ 4) with
        | false =>
          simp! []
          exact done (by rw [one, e2]; simp)
        | true =>
          simp! []
          refine comp_mapI (fun d => .bool (isDeed d pi st.length)) (fun w hx K hK => ?_) ?_
          · simp! [h51, sp51]
            exact ⟨⟨(bd_tup.mp hbd).2 w hx, by omega, by omega⟩, hK⟩
          · rw [List.nil_append]
            refine uAllA ?_
            refine ⟨_, rfl, ?_⟩
            rw [e1, e2] at one
            cases e3 : es.all fun d => isDeed d pi st.length with
            | false =>
              simp! []
              exact done (by rw [one, e3]; rfl)
            | true =>
              simp! []
              rw [e3] at one
              refine loop52 (p := p) h51 rfl hst ds _ _ (fun q hq => hb q (List.mem_cons_of_mem _ hq)) (fun z => hf ?_) (fun z => ht ?_)
              · rw [List.all_cons, z, Bool.and_false]
              · rw [List.all_cons, one, z]; rfl
    | _ => simp! []; exact done rfl
theorem ok52 {T : Tb} (h46 : T.f 46 = sp14) (h47 : T.f 47 = sp16) (h48 : T.f 48 = sp48) (h51 : T.f 51 = sp51) : ∀ ds Q, sp52 ds Q → bodyW T 2 false b52 ds Q := by
  intro ds Q h
  match ds, h with
  | [v], ⟨hb, h⟩ =>
    unfold bodyW b52
    simp! [h46, h47, sp14, sp16]
    cases e : isTup v 3 with
    | false =>
      simp! []
      rw [isHouse_not e] at h
      exact h
    | true =>
      obtain ⟨x, y, z, rfl⟩ := isTup3 e
      have hb2 := (bd_tup.mp hb).2
      simp! [h48, sp48, spFracB]
      refine ⟨hb2 x (by simp), ?_⟩
      cases e1 : isFrac x with
      | false =>
        simp! []
        rw [house_fr e1] at h
        exact h
      | true =>
        obtain ⟨r, rfl⟩ := frac_fr.mp e1
        simp! []
        cases e2 : isInt y with
        | false =>
          simp! []
          rw [house_wi (within_not e2)] at h
          exact h
        | true =>
          obtain ⟨p, rfl⟩ := isInt_ex e2
          simp! []
          by_cases e3 : 0 ≤ r.num
          · by_cases e4 : r.num < r.den
            · simp! [e3, e4]
              cases e5 : decide (1 ≤ p) with
              | false =>
                simp! []
                rw [house_wi (by simp [within, e5])] at h
                exact h
              | true =>
                simp! []
                cases e6 : decide (p ≤ 4) with
                | false =>
                  simp! []
                  rw [house_wi (by simp [within, e6])] at h
                  exact h
                | true =>
                  simp! []
                  rw [isHouse3] at h
                  cases z with
                  | tuple st =>
                    simp! []
                    simp only [frac_nn e3, within, e5, e6, ratOf_fr, e4, decide_true, Bool.true_and] at h
                    cases e7 : decide (1 ≤ (st.length : Int)) with
                    | false =>
                      simp! []
                      rw [e7] at h
                      exact h
                    | true =>
                      simp! []
                      cases e8 : decide ((st.length : Int) ≤ 8) with
                      | false =>
                        simp! []
                        rw [e7, e8] at h
                        exact h
                      | true =>
                        simp! []
                        rw [e7, e8] at h
                        have hl := of_decide_eq_true e8
                        refine loop52 (p := .none) h51 rfl (by omega) st _ _ (bd_tup.mp (hb2 (.tuple st) (by simp))).2 (fun w => ?_) (fun w u1 => ?_)
                        · rw [w] at h; exact h
                        · rw [w] at h
                          simp! []
                          exact h
                  | _ => simp! []; exact h
            · simp! [e3, e4]
              rw [house_lt (by rw [ratOf_fr]; simpa using e4)] at h
              exact h
          · simp! [e3]
            rw [house_neg e3] at h
            exact h
end Sp

/-! S6 -/
set_option Elab.async false
set_option linter.all false
set_option maxRecDepth 100000
set_option maxHeartbeats 4000000
namespace Sp
open PySem DH Bt Rx
local macro_rules | `(tactic| dsimp! [$ls,*]) => `(tactic| simp only [wSs_nil, wSs_cons, wS_set, wS_own, wS_asg, wS_par, wS_app, wS_setIx, wS_ret, wS_ifs, wS_brk, wS_pass, wS_expr, wS_frz, wS_sprS, wS_sprD, wS_ext, wS_aug, wE_m1, wE_dget, wE_var, wE_peek, wE_glob, wE_non, wE_bl, wE_int, wE_str, wE_tup, wE_lst, wE_bin, wE_neg, wE_not, wE_and, wE_or, wE_ite, wE_cmp, wE_chain, wE_ix, wE_slc, wE_rev,
  wE_call, wE_callS, wE_callK, wE_callP, wE_spr, wE_b1, wE_b2, wE_isi, wE_dic0, wE_dic1, wL_nil, wL_cons, wA_1, wA_2, wO_1, wO_2, wP_no, wP_yes, wC_no, wC_yes, cEq, cNe, cLt, cLe, cGt, cGe, truB, truT, truL, bAdd, bSub, bMul, bDiv, bMod, uLenT, uLenL, uTupL, uInt, uAbs, vGcd, vMax, vMin,
  e0F, e0T, gV, gO, parE, isiD, List.map_cons, List.map_nil, List.replicate, List.nil_append, List.append_nil, List.cons_append, List.getElem?_cons_zero, List.getElem?_cons_succ, List.set_cons_zero, List.set_cons_succ, Option.some.injEq, Sl.val.injEq, Sl.own.injEq, exists_eq_left', exists_eq_left, PyData.bool.injEq, PyData.int.injEq, PyData.list.injEq, PyData.tuple.injEq, Bool.false_eq_true, if_false, if_true, Bool.not_true, Bool.not_false,
  ixT0, ixT1, ixT2, ixL0, ixL1, ixL2, fr_num, fr_den, frEq, fr0, fr1, decide_true, decide_false, $ls,*])
local macro_rules | `(tactic| dsimp! [$ls,*] at $h:ident) => `(tactic| simp only [wSs_nil, wSs_cons, wS_set, wS_own, wS_asg, wS_par, wS_app, wS_setIx, wS_ret, wS_ifs, wS_brk, wS_pass, wS_expr, wS_frz, wS_sprS, wS_sprD, wS_ext, wS_aug, wE_m1, wE_dget, wE_var, wE_peek, wE_glob, wE_non, wE_bl, wE_int, wE_str, wE_tup, wE_lst, wE_bin, wE_neg, wE_not, wE_and, wE_or, wE_ite, wE_cmp, wE_chain, wE_ix, wE_slc, wE_rev,
  wE_call, wE_callS, wE_callK, wE_callP, wE_spr, wE_b1, wE_b2, wE_isi, wE_dic0, wE_dic1, wL_nil, wL_cons, wA_1, wA_2, wO_1, wO_2, wP_no, wP_yes, wC_no, wC_yes, cEq, cNe, cLt, cLe, cGt, cGe, truB, truT, truL, bAdd, bSub, bMul, bDiv, bMod, uLenT, uLenL, uTupL, uInt, uAbs, vGcd, vMax, vMin,
  e0F, e0T, gV, gO, parE, isiD, List.map_cons, List.map_nil, List.replicate, List.nil_append, List.append_nil, List.cons_append, List.getElem?_cons_zero, List.getElem?_cons_succ, List.set_cons_zero, List.set_cons_succ, Option.some.injEq, Sl.val.injEq, Sl.own.injEq, exists_eq_left', exists_eq_left, PyData.bool.injEq, PyData.int.injEq, PyData.list.injEq, PyData.tuple.injEq, Bool.false_eq_true, if_false, if_true, Bool.not_true, Bool.not_false,
  ixT0, ixT1, ixT2, ixL0, ixL1, ixL2, fr_num, fr_den, frEq, fr0, fr1, decide_true, decide_false, $ls,*] at $h:ident)
local macro_rules | `(tactic| simp! [$ls,*]) => `(tactic| simp only [wSs_nil, wSs_cons, wS_set, wS_own, wS_asg, wS_par, wS_app, wS_setIx, wS_ret, wS_ifs, wS_brk, wS_pass, wS_expr, wS_frz, wS_sprS, wS_sprD, wS_ext, wS_aug, wE_m1, wE_dget, wE_var, wE_peek, wE_glob, wE_non, wE_bl, wE_int, wE_str, wE_tup, wE_lst, wE_bin, wE_neg, wE_not, wE_and, wE_or, wE_ite, wE_cmp, wE_chain, wE_ix, wE_slc, wE_rev,
  wE_call, wE_callS, wE_callK, wE_callP, wE_spr, wE_b1, wE_b2, wE_isi, wE_dic0, wE_dic1, wL_nil, wL_cons, wA_1, wA_2, wO_1, wO_2, wP_no, wP_yes, wC_no, wC_yes, cEq, cNe, cLt, cLe, cGt, cGe, truB, truT, truL, bAdd, bSub, bMul, bDiv, bMod, uLenT, uLenL, uTupL, uInt, uAbs, vGcd, vMax, vMin,
  e0F, e0T, gV, gO, parE, isiD, List.map_cons, List.map_nil, List.replicate, List.nil_append, List.append_nil, List.cons_append, List.getElem?_cons_zero, List.getElem?_cons_succ, List.set_cons_zero, List.set_cons_succ, Option.some.injEq, Sl.val.injEq, Sl.own.injEq, exists_eq_left', exists_eq_left, PyData.bool.injEq, PyData.int.injEq, PyData.list.injEq, PyData.tuple.injEq, Bool.false_eq_true, if_false, if_true, Bool.not_true, Bool.not_false,
  ixT0, ixT1, ixT2, ixL0, ixL1, ixL2, fr_num, fr_den, frEq, fr0, fr1, decide_true, decide_false, wS_fo, wS_wh, wE_comp, wE_comp2, cS_at, tslots, tslotsL, src_seq, src_rng, src_rng2, src_z2, src_z3, src_enu, itemsT, itemsL, a_nm, a_tp, a_fr, a_nil, a_cons, wipe0, wipeS, cG_at, fG_at, cB_at, cT_yes, whB_at, whC_at, $ls,*])
local macro_rules | `(tactic| simp! [$ls,*] at $h:ident) => `(tactic| simp only [wSs_nil, wSs_cons, wS_set, wS_own, wS_asg, wS_par, wS_app, wS_setIx, wS_ret, wS_ifs, wS_brk, wS_pass, wS_expr, wS_frz, wS_sprS, wS_sprD, wS_ext, wS_aug, wE_m1, wE_dget, wE_var, wE_peek, wE_glob, wE_non, wE_bl, wE_int, wE_str, wE_tup, wE_lst, wE_bin, wE_neg, wE_not, wE_and, wE_or, wE_ite, wE_cmp, wE_chain, wE_ix, wE_slc, wE_rev,
  wE_call, wE_callS, wE_callK, wE_callP, wE_spr, wE_b1, wE_b2, wE_isi, wE_dic0, wE_dic1, wL_nil, wL_cons, wA_1, wA_2, wO_1, wO_2, wP_no, wP_yes, wC_no, wC_yes, cEq, cNe, cLt, cLe, cGt, cGe, truB, truT, truL, bAdd, bSub, bMul, bDiv, bMod, uLenT, uLenL, uTupL, uInt, uAbs, vGcd, vMax, vMin,
  e0F, e0T, gV, gO, parE, isiD, List.map_cons, List.map_nil, List.replicate, List.nil_append, List.append_nil, List.cons_append, List.getElem?_cons_zero, List.getElem?_cons_succ, List.set_cons_zero, List.set_cons_succ, Option.some.injEq, Sl.val.injEq, Sl.own.injEq, exists_eq_left', exists_eq_left, PyData.bool.injEq, PyData.int.injEq, PyData.list.injEq, PyData.tuple.injEq, Bool.false_eq_true, if_false, if_true, Bool.not_true, Bool.not_false,
  ixT0, ixT1, ixT2, ixL0, ixL1, ixL2, fr_num, fr_den, frEq, fr0, fr1, decide_true, decide_false, wS_fo, wS_wh, wE_comp, wE_comp2, cS_at, tslots, tslotsL, src_seq, src_rng, src_rng2, src_z2, src_z3, src_enu, itemsT, itemsL, a_nm, a_tp, a_fr, a_nil, a_cons, wipe0, wipeS, cG_at, fG_at, cB_at, cT_yes, whB_at, whC_at, $ls,*] at $h:ident)
/-! ### draws -/
def spPick : PSpec
  | [.int m], Q => (0 < m ∧ m < 2 ^ 30) ∧ ∀ r : Int, 0 ≤ r → r < m → Q (.int r)
  | _, _ => False
abbrev sp1 := spPick
theorem cmulL {i j : Int} (h1 : -(2 ^ 64) < i) (h2 : i < 2 ^ 64) : L2.CMul i j ∨ L2.CMulW i j := .inl (.inl ⟨h1, h2⟩)
theorem cmulR {i j : Int} (h1 : -(2 ^ 64) < j) (h2 : j < 2 ^ 64) : L2.CMul i j ∨ L2.CMulW i j := .inl (.inr ⟨h1, h2⟩)
theorem fmod_in {a m : Int} (h : 0 < m) : 0 ≤ a.fmod m ∧ a.fmod m < m := ⟨Int.fmod_nonneg_of_pos _ h, Int.fmod_lt_of_pos _ h⟩
theorem ok1 {T : Tb} : ∀ ds Q, sp1 ds Q → bodyW T 2 true b1 ds Q := by
  intro ds Q h
  match ds, h with
  | [.int m], ⟨⟨hm, hm2⟩, h⟩ =>
    unfold bodyW b1
    simp! []
    intro n hn
    cases e : decide (0 < n) with
    | true =>
      simp! []
      exact ⟨⟨hm, hm2⟩, h⟩
    | false =>
      simp! []
      intro n2 h2 
      simp only [sprI] at h2
      refine ⟨by simp only [sprI]; omega, fun n3 h3 => ⟨cmulR (by omega) (by omega), fun n4 h4 => ⟨cmulL (by omega) (by omega), by omega, ?_⟩⟩⟩
      have q1 := fmod_in (a := n3 * 40692 + 15013 * n4) (m := 2147483579) (by omega)
      generalize (n3 * 40692 + 15013 * n4).fmod 2147483579 = q at *
      refine ⟨by omega, cmulL (by omega) (by omega), fun n5 h5 => ⟨by omega, ?_, fun n6 h6 => ⟨⟨by omega, by decide⟩, by omega, ?_⟩⟩⟩
      · have q2 := fmod_in (a := q * (q.fmod 6007 + 20011) + n5) (m := 2147483579) (by omega)
        exact q2
      · have q3 := fmod_in (a := n6.fdiv 1013) hm
        exact h _ q3.1 q3.2

theorem pick_at {m : Int} {Q : D → Prop} : spPick [.int m] Q = ((0 < m ∧ m < 2 ^ 30) ∧ ∀ r : Int, 0 ≤ r → r < m → Q (.int r)) := rfl
theorem pick_of {m : Int} {Q : D → Prop} (h0 : 0 < m) (h1 : m < 2 ^ 30) (h : ∀ r : Int, 0 ≤ r → r < m → Q (.int r)) : spPick [.int m] Q := ⟨⟨h0, h1⟩, h⟩
theorem ixA {A : D} {ds : List D} {k : Nat} {d : D} {Q : D → Prop} (hA : itemsOf A = some ds) (h : ds[k]? = some d) : ixW A (.int (k : Nat)) Q = Q d := by
  cases A <;> simp [itemsOf] at hA <;> subst hA
  · exact ixL h
  · exact ixT h
/-- at an index within: one of the elements -/
theorem ixMem {A : D} {ds : List D} {i : Int} {Q : D → Prop} (hA : itemsOf A = some ds) (h0 : 0 ≤ i) (h1 : i < ds.length) (h : ∀ d ∈ ds, Q d) : ixW A (.int i) Q := by
  obtain ⟨k, rfl⟩ := Int.eq_ofNat_of_zero_le h0
  have hk : k < ds.length := by omega
  show ixW A (.int (k : Nat)) Q
  rw [ixA hA (List.getElem?_eq_getElem hk)]
  exact h _ (List.getElem_mem hk)
def spAny : PSpec := fun ds Q => ∃ A es, ds = [A] ∧ itemsOf A = some es ∧ es ≠ [] ∧ es.length < 2 ^ 30 ∧ ∀ d ∈ es, Q d
abbrev sp2 := spAny
theorem ok2 {T : Tb} (h1 : T.f 1 = sp1) : ∀ ds Q, sp2 ds Q → bodyW T 0 true b2 ds Q := by
  rintro ds Q ⟨A, es, rfl, hA, h0, hl, h⟩
  unfold bodyW b2
  simp! [len_items hA, h1, sp1]
  have : 0 < es.length := List.length_pos_iff.mpr h0
  exact pick_of (by omega) (by omega) fun r r0 r1 => ixMem hA r0 r1 h
theorem lit_fr {a : Int} {b : Nat} (h0 : b ≠ 0) (h : Nat.gcd a.natAbs b = 1) : PyData.tuple [.int a, .int (b : Int)] = fr ⟨a, b, h0, h⟩ := rfl
def spPart : PSpec := fun ds Q => ds = [] ∧ ∀ r : Rat, 0 ≤ r → r < 1 → Rb 7 r → Q (fr r)
abbrev sp38 := spPart
theorem small_frac {a b : Int} (ha : 0 ≤ a) (hab : a < b) (hb : b < 2 ^ 7) : 0 ≤ Rat.divInt a b ∧ Rat.divInt a b < 1 ∧ Rb 7 (Rat.divInt a b) := by
  refine ⟨Rat.divInt_nonneg ha (by omega), ?_, Rb.divInt (by omega) (by omega) (by decide)⟩
  rw [Rat.divInt_eq_div, Rat.div_lt_iff (by exact_mod_cast (by omega : (0 : Int) < b)), Rat.one_mul]
  exact_mod_cast hab
theorem ok38 {T : Tb} (h1 : T.f 1 = sp1) (h33 : T.f 33 = sp33) : ∀ ds Q, sp38 ds Q → bodyW T 2 true b38 ds Q := by
  rintro ds Q ⟨rfl, h⟩
  unfold bodyW b38
  simp! [h1, sp1]
  refine pick_of (by decide) (by decide) fun r r0 r1 => ?_
  simp! []
  by_cases e : r < 7
  · simp! [e]
    refine ixMem rfl r0 e ?_
    intro d hd
    have lit : ∀ (a b : Int), 0 ≤ a → a < b → b < 2 ^ 7 → Nat.gcd a.natAbs b.natAbs = 1 → Q (.tuple [.int a, .int b]) := fun a b ha hab hb hg => by
      obtain ⟨c1, c2, c3⟩ := small_frac ha hab hb
      have := h _ c1 c2 c3
      have e2 : fr (Rat.divInt a b) = .tuple [.int a, .int b] := by
        unfold fr
        obtain ⟨p1, p2⟩ := div_parts (a := a) (b := b) (by omega)
        rw [p1, p2, hg]
        simp
      rw [e2] at this
      exact this
    simp only [List.mem_cons, List.not_mem_nil, or_false] at hd
    rcases hd with rfl | rfl | rfl | rfl | rfl | rfl | rfl
    · exact lit 1 2 (by decide) (by decide) (by decide) rfl
    · exact lit 1 2 (by decide) (by decide) (by decide) rfl
    · exact lit 1 3 (by decide) (by decide) (by decide) rfl
    · exact lit 2 3 (by decide) (by decide) (by decide) rfl
    · exact lit 3 4 (by decide) (by decide) (by decide) rfl
    · exact lit 1 4 (by decide) (by decide) (by decide) rfl
    · exact lit 0 1 (by decide) (by decide) (by decide) rfl
  · simp! [e]
    refine pick_of (by decide) (by decide) fun u u0 u1 => ?_
    simp! [h33, sp33]
    refine pick_of (by omega) (by omega) fun t t0 t1 => ?_
    refine ⟨⟨by omega, logOk (n := 7) (by omega) (by decide) (by decide)⟩, ?_⟩
    obtain ⟨c1, c2, c3⟩ := small_frac t0 t1 (by omega)
    exact h _ c1 c2 c3
/-! ### gains -/
theorem rng_map (n : Nat) : rngD 0 n = (List.range n).map fun k => .int (k : Int) := by
  unfold rngD
  congr 1
  funext k
  rw [Int.zero_add]
def spGains : PSpec := fun ds Q => ∃ k : Nat, ds = [.int k] ∧ k ≤ 10 ∧ ∀ rs : List Rat, rs.length = k → (∀ r ∈ rs, Rb 24 r) → Q (.tuple (rs.map fr))
abbrev sp39 := spGains
theorem ok39 {T : Tb} (h1 : T.f 1 = sp1) (h2 : T.f 2 = sp2) (h33 : T.f 33 = sp33) : ∀ ds Q, sp39 ds Q → bodyW T 2 true b39 ds Q := by
  rintro ds Q ⟨k, rfl, hk, h⟩
  unfold bodyW b39
  simp! [h1, h2, h33, sp1, sp33]
  refine ⟨by omega, by omega, ?_⟩
  rw [Int.toNat_natCast, rng_map]
  refine for_inv (fun i : Nat => .int (i : Int)) (List.range k) (fun pre ρ => ∃ rs u, ρ = [none, some (.val (.int k)), some (.own (rs.map fr)), u] ∧ rs.length = pre.length ∧ ∀ r ∈ rs, Rb 24 r) ⟨[], _, rfl, rfl, by simp⟩ ?_ ?_
  · rintro pre x post he ρ ⟨rs, u, rfl, hl, hr⟩ N' _ _ kk _
    have hpl : pre.length < k := by
      have := congrArg List.length he
      simp at this
      omega
    have go : ∀ a b : Int, a.natAbs < 2 ^ 24 → 0 < b → b < 2 ^ 24 → ((b ≠ 0 ∧ b.natAbs.log2 < 9000) ∧ N'.nx [none, some (.val (.int k)), some (.own (rs.map fr ++ [fr (Rat.divInt a b)])), some (.val (.int x))]) := fun a b ha hb hb2 => by
      refine ⟨⟨by omega, logOk (n := 24) (by omega) (by decide) (by decide)⟩, kk _ ⟨rs ++ [Rat.divInt a b], _, by rw [List.map_append]; rfl, by simp [hl], ?_⟩⟩
      intro r hr2
      rcases List.mem_append.mp hr2 with q | q
      · exact hr r q
      · simp at q
        subst q
        exact Rb.divInt ha (by omega) (by decide)
    simp! [h1, h2, h33, sp1, sp33]
    refine pick_of (by decide) (by decide) fun t t0 t1 => ?_
    simp! []
    cases e : decide (t = 13) with
    | true =>
      simp! []
      refine ⟨by rw [List.length_map]; omega, pick_of (by decide) (by decide) fun a a0 a1 => ?_⟩
      simp! []
      refine pick_of (by decide) (by decide) fun b b0 b1 => ?_
      simp! [spRat]
      exact go _ _ (by omega) (by omega) (by omega)
    | false =>
      simp! []
      refine ⟨by rw [List.length_map]; omega, pick_of (by decide) (by decide) fun a a0 a1 => ?_⟩
      simp! []
      refine ⟨_, _, rfl, rfl, by simp, by simp, ?_⟩
      intro d hd
      have : ∃ b : Int, d = .int b ∧ 0 < b ∧ b < 4 := by
        simp only [List.mem_cons, List.not_mem_nil, or_false] at hd
        rcases hd with rfl | rfl | rfl | rfl | rfl
        all_goals exact ⟨_, rfl, by decide, by decide⟩
      obtain ⟨b, rfl, b0, b1⟩ := this
      exact go _ _ (by omega) (by omega) (by omega)
  · rintro ρ ⟨rs, u, rfl, hl, hr⟩
    simp! []
    exact h rs (by simpa using hl) hr
/-! ### parts -/
theorem uSum {ns : List Int} {Q : D → Prop} : b1W .sum (.list (ns.map PyData.int)) Q = Q (.int ns.sum) := by
  apply propext
  constructor
  · rintro ⟨ms, e, q⟩
    have := (List.map_inj_right (fun _ _ h => PyData.int.inj h)).mp e
    rw [this]
    exact q
  · intro q
    exact ⟨ns, rfl, q⟩
theorem sum_nonneg : ∀ {ns : List Int}, (∀ n ∈ ns, 0 ≤ n) → 0 ≤ ns.sum
  | [], _ => by simp
  | n :: ns, h => by
    rw [List.sum_cons]
    have h1 := h n List.mem_cons_self
    have h2 := sum_nonneg (ns := ns) fun m hm => h m (List.mem_cons_of_mem _ hm)
    omega
theorem sum_set : ∀ {ns : List Int} {j : Nat}, j < ns.length → (∀ n ∈ ns, 0 ≤ n) → 0 < (ns.set j 1).sum
  | n :: ns, 0, _, h => by
    rw [List.set_cons_zero, List.sum_cons]
    have := sum_nonneg (ns := ns) fun m hm => h m (List.mem_cons_of_mem _ hm)
    omega
  | n :: ns, j + 1, hj, h => by
    rw [List.set_cons_succ, List.sum_cons]
    have h1 := h n List.mem_cons_self
    have h2 := sum_set (ns := ns) (j := j) (by simpa using hj) fun m hm => h m (List.mem_cons_of_mem _ hm)
    omega
theorem sum_le {b : Int} : ∀ {ns : List Int}, (∀ n ∈ ns, n ≤ b) → ns.sum ≤ ns.length * b
  | [], _ => by simp
  | n :: ns, h => by
    rw [List.sum_cons, List.length_cons]
    have h1 := h n List.mem_cons_self
    have h2 := sum_le (ns := ns) fun m hm => h m (List.mem_cons_of_mem _ hm)
    have : ((ns.length + 1 : Nat) : Int) * b = ns.length * b + b := by rw [Int.natCast_add, Int.add_mul]; simp
    omega
def spParts : PSpec := fun ds Q => ∃ k : Nat, ds = [.int k] ∧ 0 < k ∧ k ≤ 20 ∧ ∀ ns : List Int, ns.length = k → (∀ n ∈ ns, 0 ≤ n ∧ n < 44) → 0 < ns.sum → Q (.list (ns.map .int))
abbrev sp40 := spParts
theorem ok40 {T : Tb} (h1 : T.f 1 = sp1) : ∀ ds Q, sp40 ds Q → bodyW T 3 true b40 ds Q := by
  rintro ds Q ⟨k, rfl, hk0, hk, h⟩
  unfold bodyW b40
  simp! [h1, sp1]
  refine ⟨by omega, by omega, ?_⟩
  rw [Int.toNat_natCast, rng_map]
  refine for_inv (fun i : Nat => .int (i : Int)) (List.range k) (fun pre ρ => ∃ (ns : List Int) (u v : Option Sl), ρ = [none, some (.val (.int k)), some (.own (ns.map .int)), u, v] ∧ ns.length = pre.length ∧ ∀ n ∈ ns, 0 ≤ n ∧ n < 44) ⟨[], _, _, rfl, rfl, by simp⟩ ?_ ?_
  · rintro pre x post he ρ ⟨ns, u, v, rfl, hl, hr⟩ N' _ _ kk _
    have hpl : pre.length < k := by
      have := congrArg List.length he
      simp at this
      omega
    simp! [h1, sp1]
    refine pick_of (by decide) (by decide) fun t t0 t1 => ?_
    have go : ∀ a : Int, 0 ≤ a → a < 44 → N'.nx [none, some (.val (.int k)), some (.own (ns.map .int ++ [.int a])), some (.val (.int x)), some (.val (.int t))] := fun a a0 a1 => by
      refine kk _ ⟨ns ++ [a], _, _, by rw [List.map_append]; rfl, by simp [hl], ?_⟩
      intro r hr2
      rcases List.mem_append.mp hr2 with q | q
      · exact hr r q
      · simp at q
        subst q
        exact ⟨a0, a1⟩
    simp! []
    refine ⟨by rw [List.length_map]; omega, ?_⟩
    by_cases e : t < 12
    · simp! [e]
      refine ixMem rfl t0 (by simpa using e) ?_
      intro d hd
      have : ∃ b : Int, d = .int b ∧ 0 ≤ b ∧ b < 4 := by
        simp only [List.mem_cons, List.not_mem_nil, or_false] at hd
        rcases hd with rfl | rfl | rfl | rfl | rfl | rfl | rfl | rfl | rfl | rfl | rfl | rfl
        all_goals exact ⟨_, rfl, by decide, by decide⟩
      obtain ⟨b, rfl, b0, b1⟩ := this
      exact go _ b0 (by omega)
    · simp! [e]
      refine pick_of (by decide) (by decide) fun b b0 b1 => ?_
      simp! []
      exact go _ (by omega) (by omega)
  · rintro ρ ⟨ns, u, v, rfl, hl, hr⟩
    rw [List.length_range] at hl
    simp! [uSum]
    by_cases e : ns.sum = 0
    · simp! [e]
      refine pick_of (by omega) (by omega) fun r r0 r1 => ?_
      obtain ⟨j, rfl⟩ := Int.eq_ofNat_of_zero_le r0
      have hj : j < ns.length := by have : Int.ofNat j = ((j : Nat) : Int) := rfl; omega
      refine ⟨(j : Int), j, rfl, ?_, ?_⟩
      · unfold L2.ixN
        rw [List.length_map]
        have : (j : Int) < ns.length := by omega
        simp [this]
      · rw [← List.map_set]
        refine h (ns.set j 1) (by simpa using hl) ?_ (sum_set hj fun n hn => (hr n hn).1)
        intro n hn
        rcases List.mem_or_eq_of_mem_set hn with q | q
        · exact hr n q
        · subst q; decide
    · simp! [e]
      exact h ns hl hr (by have := sum_nonneg fun n hn => (hr n hn).1; omega)
end Sp

/-! S7 -/
set_option Elab.async false
set_option linter.all false
set_option maxRecDepth 100000
set_option maxHeartbeats 4000000
namespace Sp
open PySem DH Bt Rx
local macro_rules | `(tactic| dsimp! [$ls,*]) => `(tactic| simp only [wSs_nil, wSs_cons, wS_set, wS_own, wS_asg, wS_par, wS_app, wS_setIx, wS_ret, wS_ifs, wS_brk, wS_pass, wS_expr, wS_frz, wS_sprS, wS_sprD, wS_ext, wS_aug, wE_m1, wE_dget, wE_var, wE_peek, wE_glob, wE_non, wE_bl, wE_int, wE_str, wE_tup, wE_lst, wE_bin, wE_neg, wE_not, wE_and, wE_or, wE_ite, wE_cmp, wE_chain, wE_ix, wE_slc, wE_rev,
  wE_call, wE_callS, wE_callK, wE_callP, wE_spr, wE_b1, wE_b2, wE_isi, wE_dic0, wE_dic1, wL_nil, wL_cons, wA_1, wA_2, wO_1, wO_2, wP_no, wP_yes, wC_no, wC_yes, cEq, cNe, cLt, cLe, cGt, cGe, truB, truT, truL, bAdd, bSub, bMul, bDiv, bMod, uLenT, uLenL, uTupL, uInt, uAbs, vGcd, vMax, vMin,
  e0F, e0T, gV, gO, parE, isiD, List.map_cons, List.map_nil, List.replicate, List.nil_append, List.append_nil, List.cons_append, List.getElem?_cons_zero, List.getElem?_cons_succ, List.set_cons_zero, List.set_cons_succ, Option.some.injEq, Sl.val.injEq, Sl.own.injEq, exists_eq_left', exists_eq_left, PyData.bool.injEq, PyData.int.injEq, PyData.list.injEq, PyData.tuple.injEq, Bool.false_eq_true, if_false, if_true, Bool.not_true, Bool.not_false,
  ixT0, ixT1, ixT2, ixL0, ixL1, ixL2, fr_num, fr_den, frEq, fr0, fr1, decide_true, decide_false, $ls,*])
local macro_rules | `(tactic| dsimp! [$ls,*] at $h:ident) => `(tactic| simp only [wSs_nil, wSs_cons, wS_set, wS_own, wS_asg, wS_par, wS_app, wS_setIx, wS_ret, wS_ifs, wS_brk, wS_pass, wS_expr, wS_frz, wS_sprS, wS_sprD, wS_ext, wS_aug, wE_m1, wE_dget, wE_var, wE_peek, wE_glob, wE_non, wE_bl, wE_int, wE_str, wE_tup, wE_lst, wE_bin, wE_neg, wE_not, wE_and, wE_or, wE_ite, wE_cmp, wE_chain, wE_ix, wE_slc, wE_rev,
  wE_call, wE_callS, wE_callK, wE_callP, wE_spr, wE_b1, wE_b2, wE_isi, wE_dic0, wE_dic1, wL_nil, wL_cons, wA_1, wA_2, wO_1, wO_2, wP_no, wP_yes, wC_no, wC_yes, cEq, cNe, cLt, cLe, cGt, cGe, truB, truT, truL, bAdd, bSub, bMul, bDiv, bMod, uLenT, uLenL, uTupL, uInt, uAbs, vGcd, vMax, vMin,
  e0F, e0T, gV, gO, parE, isiD, List.map_cons, List.map_nil, List.replicate, List.nil_append, List.append_nil, List.cons_append, List.getElem?_cons_zero, List.getElem?_cons_succ, List.set_cons_zero, List.set_cons_succ, Option.some.injEq, Sl.val.injEq, Sl.own.injEq, exists_eq_left', exists_eq_left, PyData.bool.injEq, PyData.int.injEq, PyData.list.injEq, PyData.tuple.injEq, Bool.false_eq_true, if_false, if_true, Bool.not_true, Bool.not_false,
  ixT0, ixT1, ixT2, ixL0, ixL1, ixL2, fr_num, fr_den, frEq, fr0, fr1, decide_true, decide_false, $ls,*] at $h:ident)
local macro_rules | `(tactic| simp! [$ls,*]) => `(tactic| simp only [wSs_nil, wSs_cons, wS_set, wS_own, wS_asg, wS_par, wS_app, wS_setIx, wS_ret, wS_ifs, wS_brk, wS_pass, wS_expr, wS_frz, wS_sprS, wS_sprD, wS_ext, wS_aug, wE_m1, wE_dget, wE_var, wE_peek, wE_glob, wE_non, wE_bl, wE_int, wE_str, wE_tup, wE_lst, wE_bin, wE_neg, wE_not, wE_and, wE_or, wE_ite, wE_cmp, wE_chain, wE_ix, wE_slc, wE_rev,
  wE_call, wE_callS, wE_callK, wE_callP, wE_spr, wE_b1, wE_b2, wE_isi, wE_dic0, wE_dic1, wL_nil, wL_cons, wA_1, wA_2, wO_1, wO_2, wP_no, wP_yes, wC_no, wC_yes, cEq, cNe, cLt, cLe, cGt, cGe, truB, truT, truL, bAdd, bSub, bMul, bDiv, bMod, uLenT, uLenL, uTupL, uInt, uAbs, vGcd, vMax, vMin,
  e0F, e0T, gV, gO, parE, isiD, List.map_cons, List.map_nil, List.replicate, List.nil_append, List.append_nil, List.cons_append, List.getElem?_cons_zero, List.getElem?_cons_succ, List.set_cons_zero, List.set_cons_succ, Option.some.injEq, Sl.val.injEq, Sl.own.injEq, exists_eq_left', exists_eq_left, PyData.bool.injEq, PyData.int.injEq, PyData.list.injEq, PyData.tuple.injEq, Bool.false_eq_true, if_false, if_true, Bool.not_true, Bool.not_false,
  ixT0, ixT1, ixT2, ixL0, ixL1, ixL2, fr_num, fr_den, frEq, fr0, fr1, decide_true, decide_false, wS_fo, wS_wh, wE_comp, wE_comp2, cS_at, tslots, tslotsL, src_seq, src_rng, src_rng2, src_z2, src_z3, src_enu, itemsT, itemsL, a_nm, a_tp, a_fr, a_nil, a_cons, wipe0, wipeS, cG_at, fG_at, cB_at, cT_yes, whB_at, whC_at, $ls,*])
local macro_rules | `(tactic| simp! [$ls,*] at $h:ident) => `(tactic| simp only [wSs_nil, wSs_cons, wS_set, wS_own, wS_asg, wS_par, wS_app, wS_setIx, wS_ret, wS_ifs, wS_brk, wS_pass, wS_expr, wS_frz, wS_sprS, wS_sprD, wS_ext, wS_aug, wE_m1, wE_dget, wE_var, wE_peek, wE_glob, wE_non, wE_bl, wE_int, wE_str, wE_tup, wE_lst, wE_bin, wE_neg, wE_not, wE_and, wE_or, wE_ite, wE_cmp, wE_chain, wE_ix, wE_slc, wE_rev,
  wE_call, wE_callS, wE_callK, wE_callP, wE_spr, wE_b1, wE_b2, wE_isi, wE_dic0, wE_dic1, wL_nil, wL_cons, wA_1, wA_2, wO_1, wO_2, wP_no, wP_yes, wC_no, wC_yes, cEq, cNe, cLt, cLe, cGt, cGe, truB, truT, truL, bAdd, bSub, bMul, bDiv, bMod, uLenT, uLenL, uTupL, uInt, uAbs, vGcd, vMax, vMin,
  e0F, e0T, gV, gO, parE, isiD, List.map_cons, List.map_nil, List.replicate, List.nil_append, List.append_nil, List.cons_append, List.getElem?_cons_zero, List.getElem?_cons_succ, List.set_cons_zero, List.set_cons_succ, Option.some.injEq, Sl.val.injEq, Sl.own.injEq, exists_eq_left', exists_eq_left, PyData.bool.injEq, PyData.int.injEq, PyData.list.injEq, PyData.tuple.injEq, Bool.false_eq_true, if_false, if_true, Bool.not_true, Bool.not_false,
  ixT0, ixT1, ixT2, ixL0, ixL1, ixL2, fr_num, fr_den, frEq, fr0, fr1, decide_true, decide_false, wS_fo, wS_wh, wE_comp, wE_comp2, cS_at, tslots, tslotsL, src_seq, src_rng, src_rng2, src_z2, src_z3, src_enu, itemsT, itemsL, a_nm, a_tp, a_fr, a_nil, a_cons, wipe0, wipeS, cG_at, fG_at, cB_at, cT_yes, whB_at, whC_at, $ls,*] at $h:ident)
/-! ### signs of texts -/
def Sok (s : Str) : Prop := ∀ c ∈ s.cps.toList, c < 0x110000
theorem sok_app {a b : Str} (h : Sok a) (k : Sok b) : Sok (a ++ b) := fun c hc => by
  rcases PyProof.Rows.mem_cps_append.mp hc with q | q
  · exact h c q
  · exact k c q
theorem sok_str (s : String) : Sok (Str.ofString s) := fun c hc => by
  rw [PyProof.Rows.signs_ofString] at hc
  obtain ⟨ch, _, rfl⟩ := List.mem_map.mp hc
  have h := ch.valid
  simp only [UInt32.isValidChar, Nat.isValidChar] at h
  show ch.val.toNat < 0x110000
  omega
theorem sok_strOk {s : Str} (h : Sok s) : PyData.strOk s = true := by
  unfold PyData.strOk
  rw [Array.all_eq_true_iff_forall_mem]
  intro c hc
  exact decide_eq_true (h c (Array.mem_toList_iff.mpr hc))
theorem sok_textFrom : ∀ (ts : List Str) (k : Nat) (acc : Str), (∀ t ∈ ts, Sok t) → Sok acc → Sok (textFrom k acc ts)
  | [], _, _, _, ha => ha
  | t :: r, k, acc, h, ha => by
    show Sok (textFrom (k + 1) (acc ++ (if k > 0 then ", " else "" : String) ++ t) r)
    exact sok_textFrom r _ _ (fun x hx => h x (List.mem_cons_of_mem _ hx)) (sok_app (sok_app ha (sok_str _)) (h t List.mem_cons_self))
theorem sok_join : ∀ ts : List Str, (∀ t ∈ ts, Sok t) → Sok (Str.join ", " ts)
  | [], _ => fun c hc => by cases hc
  | [x], h => h x List.mem_cons_self
  | x :: y :: r, h => sok_app (sok_app (h x List.mem_cons_self) (sok_str _)) (sok_join (y :: r) fun t ht => h t (List.mem_cons_of_mem _ ht))
theorem sok_list {ts : List Str} (h : ∀ t ∈ ts, Sok t) : Sok (listText ts) := sok_app (sok_textFrom ts 0 _ h (sok_str _)) (sok_str _)
theorem sok_tuple {ts : List Str} (h : ∀ t ∈ ts, Sok t) : Sok (tupleText ts) := by
  unfold tupleText
  exact sok_app (sok_app (sok_str _) (sok_join ts h)) (sok_str _)
/-! ### lengths of texts -/
theorem len_join {w : Nat} : ∀ ts : List Str, (∀ t ∈ ts, t.length ≤ w) → (Str.join ", " ts).length ≤ ts.length * (w + 2)
  | [], _ => by show 0 ≤ _; omega
  | [x], h => by
    have := h x List.mem_cons_self
    show x.length ≤ _
    simp only [List.length_singleton]
    omega
  | x :: y :: r, h => by
    have h1 := h x List.mem_cons_self
    have h2 := len_join (y :: r) fun t ht => h t (List.mem_cons_of_mem _ ht)
    have e : (Str.join ", " (x :: y :: r)).length = (x ++ (", " : Str) ++ Str.join ", " (y :: r)).length := rfl
    rw [e, Str.length_append, Str.length_append, List.length_cons, Nat.add_mul]
    have e2 : (Str.ofString ", ").length = 2 := by decide
    omega
theorem len_tuple {w : Nat} {ts : List Str} (h : ∀ t ∈ ts, t.length ≤ w) : (tupleText ts).length ≤ ts.length * (w + 2) + 3 := by
  unfold tupleText
  rw [Str.length_append, Str.length_append]
  have h1 := len_join ts h
  have e1 : (Str.ofString "(").length = 1 := by decide
  have e2 : (Str.ofString (if ts.length == 1 then ",)" else ")")).length ≤ 2 := by
    split
    · exact Nat.le_of_eq (by decide)
    · exact Nat.le_trans (Nat.le_of_eq (by decide : (Str.ofString ")").length = 1)) (by decide)
  omega
theorem sum_len {w : Nat} : ∀ ts : List Str, (∀ t ∈ ts, t.length ≤ w) → (ts.map (·.length)).sum ≤ ts.length * w
  | [], _ => by simp
  | t :: ts, h => by
    have h1 := h t List.mem_cons_self
    have h2 := sum_len ts fun t ht => h t (List.mem_cons_of_mem _ ht)
    rw [List.map_cons, List.sum_cons, List.length_cons, Nat.add_mul]
    omega
theorem len_list {w : Nat} {ts : List Str} (h : ∀ t ∈ ts, t.length ≤ w) : (listText ts).length ≤ ts.length * (w + 2) + 3 := by
  unfold listText
  rw [Str.length_append]
  have h1 := textFrom_len_le ts 0 "["
  have h2 := sum_len ts h
  have e1 : (Str.ofString "[").length = 1 := by decide
  have e2 : (Str.ofString "]").length = 1 := by decide
  rw [Nat.mul_add]
  omega
/-! ### plain values: numbers of fewer than 1900 bits, truths, None, rows of these -/
structure Nc (n w : Nat) (d : D) : Prop where
  lay : d.canLay0 = true
  dep : d.depth ≤ n
  sh : d.showable = true
  ln : d.shown.length ≤ w
  so : Sok d.shown
theorem Nc.mono {n m v w : Nat} {d : D} (h : Nc n v d) (h1 : n ≤ m) (h2 : v ≤ w) : Nc m w d := ⟨h.lay, Nat.le_trans h.dep h1, h.sh, Nat.le_trans h.ln h2, h.so⟩
theorem Nc.int {b : Nat} {i : Int} (h : i.natAbs < 2 ^ b) (hb : 0 < b) (hb2 : b ≤ 1900) : Nc 0 (b + 1) (.int i) where
  lay := by simp [PyData.canLay0]
  dep := by simp [PyData.depth]
  sh := by
    have h1 := PySem.Flt.log2_lt_of hb h
    simp only [PyData.showable, decide_eq_true_eq]
    omega
  ln := by
    have h1 := PySem.Flt.log2_lt_of hb h
    have h2 := PySem.int_text_length_le hb h1
    show (Str.ofString (toString i)).length ≤ b + 1
    have e : (Str.ofString (toString i)).length = (toString i).length := by
      rw [Str.ofString_eq_toList]
      show (List.toArray _).size = _
      rw [List.size_toArray, List.length_map, String.length_toList]
    omega
  so := sok_str _
theorem Nc.bl (b : Bool) : Nc 0 5 (.bool b) where
  lay := by simp [PyData.canLay0]
  dep := by simp [PyData.depth]
  sh := by simp [PyData.showable]
  ln := by
    simp only [PyData.shown]
    cases b <;> decide
  so := by
    simp only [PyData.shown]
    cases b <;> exact sok_str _
theorem Nc.non : Nc 0 5 .none where
  lay := by simp [PyData.canLay0]
  dep := by simp [PyData.depth]
  sh := by simp [PyData.showable]
  ln := by
    simp only [PyData.shown]
    decide
  so := by
    simp only [PyData.shown]
    exact sok_str _
structure NcL (n w : Nat) (ds : List D) : Prop where
  lay : PyData.canLayAll0 ds = true
  dep : PyData.depthAll ds ≤ n
  sh : PyData.showableAll ds = true
  ln : (PyData.shownAll ds).length = ds.length
  so : ∀ t ∈ PyData.shownAll ds, Sok t ∧ t.length ≤ w
theorem NcL.of {n w : Nat} : ∀ {ds : List D}, (∀ d ∈ ds, Nc n w d) → NcL n w ds
  | [], _ => ⟨by simp [PyData.canLayAll0], by simp [PyData.depthAll], by simp [PyData.showableAll], by simp [PyData.shownAll], by simp [PyData.shownAll]⟩
  | d :: ds, h => by
    have a := h d List.mem_cons_self
    have b := NcL.of (ds := ds) fun x hx => h x (List.mem_cons_of_mem _ hx)
    refine ⟨?_, ?_, ?_, ?_, ?_⟩
    · simp only [PyData.canLayAll0, a.lay, b.lay, Bool.and_self]
    · simp only [PyData.depthAll]
      have := a.dep
      have := b.dep
      omega
    · simp only [PyData.showableAll, a.sh, b.sh, Bool.and_self]
    · simp only [PyData.shownAll, List.length_cons, b.ln]
    · intro t ht
      simp only [PyData.shownAll, List.mem_cons] at ht
      rcases ht with rfl | ht
      · exact ⟨a.so, a.ln⟩
      · exact b.so t ht
theorem Nc.tup {n w : Nat} {ds : List D} (h : ∀ d ∈ ds, Nc n w d) : Nc (n + 1) (ds.length * (w + 2) + 3) (.tuple ds) := by
  have a := NcL.of h
  refine ⟨?_, ?_, ?_, ?_, ?_⟩
  · simpa only [PyData.canLay0] using a.lay
  · simp only [PyData.depth]; have := a.dep; omega
  · simpa only [PyData.showable] using a.sh
  · simp only [PyData.shown]
    have := len_tuple fun t ht => (a.so t ht).2
    rw [a.ln] at this
    exact this
  · simp only [PyData.shown]
    exact sok_tuple fun t ht => (a.so t ht).1
theorem Nc.lst {n w : Nat} {ds : List D} (h : ∀ d ∈ ds, Nc n w d) : Nc (n + 1) (ds.length * (w + 2) + 3) (.list ds) := by
  have a := NcL.of h
  refine ⟨?_, ?_, ?_, ?_, ?_⟩
  · simpa only [PyData.canLay0] using a.lay
  · simp only [PyData.depth]; have := a.dep; omega
  · simpa only [PyData.showable] using a.sh
  · simp only [PyData.shown]
    have := len_list fun t ht => (a.so t ht).2
    rw [a.ln] at this
    exact this
  · simp only [PyData.shown]
    exact sok_list fun t ht => (a.so t ht).1
theorem Nc.fr {b : Nat} {r : Rat} (h : Rb b r) (hb2 : b ≤ 1900) : Nc 1 (2 * b + 9) (fr r) := by
  unfold Sp.fr
  refine (Nc.tup (n := 0) (w := b + 1) (ds := [.int r.num, .int (r.den : Int)]) fun d hd => ?_).mono (by omega) (by simp only [List.length_cons, List.length_nil]; omega)
  simp only [List.mem_cons, List.not_mem_nil, or_false] at hd
  rcases hd with rfl | rfl
  · exact Nc.int h.1 h.pos hb2
  · exact Nc.int (den_lt h) h.pos hb2
theorem Nc.shaped {n w : Nat} {d : D} (h : Nc n w d) (hn : n ≤ 64) : SeqAt.shaped d = true := by
  unfold SeqAt.shaped
  rw [h.lay, decide_eq_true (Nat.le_trans h.dep hn)]
  rfl
theorem uRepr {n w : Nat} {ds : List D} {Q : D → Prop} (h : Nc n w (.list ds)) (hn : n ≤ 60) (hw : w ≤ 16777216) (q : Q (.str (PyData.list ds).shown)) : b1W .repr (.list ds) Q := by
  refine ⟨h.sh, PyData.hasDict_of_canLay _ h.lay, Nat.le_trans h.dep hn, ?_, q⟩
  have e : sizeLine = 16777216 := by decide
  rw [e]
  exact Nat.le_trans h.ln hw
theorem shaped_str {s : Str} (h : Sok s) : SeqAt.shaped (.str s) = true := by
  unfold SeqAt.shaped
  simp [PyData.canLay0, PyData.depth, sok_strOk h]
theorem cEqS {s : Str} {Q : Bool → Prop} (h : Sok s) (q : Q true) : cmpW .eq (.str s) (.str s) Q := by
  refine ⟨shaped_str h, shaped_str h, ?_⟩
  simpa [PyData.eqv] using q
theorem cNeS {s : Str} {Q : Bool → Prop} (h : Sok s) (q : Q false) : cmpW .ne (.str s) (.str s) Q := by
  refine ⟨shaped_str h, shaped_str h, ?_⟩
  simpa [PyData.eqv] using q
/-- two lists with equal texts: repr(one) == repr(two), repr(one) != repr(two) -/
theorem reprEq {n w : Nat} {ds es : List D} {Q : D → Prop} (e : ds = es) (h : Nc n w (.list ds)) (hn : n ≤ 60) (hw : w ≤ 16777216) (q : Q (.bool true)) :
    b1W .repr (.list ds) fun x => b1W .repr (.list es) fun y => cmpW .eq x y fun k => Q (.bool k) := by
  subst e
  exact uRepr h hn hw (uRepr h hn hw (cEqS h.so q))
theorem reprNe {n w : Nat} {ds es : List D} {Q : D → Prop} (e : ds = es) (h : Nc n w (.list ds)) (hn : n ≤ 60) (hw : w ≤ 16777216) (q : Q (.bool false)) :
    b1W .repr (.list ds) fun x => b1W .repr (.list es) fun y => cmpW .ne x y fun k => Q (.bool k) := by
  subst e
  exact uRepr h hn hw (uRepr h hn hw (cNeS h.so q))
end Sp

/-! S8 -/
set_option Elab.async false
set_option linter.all false
set_option maxRecDepth 100000
set_option maxHeartbeats 4000000
namespace Sp
open PySem DH Bt Rx
local macro_rules | `(tactic| dsimp! [$ls,*]) => `(tactic| simp only [wSs_nil, wSs_cons, wS_set, wS_own, wS_asg, wS_par, wS_app, wS_setIx, wS_ret, wS_ifs, wS_brk, wS_pass, wS_expr, wS_frz, wS_sprS, wS_sprD, wS_ext, wS_aug, wE_m1, wE_dget, wE_var, wE_peek, wE_glob, wE_non, wE_bl, wE_int, wE_str, wE_tup, wE_lst, wE_bin, wE_neg, wE_not, wE_and, wE_or, wE_ite, wE_cmp, wE_chain, wE_ix, wE_slc, wE_rev,
  wE_call, wE_callS, wE_callK, wE_callP, wE_spr, wE_b1, wE_b2, wE_isi, wE_dic0, wE_dic1, wL_nil, wL_cons, wA_1, wA_2, wO_1, wO_2, wP_no, wP_yes, wC_no, wC_yes, cEq, cNe, cLt, cLe, cGt, cGe, truB, truT, truL, bAdd, bSub, bMul, bDiv, bMod, uLenT, uLenL, uTupL, uInt, uAbs, vGcd, vMax, vMin,
  e0F, e0T, gV, gO, parE, isiD, List.map_cons, List.map_nil, List.replicate, List.nil_append, List.append_nil, List.cons_append, List.getElem?_cons_zero, List.getElem?_cons_succ, List.set_cons_zero, List.set_cons_succ, Option.some.injEq, Sl.val.injEq, Sl.own.injEq, exists_eq_left', exists_eq_left, PyData.bool.injEq, PyData.int.injEq, PyData.list.injEq, PyData.tuple.injEq, Bool.false_eq_true, if_false, if_true, Bool.not_true, Bool.not_false,
  ixT0, ixT1, ixT2, ixL0, ixL1, ixL2, fr_num, fr_den, frEq, fr0, fr1, decide_true, decide_false, $ls,*])
local macro_rules | `(tactic| dsimp! [$ls,*] at $h:ident) => `(tactic| simp only [wSs_nil, wSs_cons, wS_set, wS_own, wS_asg, wS_par, wS_app, wS_setIx, wS_ret, wS_ifs, wS_brk, wS_pass, wS_expr, wS_frz, wS_sprS, wS_sprD, wS_ext, wS_aug, wE_m1, wE_dget, wE_var, wE_peek, wE_glob, wE_non, wE_bl, wE_int, wE_str, wE_tup, wE_lst, wE_bin, wE_neg, wE_not, wE_and, wE_or, wE_ite, wE_cmp, wE_chain, wE_ix, wE_slc, wE_rev,
  wE_call, wE_callS, wE_callK, wE_callP, wE_spr, wE_b1, wE_b2, wE_isi, wE_dic0, wE_dic1, wL_nil, wL_cons, wA_1, wA_2, wO_1, wO_2, wP_no, wP_yes, wC_no, wC_yes, cEq, cNe, cLt, cLe, cGt, cGe, truB, truT, truL, bAdd, bSub, bMul, bDiv, bMod, uLenT, uLenL, uTupL, uInt, uAbs, vGcd, vMax, vMin,
  e0F, e0T, gV, gO, parE, isiD, List.map_cons, List.map_nil, List.replicate, List.nil_append, List.append_nil, List.cons_append, List.getElem?_cons_zero, List.getElem?_cons_succ, List.set_cons_zero, List.set_cons_succ, Option.some.injEq, Sl.val.injEq, Sl.own.injEq, exists_eq_left', exists_eq_left, PyData.bool.injEq, PyData.int.injEq, PyData.list.injEq, PyData.tuple.injEq, Bool.false_eq_true, if_false, if_true, Bool.not_true, Bool.not_false,
  ixT0, ixT1, ixT2, ixL0, ixL1, ixL2, fr_num, fr_den, frEq, fr0, fr1, decide_true, decide_false, $ls,*] at $h:ident)
local macro_rules | `(tactic| simp! [$ls,*]) => `(tactic| simp only [wSs_nil, wSs_cons, wS_set, wS_own, wS_asg, wS_par, wS_app, wS_setIx, wS_ret, wS_ifs, wS_brk, wS_pass, wS_expr, wS_frz, wS_sprS, wS_sprD, wS_ext, wS_aug, wE_m1, wE_dget, wE_var, wE_peek, wE_glob, wE_non, wE_bl, wE_int, wE_str, wE_tup, wE_lst, wE_bin, wE_neg, wE_not, wE_and, wE_or, wE_ite, wE_cmp, wE_chain, wE_ix, wE_slc, wE_rev,
  wE_call, wE_callS, wE_callK, wE_callP, wE_spr, wE_b1, wE_b2, wE_isi, wE_dic0, wE_dic1, wL_nil, wL_cons, wA_1, wA_2, wO_1, wO_2, wP_no, wP_yes, wC_no, wC_yes, cEq, cNe, cLt, cLe, cGt, cGe, truB, truT, truL, bAdd, bSub, bMul, bDiv, bMod, uLenT, uLenL, uTupL, uInt, uAbs, vGcd, vMax, vMin,
  e0F, e0T, gV, gO, parE, isiD, List.map_cons, List.map_nil, List.replicate, List.nil_append, List.append_nil, List.cons_append, List.getElem?_cons_zero, List.getElem?_cons_succ, List.set_cons_zero, List.set_cons_succ, Option.some.injEq, Sl.val.injEq, Sl.own.injEq, exists_eq_left', exists_eq_left, PyData.bool.injEq, PyData.int.injEq, PyData.list.injEq, PyData.tuple.injEq, Bool.false_eq_true, if_false, if_true, Bool.not_true, Bool.not_false,
  ixT0, ixT1, ixT2, ixL0, ixL1, ixL2, fr_num, fr_den, frEq, fr0, fr1, decide_true, decide_false, wS_fo, wS_wh, wE_comp, wE_comp2, cS_at, tslots, tslotsL, src_seq, src_rng, src_rng2, src_z2, src_z3, src_enu, itemsT, itemsL, a_nm, a_tp, a_fr, a_nil, a_cons, wipe0, wipeS, cG_at, fG_at, cB_at, cT_yes, whB_at, whC_at, $ls,*])
local macro_rules | `(tactic| simp! [$ls,*] at $h:ident) => `(tactic| simp only [wSs_nil, wSs_cons, wS_set, wS_own, wS_asg, wS_par, wS_app, wS_setIx, wS_ret, wS_ifs, wS_brk, wS_pass, wS_expr, wS_frz, wS_sprS, wS_sprD, wS_ext, wS_aug, wE_m1, wE_dget, wE_var, wE_peek, wE_glob, wE_non, wE_bl, wE_int, wE_str, wE_tup, wE_lst, wE_bin, wE_neg, wE_not, wE_and, wE_or, wE_ite, wE_cmp, wE_chain, wE_ix, wE_slc, wE_rev,
  wE_call, wE_callS, wE_callK, wE_callP, wE_spr, wE_b1, wE_b2, wE_isi, wE_dic0, wE_dic1, wL_nil, wL_cons, wA_1, wA_2, wO_1, wO_2, wP_no, wP_yes, wC_no, wC_yes, cEq, cNe, cLt, cLe, cGt, cGe, truB, truT, truL, bAdd, bSub, bMul, bDiv, bMod, uLenT, uLenL, uTupL, uInt, uAbs, vGcd, vMax, vMin,
  e0F, e0T, gV, gO, parE, isiD, List.map_cons, List.map_nil, List.replicate, List.nil_append, List.append_nil, List.cons_append, List.getElem?_cons_zero, List.getElem?_cons_succ, List.set_cons_zero, List.set_cons_succ, Option.some.injEq, Sl.val.injEq, Sl.own.injEq, exists_eq_left', exists_eq_left, PyData.bool.injEq, PyData.int.injEq, PyData.list.injEq, PyData.tuple.injEq, Bool.false_eq_true, if_false, if_true, Bool.not_true, Bool.not_false,
  ixT0, ixT1, ixT2, ixL0, ixL1, ixL2, fr_num, fr_den, frEq, fr0, fr1, decide_true, decide_false, wS_fo, wS_wh, wE_comp, wE_comp2, cS_at, tslots, tslotsL, src_seq, src_rng, src_rng2, src_z2, src_z3, src_enu, itemsT, itemsL, a_nm, a_tp, a_fr, a_nil, a_cons, wipe0, wipeS, cG_at, fG_at, cB_at, cT_yes, whB_at, whC_at, $ls,*] at $h:ident)
/-! ### drawn odds and chances -/
theorem divInt_add {a b S : Int} : Rat.divInt (a + b) S = Rat.divInt a S + Rat.divInt b S := by
  simp only [Rat.divInt_eq_div, Rat.div_def, Rat.intCast_add, Rat.add_mul]
theorem rsum_div (S : Int) : ∀ ns : List Int, rsum (ns.map fun n => Rat.divInt n S) = Rat.divInt ns.sum S
  | [] => by simp [rsum_nil]
  | n :: ns => by rw [List.map_cons, rsum_cons, rsum_div S ns, List.sum_cons, divInt_add]
theorem divInt_one {S : Int} (h : 0 < S) : Rat.divInt S S = 1 := Rat.divInt_self' (by omega)
theorem part_of {n S : Int} (h0 : 0 ≤ n) (h1 : n < 44) (hS : 0 < S) (hS2 : S < 2 ^ 12) : 0 ≤ Rat.divInt n S ∧ Rb 12 (Rat.divInt n S) := ⟨Rat.divInt_nonneg h0 (by omega), Rb.divInt (by omega) (by omega) (by decide)⟩
structure Odds (k : Nat) (rs : List Rat) : Prop where
  len : rs.length = k
  nn : ∀ r ∈ rs, 0 ≤ r
  sz : ∀ r ∈ rs, Rb 12 r
  one : rsum rs = 1
theorem parts_sum {k : Nat} {ns : List Int} (hk : k ≤ 20) (hl : ns.length = k) (hr : ∀ n ∈ ns, 0 ≤ n ∧ n < 44) : ns.sum < 2 ^ 12 := by
  have := sum_le (b := 43) (ns := ns) fun n hn => by have := (hr n hn).2; omega
  have : (ns.length : Int) * 43 ≤ 20 * 43 := Int.mul_le_mul_of_nonneg_right (by omega) (by decide)
  omega
def spOdds : PSpec := fun ds Q => ∃ k : Nat, ds = [.int k] ∧ 0 < k ∧ k ≤ 20 ∧ ∀ rs : List Rat, Odds k rs → Q (.tuple (rs.map fr))
abbrev sp42 := spOdds
theorem ok42 {T : Tb} (h33 : T.f 33 = sp33) (h40 : T.f 40 = sp40) : ∀ ds Q, sp42 ds Q → bodyW T 2 true b42 ds Q := by
  rintro ds Q ⟨k, rfl, hk0, hk, h⟩
  unfold bodyW b42
  simp! [h40, sp40]
  refine ⟨k, rfl, hk0, hk, fun ns hl hr hs => ?_⟩
  have hS := parts_sum hk hl hr
  simp! []
  refine comp_map PyData.int (fun n => fr (Rat.divInt n ns.sum)) ns [] (fun n hn K hK => ?_) ?_
  · simp! [uSum, h33, sp33, spRat]
    exact ⟨⟨by omega, logOk (n := 12) (by omega) (by decide) (by decide)⟩, hK⟩
  · rw [List.nil_append]
    have := h (ns.map fun n => Rat.divInt n ns.sum) ⟨by simpa using hl, ?_, ?_, by rw [rsum_div, divInt_one hs]⟩
    · rw [List.map_map] at this
      exact this
    · intro r hr2
      obtain ⟨n, hn, rfl⟩ := List.mem_map.mp hr2
      exact (part_of (hr n hn).1 (hr n hn).2 hs hS).1
    · intro r hr2
      obtain ⟨n, hn, rfl⟩ := List.mem_map.mp hr2
      exact (part_of (hr n hn).1 (hr n hn).2 hs hS).2
structure Chances (k : Nat) (ps : List (Int × Rat)) : Prop where
  asc : chF k 0 ps
  sz : ∀ p ∈ ps, Rb 12 p.2
  one : rsum (ps.map (·.2)) = 1
theorem chF_of {k : Nat} (f : Nat → Rat) : ∀ (l : List Nat) (least : Int), l.Pairwise (· < ·) → (∀ i ∈ l, least ≤ (i : Int) ∧ i < k ∧ 0 < f i) → chF k least (l.map fun i : Nat => ((i : Int), f i))
  | [], _, _, _ => trivial
  | i :: l, least, hp, h => by
    rw [List.pairwise_cons] at hp
    have h1 := h i List.mem_cons_self
    refine ⟨⟨h1.1, by show (i : Int) ≤ k - 1; omega⟩, h1.2.2, chF_of f l _ hp.2 fun j hj => ?_⟩
    have h2 := h j (List.mem_cons_of_mem _ hj)
    have h3 := hp.1 j hj
    exact ⟨by show (i : Int) + 1 ≤ j; omega, h2.2⟩
theorem sum_filter : ∀ {ns : List Int}, (∀ n ∈ ns, 0 ≤ n) → (ns.filter fun n => decide (0 < n)).sum = ns.sum
  | [], _ => rfl
  | n :: ns, h => by
    have h1 := h n List.mem_cons_self
    have h2 := sum_filter (ns := ns) fun m hm => h m (List.mem_cons_of_mem _ hm)
    by_cases e : 0 < n
    · rw [List.filter_cons, if_pos (by simpa using e), List.sum_cons, List.sum_cons, h2]
    · rw [List.filter_cons, if_neg (by simpa using e), List.sum_cons, h2]
      omega
theorem range_get (ns : List Int) : (List.range ns.length).map (fun i => ns.getD i 0) = ns := by
  apply List.ext_getElem
  · simp
  · intro i h1 h2
    simp at h1
    simp [h1]
def spChances : PSpec := fun ds Q => ∃ k : Nat, ds = [.int k] ∧ 0 < k ∧ k ≤ 20 ∧ ∀ ps : List (Int × Rat), Chances k ps → Q (.tuple (ps.map pe))
abbrev sp41 := spChances
theorem ok41 {T : Tb} (h33 : T.f 33 = sp33) (h40 : T.f 40 = sp40) : ∀ ds Q, sp41 ds Q → bodyW T 2 true b41 ds Q := by
  rintro ds Q ⟨k, rfl, hk0, hk, h⟩
  unfold bodyW b41
  simp! [h40, sp40]
  refine ⟨k, rfl, hk0, hk, fun ns hl hr hs => ?_⟩
  have hS := parts_sum hk hl hr
  have gk : ∀ i, i < k → (ns.map PyData.int)[i]? = some (.int (ns.getD i 0)) := fun i hi => by
    have : i < ns.length := by omega
    simp [this]
  have gm : ∀ i, i < k → 0 ≤ ns.getD i 0 ∧ ns.getD i 0 < 44 := fun i hi => by
    have h2 : i < ns.length := by omega
    have := hr ns[i] (List.getElem_mem h2)
    simpa [h2] using this
  simp! []
  refine ⟨by omega, by omega, ?_⟩
  rw [Int.toNat_natCast, rng_map]
  refine comp_fil (fun i : Nat => .int (i : Int)) (fun i : Nat => pe ((i : Int), Rat.divInt (ns.getD i 0) ns.sum)) (fun i => decide (0 < ns.getD i 0)) (List.range k) [] (fun i hi K1 K2 h1 h2 => ?_) ?_
  · have hik : i < k := List.mem_range.mp hi
    simp! [uSum, h33, sp33, spRat]
    rw [ixL (gk i hik)]
    simp! []
    cases e : decide (0 < ns.getD i 0) with
    | true =>
      simp only
      rw [ixL (gk i hik)]
      exact ⟨⟨by omega, logOk (n := 12) (by omega) (by decide) (by decide)⟩, h1 e⟩
    | false => exact h2 e
  · rw [List.nil_append]
    have := h (((List.range k).filter fun i => decide (0 < ns.getD i 0)).map fun i : Nat => ((i : Int), Rat.divInt (ns.getD i 0) ns.sum)) ⟨?_, ?_, ?_⟩
    · rw [List.map_map] at this
      exact this
    · refine chF_of (fun i => Rat.divInt (ns.getD i 0) ns.sum) _ 0 (List.Pairwise.filter _ List.pairwise_lt_range) fun i hi => ?_
      have hi2 := List.mem_filter.mp hi
      have hik : i < k := List.mem_range.mp hi2.1
      have hp : 0 < ns.getD i 0 := of_decide_eq_true hi2.2
      refine ⟨by omega, hik, ?_⟩
      refine Rat.lt_iff_le_and_ne.mpr ⟨Rat.divInt_nonneg (by omega) (by omega), fun z => ?_⟩
      rw [Rat.divInt_eq_div, Rat.div_def] at z
      rcases Rat.mul_eq_zero.mp z.symm with q | q
      · have : ns.getD i 0 = 0 := by exact_mod_cast q
        omega
      · have e2 : ((ns.sum : Int) : Rat) ≠ 0 := by
          intro q2
          have : ns.sum = 0 := by exact_mod_cast q2
          omega
        have := Rat.mul_inv_cancel _ e2
        rw [q, Rat.mul_zero] at this
        exact absurd this (by decide)
    · intro p hp
      obtain ⟨i, hi, rfl⟩ := List.mem_map.mp hp
      have hik : i < k := List.mem_range.mp (List.mem_filter.mp hi).1
      exact (part_of (gm i hik).1 (gm i hik).2 hs hS).2
    · rw [List.map_map]
      have e1 : ((fun p : Int × Rat => p.2) ∘ fun i : Nat => ((i : Int), Rat.divInt (ns.getD i 0) ns.sum)) = (fun n => Rat.divInt n ns.sum) ∘ fun i : Nat => ns.getD i 0 := rfl
      rw [e1, ← List.map_map, rsum_div]
      have e2 : ((List.range k).filter fun i => decide (0 < ns.getD i 0)).map (fun i => ns.getD i 0) = ns.filter fun n => decide (0 < n) := by
        have e3 : (fun i => decide (0 < ns.getD i 0)) = (fun n : Int => decide (0 < n)) ∘ fun i : Nat => ns.getD i 0 := rfl
        rw [e3, ← List.filter_map, ← hl, range_get]
      rw [e2, sum_filter fun n hn => (hr n hn).1, divInt_one hs]
end Sp

/-! S9 -/
set_option Elab.async false
set_option linter.all false
set_option maxRecDepth 100000
set_option maxHeartbeats 4000000
namespace Sp
open PySem DH Bt Rx
local macro_rules | `(tactic| dsimp! [$ls,*]) => `(tactic| simp only [wSs_nil, wSs_cons, wS_set, wS_own, wS_asg, wS_par, wS_app, wS_setIx, wS_ret, wS_ifs, wS_brk, wS_pass, wS_expr, wS_frz, wS_sprS, wS_sprD, wS_ext, wS_aug, wE_m1, wE_dget, wE_var, wE_peek, wE_glob, wE_non, wE_bl, wE_int, wE_str, wE_tup, wE_lst, wE_bin, wE_neg, wE_not, wE_and, wE_or, wE_ite, wE_cmp, wE_chain, wE_ix, wE_slc, wE_rev,
  wE_call, wE_callS, wE_callK, wE_callP, wE_spr, wE_b1, wE_b2, wE_isi, wE_dic0, wE_dic1, wL_nil, wL_cons, wA_1, wA_2, wO_1, wO_2, wP_no, wP_yes, wC_no, wC_yes, cEq, cNe, cLt, cLe, cGt, cGe, truB, truT, truL, bAdd, bSub, bMul, bDiv, bMod, uLenT, uLenL, uTupL, uInt, uAbs, vGcd, vMax, vMin,
  e0F, e0T, gV, gO, parE, isiD, List.map_cons, List.map_nil, List.replicate, List.nil_append, List.append_nil, List.cons_append, List.getElem?_cons_zero, List.getElem?_cons_succ, List.set_cons_zero, List.set_cons_succ, Option.some.injEq, Sl.val.injEq, Sl.own.injEq, exists_eq_left', exists_eq_left, PyData.bool.injEq, PyData.int.injEq, PyData.list.injEq, PyData.tuple.injEq, Bool.false_eq_true, if_false, if_true, Bool.not_true, Bool.not_false,
  ixT0, ixT1, ixT2, ixL0, ixL1, ixL2, fr_num, fr_den, frEq, fr0, fr1, decide_true, decide_false, $ls,*])
local macro_rules | `(tactic| dsimp! [$ls,*] at $h:ident) => `(tactic| simp only [wSs_nil, wSs_cons, wS_set, wS_own, wS_asg, wS_par, wS_app, wS_setIx, wS_ret, wS_ifs, wS_brk, wS_pass, wS_expr, wS_frz, wS_sprS, wS_sprD, wS_ext, wS_aug, wE_m1, wE_dget, wE_var, wE_peek, wE_glob, wE_non, wE_bl, wE_int, wE_str, wE_tup, wE_lst, wE_bin, wE_neg, wE_not, wE_and, wE_or, wE_ite, wE_cmp, wE_chain, wE_ix, wE_slc, wE_rev,
  wE_call, wE_callS, wE_callK, wE_callP, wE_spr, wE_b1, wE_b2, wE_isi, wE_dic0, wE_dic1, wL_nil, wL_cons, wA_1, wA_2, wO_1, wO_2, wP_no, wP_yes, wC_no, wC_yes, cEq, cNe, cLt, cLe, cGt, cGe, truB, truT, truL, bAdd, bSub, bMul, bDiv, bMod, uLenT, uLenL, uTupL, uInt, uAbs, vGcd, vMax, vMin,
  e0F, e0T, gV, gO, parE, isiD, List.map_cons, List.map_nil, List.replicate, List.nil_append, List.append_nil, List.cons_append, List.getElem?_cons_zero, List.getElem?_cons_succ, List.set_cons_zero, List.set_cons_succ, Option.some.injEq, Sl.val.injEq, Sl.own.injEq, exists_eq_left', exists_eq_left, PyData.bool.injEq, PyData.int.injEq, PyData.list.injEq, PyData.tuple.injEq, Bool.false_eq_true, if_false, if_true, Bool.not_true, Bool.not_false,
  ixT0, ixT1, ixT2, ixL0, ixL1, ixL2, fr_num, fr_den, frEq, fr0, fr1, decide_true, decide_false, $ls,*] at $h:ident)
local macro_rules | `(tactic| simp! [$ls,*]) => `(tactic| simp only [wSs_nil, wSs_cons, wS_set, wS_own, wS_asg, wS_par, wS_app, wS_setIx, wS_ret, wS_ifs, wS_brk, wS_pass, wS_expr, wS_frz, wS_sprS, wS_sprD, wS_ext, wS_aug, wE_m1, wE_dget, wE_var, wE_peek, wE_glob, wE_non, wE_bl, wE_int, wE_str, wE_tup, wE_lst, wE_bin, wE_neg, wE_not, wE_and, wE_or, wE_ite, wE_cmp, wE_chain, wE_ix, wE_slc, wE_rev,
  wE_call, wE_callS, wE_callK, wE_callP, wE_spr, wE_b1, wE_b2, wE_isi, wE_dic0, wE_dic1, wL_nil, wL_cons, wA_1, wA_2, wO_1, wO_2, wP_no, wP_yes, wC_no, wC_yes, cEq, cNe, cLt, cLe, cGt, cGe, truB, truT, truL, bAdd, bSub, bMul, bDiv, bMod, uLenT, uLenL, uTupL, uInt, uAbs, vGcd, vMax, vMin,
  e0F, e0T, gV, gO, parE, isiD, List.map_cons, List.map_nil, List.replicate, List.nil_append, List.append_nil, List.cons_append, List.getElem?_cons_zero, List.getElem?_cons_succ, List.set_cons_zero, List.set_cons_succ, Option.some.injEq, Sl.val.injEq, Sl.own.injEq, exists_eq_left', exists_eq_left, PyData.bool.injEq, PyData.int.injEq, PyData.list.injEq, PyData.tuple.injEq, Bool.false_eq_true, if_false, if_true, Bool.not_true, Bool.not_false,
  ixT0, ixT1, ixT2, ixL0, ixL1, ixL2, fr_num, fr_den, frEq, fr0, fr1, decide_true, decide_false, wS_fo, wS_wh, wE_comp, wE_comp2, cS_at, tslots, tslotsL, src_seq, src_rng, src_rng2, src_z2, src_z3, src_enu, itemsT, itemsL, a_nm, a_tp, a_fr, a_nil, a_cons, wipe0, wipeS, cG_at, fG_at, cB_at, cT_yes, whB_at, whC_at, $ls,*])
local macro_rules | `(tactic| simp! [$ls,*] at $h:ident) => `(tactic| simp only [wSs_nil, wSs_cons, wS_set, wS_own, wS_asg, wS_par, wS_app, wS_setIx, wS_ret, wS_ifs, wS_brk, wS_pass, wS_expr, wS_frz, wS_sprS, wS_sprD, wS_ext, wS_aug, wE_m1, wE_dget, wE_var, wE_peek, wE_glob, wE_non, wE_bl, wE_int, wE_str, wE_tup, wE_lst, wE_bin, wE_neg, wE_not, wE_and, wE_or, wE_ite, wE_cmp, wE_chain, wE_ix, wE_slc, wE_rev,
  wE_call, wE_callS, wE_callK, wE_callP, wE_spr, wE_b1, wE_b2, wE_isi, wE_dic0, wE_dic1, wL_nil, wL_cons, wA_1, wA_2, wO_1, wO_2, wP_no, wP_yes, wC_no, wC_yes, cEq, cNe, cLt, cLe, cGt, cGe, truB, truT, truL, bAdd, bSub, bMul, bDiv, bMod, uLenT, uLenL, uTupL, uInt, uAbs, vGcd, vMax, vMin,
  e0F, e0T, gV, gO, parE, isiD, List.map_cons, List.map_nil, List.replicate, List.nil_append, List.append_nil, List.cons_append, List.getElem?_cons_zero, List.getElem?_cons_succ, List.set_cons_zero, List.set_cons_succ, Option.some.injEq, Sl.val.injEq, Sl.own.injEq, exists_eq_left', exists_eq_left, PyData.bool.injEq, PyData.int.injEq, PyData.list.injEq, PyData.tuple.injEq, Bool.false_eq_true, if_false, if_true, Bool.not_true, Bool.not_false,
  ixT0, ixT1, ixT2, ixL0, ixL1, ixL2, fr_num, fr_den, frEq, fr0, fr1, decide_true, decide_false, wS_fo, wS_wh, wE_comp, wE_comp2, cS_at, tslots, tslotsL, src_seq, src_rng, src_rng2, src_z2, src_z3, src_enu, itemsT, itemsL, a_nm, a_tp, a_fr, a_nil, a_cons, wipe0, wipeS, cG_at, fG_at, cB_at, cT_yes, whB_at, whC_at, $ls,*] at $h:ident)
/-! ### houses -/
abbrev Deed := List (Int × Rat) × List Rat
def deedD (d : Deed) : D := .tuple [.tuple (d.1.map pe), .tuple (d.2.map fr)]
def standD (s : List Deed) : D := .tuple (s.map deedD)
def houseD (r : Rat) (p : Nat) (st : List (List Deed)) : D := .tuple [fr r, .int p, .tuple (st.map standD)]
/-- a deed of a house of so many stands and pays, of gains of so many bits -/
structure GD (b k p : Nat) (d : Deed) : Prop where
  ch : Chances k d.1
  len : d.2.length = p
  sz : ∀ r ∈ d.2, Rb b r
structure GH (b : Nat) (r : Rat) (p : Nat) (st : List (List Deed)) : Prop where
  nn : 0 ≤ r
  lt : r < 1
  sz : Rb 7 r
  ds : ∀ s ∈ st, ∀ d ∈ s, GD b st.length p d
theorem chances_len {k : Nat} {ps : List (Int × Rat)} (h : Chances k ps) : ps.length ≤ k := by
  have := chF_len h.asc (by omega)
  omega
theorem nc_pe {p : Int × Rat} (h1 : 0 ≤ p.1) (h2 : p.1 < 2 ^ 10) (h : Rb 12 p.2) : Nc 2 73 (pe p) := by
  unfold pe
  refine (Nc.tup (n := 1) (w := 33) (ds := [.int p.1, fr p.2]) fun d hd => ?_).mono (by omega) (by simp)
  simp only [List.mem_cons, List.not_mem_nil, or_false] at hd
  rcases hd with rfl | rfl
  · exact (Nc.int (b := 10) (by omega) (by decide) (by decide)).mono (by omega) (by omega)
  · exact (Nc.fr h (by decide)).mono (by omega) (by omega)
theorem chF_mem {k : Int} : ∀ {ps : List (Int × Rat)} {least : Int}, chF k least ps → ∀ p ∈ ps, least ≤ p.1 ∧ p.1 < k ∧ 0 < p.2
  | p :: ps, least, h, q, hq => by
    have h1 := h.1
    rcases List.mem_cons.mp hq with rfl | hq
    · exact ⟨h1.1, by omega, h.2.1⟩
    · have := chF_mem h.2.2 q hq
      exact ⟨by omega, this.2⟩
theorem nc_chances {k : Nat} {ps : List (Int × Rat)} (h : Chances k ps) (hk : k ≤ 20) : Nc 3 (k * 75 + 3) (.tuple (ps.map pe)) := by
  refine (Nc.tup (n := 2) (w := 73) (ds := ps.map pe) fun d hd => ?_).mono (by omega) ?_
  · obtain ⟨p, hp, rfl⟩ := List.mem_map.mp hd
    have := chF_mem h.asc p hp
    exact nc_pe this.1 (by omega) (h.sz p hp)
  · rw [List.length_map]
    have := chances_len h
    omega
theorem nc_frs {b : Nat} {rs : List Rat} (h : ∀ r ∈ rs, Rb b r) (hb : b ≤ 1900) : Nc 2 (rs.length * (2 * b + 11) + 3) (.tuple (rs.map fr)) := by
  refine (Nc.tup (n := 1) (w := 2 * b + 9) (ds := rs.map fr) fun d hd => ?_).mono (by omega) (by simp)
  obtain ⟨p, hp, rfl⟩ := List.mem_map.mp hd
  exact Nc.fr (h p hp) hb
theorem nc_deed {b k p : Nat} {d : Deed} (h : GD b k p d) (hk : k ≤ 20) (hb : b ≤ 1900) : Nc 4 (2 * (k * 75 + p * (2 * b + 11) + 5) + 3) (deedD d) := by
  unfold deedD
  refine (Nc.tup (n := 3) (w := k * 75 + p * (2 * b + 11) + 3) (ds := [.tuple (d.1.map pe), .tuple (d.2.map fr)]) fun x hx => ?_).mono (by omega) (by simp)
  simp only [List.mem_cons, List.not_mem_nil, or_false] at hx
  rcases hx with rfl | rfl
  · exact (nc_chances h.ch hk).mono (by omega) (by omega)
  · refine (nc_frs h.sz hb).mono (by omega) ?_
    rw [h.len]
    omega
theorem nc_stand {b k p m : Nat} {s : List Deed} (h : ∀ d ∈ s, GD b k p d) (hk : k ≤ 20) (hb : b ≤ 1900) (hm : s.length ≤ m) : Nc 5 (m * (2 * (k * 75 + p * (2 * b + 11) + 5) + 5) + 3) (standD s) := by
  unfold standD
  refine (Nc.tup (n := 4) (w := 2 * (k * 75 + p * (2 * b + 11) + 5) + 3) fun x hx => ?_).mono (by omega) ?_
  · obtain ⟨d, hd, rfl⟩ := List.mem_map.mp hx
    exact nc_deed (h d hd) hk hb
  · rw [List.length_map]
    exact Nat.add_le_add_right (Nat.mul_le_mul_right _ hm) 3
/-- how long the text of a house may be -/
def wH (b k p m : Nat) : Nat := 3 * (k * (m * (2 * (k * 75 + p * (2 * b + 11) + 5) + 5) + 5) + 100) + 3
theorem nc_house {b p m : Nat} {r : Rat} {st : List (List Deed)} (h : GH b r p st) (hk : st.length ≤ 20) (hb : b ≤ 1900) (hm : ∀ s ∈ st, s.length ≤ m) (hp : p ≤ 20) : Nc 7 (wH b st.length p m) (houseD r p st) := by
  unfold houseD
  refine (Nc.tup (n := 6) (w := st.length * (m * (2 * (st.length * 75 + p * (2 * b + 11) + 5) + 5) + 5) + 98) fun x hx => ?_).mono (by omega) (by simp [wH])
  simp only [List.mem_cons, List.not_mem_nil, or_false] at hx
  rcases hx with rfl | rfl | rfl
  · exact (Nc.fr h.sz (by decide)).mono (by omega) (by omega)
  · exact (Nc.int (b := 10) (by omega) (by decide) (by decide)).mono (by omega) (by omega)
  · refine (Nc.tup (n := 5) (w := m * (2 * (st.length * 75 + p * (2 * b + 11) + 5) + 5) + 3) fun x hx => ?_).mono (by omega) ?_
    · obtain ⟨s, hs, rfl⟩ := List.mem_map.mp hx
      exact nc_stand (h.ds s hs) hk hb (hm s hs)
    · rw [List.length_map]
      exact Nat.add_le_add_left (by decide : 3 ≤ 98) _
/-- a house with so many pays and so many deeds at each stand -/
def spSized : PSpec := fun ds Q => ∃ (cs : List Nat) (p : Nat), ds = [.list (cs.map fun c => .int (c : Nat)), .int p] ∧ cs ≠ [] ∧ cs.length ≤ 10 ∧ (∀ c ∈ cs, c ≤ 6) ∧ p ≤ 6 ∧ ∀ r st, GH 24 r p st → st.map List.length = cs → Q (houseD r p st)
abbrev sp43 := spSized
theorem len_pos_ne {ds : List D} : PyData.eqv (.list ds) (.list []) = ds.isEmpty := by
  cases ds <;> simp [PyData.eqv, PyData.eqvAll]
theorem inner43 {T : Tb} (h1 : T.f 1 = sp1) (h39 : T.f 39 = sp39) (h41 : T.f 41 = sp41) {cs : List Nat} {p c : Nat} (hc0 : cs ≠ []) (hcl : cs.length ≤ 10) (hp : p ≤ 6) (hc : c ≤ 6) {sh : D} {st : List D} {v5 v7 v8 : Option Sl} {N : Po}
    (fin : ∀ s : List Deed, s.length = c → (∀ d ∈ s, GD 24 cs.length p d) → ∀ v7 v8, N.nx [none, some (.val (.list (cs.map fun c => .int (c : Nat)))), some (.val (.int p)), some (.val sh), some (.own st), v5, some (.own (s.map deedD)), v7, v8]) :
    forW (fG (.nm 7)) (whB T (.cons (.ifs (.and (.cons (.cmp .ne (.peek 6) (.lst .nil)) (.cons (.cmp .eq (.callS 1 (.cons (.int 9) .nil)) (.int 8)) .nil))) (.cons (.app 6 (.ix (.peek 6) (.int 0))) .nil) (.cons (.set 8 (.callS 41 (.cons (.b1 .len (.var 1)) .nil))) (.cons (.app 6 (.tup (.cons (.var 8) (.cons (.callS 39 (.cons (.var 2) .nil)) .nil)))) .nil))) .nil))
      ((List.range c).map fun i : Nat => .int (i : Int)) [none, some (.val (.list (cs.map fun c => .int (c : Nat)))), some (.val (.int p)), some (.val sh), some (.own st), v5, some (.own []), v7, v8] N := by
  refine for_inv (fun i : Nat => .int (i : Int)) (List.range c) (fun pre ρ => ∃ (s : List Deed) (v7 v8 : Option Sl), ρ = [none, some (.val (.list (cs.map fun c => .int (c : Nat)))), some (.val (.int p)), some (.val sh), some (.own st), v5, some (.own (s.map deedD)), v7, v8] ∧ s.length = pre.length ∧ ∀ d ∈ s, GD 24 cs.length p d) ⟨[], v7, v8, rfl, rfl, by simp⟩ ?_ ?_
  · rintro pre x post he ρ ⟨s, v7, v8, rfl, hl, hs⟩ N' _ _ kk _
    have hpl : pre.length < c := by
      have := congrArg List.length he
      simp at this
      omega
    have go : ∀ d : Deed, GD 24 cs.length p d → ∀ v8, N'.nx [none, some (.val (.list (cs.map fun c => .int (c : Nat)))), some (.val (.int p)), some (.val sh), some (.own st), v5, some (.own (s.map deedD ++ [deedD d])), some (.val (.int x)), v8] := fun d hd v8 => by
      refine kk _ ⟨s ++ [d], _, v8, by rw [List.map_append]; rfl, by simp [hl], ?_⟩
      intro e he
      rcases List.mem_append.mp he with q | q
      · exact hs e q
      · simp at q
        subst q
        exact hd
    have new : wpSs T (.cons (.set 8 (.callS 41 (.cons (.b1 .len (.var 1)) .nil))) (.cons (.app 6 (.tup (.cons (.var 8) (.cons (.callS 39 (.cons (.var 2) .nil)) .nil)))) .nil)) [none, some (.val (.list (cs.map fun c => .int (c : Nat)))), some (.val (.int p)), some (.val sh), some (.own st), v5, some (.own (s.map deedD)), some (.val (.int x)), v8] N' := by
      simp! [h41, h39, sp41, sp39, List.length_map]
      refine ⟨cs.length, rfl, List.length_pos_iff.mpr hc0, by omega, fun ps hps => ?_⟩
      simp! []
      refine ⟨by omega, p, rfl, by omega, fun rs hrl hrs => ?_⟩
      exact go (ps, rs) ⟨hps, hrl, hrs⟩ _
    simp! []
    have nc : Nc 5 _ (.list (s.map deedD)) := Nc.lst (n := 4) (w := 2 * (cs.length * 75 + p * (2 * 24 + 11) + 5) + 3) fun d hd => by
      obtain ⟨e, he, rfl⟩ := List.mem_map.mp hd
      exact nc_deed (hs e he) (by omega) (by decide)
    have c1 : ∀ Q : Bool → Prop, Q (!(s.map deedD).isEmpty) → cmpW .ne (.list (s.map deedD)) (.list []) Q := fun Q q => by
      refine ⟨nc.shaped (by decide), by decide, ?_⟩
      rw [len_pos_ne]
      exact q
    refine c1 _ ?_
    cases s with
    | nil =>
      simp! [List.isEmpty_nil]
      have n2 := new
      simp! [] at n2
      exact n2
    | cons d s =>
      simp! [List.isEmpty_cons, h1, sp1]
      refine pick_of (by decide) (by decide) fun t t0 t1 => ?_
      simp! []
      cases e : decide (t = 8) with
      | true =>
        simp! []
        refine ⟨by simp at hl ⊢; omega, ?_⟩
        exact go d (hs d List.mem_cons_self) _
      | false =>
        have n2 := new
        simp! [] at n2
        simp! []
        exact n2
  · rintro ρ ⟨s, v7, v8, rfl, hl, hs⟩
    exact fin s (by simpa using hl) hs v7 v8
end Sp

/-! S10 -/
set_option Elab.async false
set_option linter.all false
set_option maxRecDepth 100000
set_option maxHeartbeats 4000000
namespace Sp
open PySem DH Bt Rx
local macro_rules | `(tactic| dsimp! [$ls,*]) => `(tactic| simp only [wSs_nil, wSs_cons, wS_set, wS_own, wS_asg, wS_par, wS_app, wS_setIx, wS_ret, wS_ifs, wS_brk, wS_pass, wS_expr, wS_frz, wS_sprS, wS_sprD, wS_ext, wS_aug, wE_m1, wE_dget, wE_var, wE_peek, wE_glob, wE_non, wE_bl, wE_int, wE_str, wE_tup, wE_lst, wE_bin, wE_neg, wE_not, wE_and, wE_or, wE_ite, wE_cmp, wE_chain, wE_ix, wE_slc, wE_rev,
  wE_call, wE_callS, wE_callK, wE_callP, wE_spr, wE_b1, wE_b2, wE_isi, wE_dic0, wE_dic1, wL_nil, wL_cons, wA_1, wA_2, wO_1, wO_2, wP_no, wP_yes, wC_no, wC_yes, cEq, cNe, cLt, cLe, cGt, cGe, truB, truT, truL, bAdd, bSub, bMul, bDiv, bMod, uLenT, uLenL, uTupL, uInt, uAbs, vGcd, vMax, vMin,
  e0F, e0T, gV, gO, parE, isiD, List.map_cons, List.map_nil, List.replicate, List.nil_append, List.append_nil, List.cons_append, List.getElem?_cons_zero, List.getElem?_cons_succ, List.set_cons_zero, List.set_cons_succ, Option.some.injEq, Sl.val.injEq, Sl.own.injEq, exists_eq_left', exists_eq_left, PyData.bool.injEq, PyData.int.injEq, PyData.list.injEq, PyData.tuple.injEq, Bool.false_eq_true, if_false, if_true, Bool.not_true, Bool.not_false,
  ixT0, ixT1, ixT2, ixL0, ixL1, ixL2, fr_num, fr_den, frEq, fr0, fr1, decide_true, decide_false, $ls,*])
local macro_rules | `(tactic| dsimp! [$ls,*] at $h:ident) => `(tactic| simp only [wSs_nil, wSs_cons, wS_set, wS_own, wS_asg, wS_par, wS_app, wS_setIx, wS_ret, wS_ifs, wS_brk, wS_pass, wS_expr, wS_frz, wS_sprS, wS_sprD, wS_ext, wS_aug, wE_m1, wE_dget, wE_var, wE_peek, wE_glob, wE_non, wE_bl, wE_int, wE_str, wE_tup, wE_lst, wE_bin, wE_neg, wE_not, wE_and, wE_or, wE_ite, wE_cmp, wE_chain, wE_ix, wE_slc, wE_rev,
  wE_call, wE_callS, wE_callK, wE_callP, wE_spr, wE_b1, wE_b2, wE_isi, wE_dic0, wE_dic1, wL_nil, wL_cons, wA_1, wA_2, wO_1, wO_2, wP_no, wP_yes, wC_no, wC_yes, cEq, cNe, cLt, cLe, cGt, cGe, truB, truT, truL, bAdd, bSub, bMul, bDiv, bMod, uLenT, uLenL, uTupL, uInt, uAbs, vGcd, vMax, vMin,
  e0F, e0T, gV, gO, parE, isiD, List.map_cons, List.map_nil, List.replicate, List.nil_append, List.append_nil, List.cons_append, List.getElem?_cons_zero, List.getElem?_cons_succ, List.set_cons_zero, List.set_cons_succ, Option.some.injEq, Sl.val.injEq, Sl.own.injEq, exists_eq_left', exists_eq_left, PyData.bool.injEq, PyData.int.injEq, PyData.list.injEq, PyData.tuple.injEq, Bool.false_eq_true, if_false, if_true, Bool.not_true, Bool.not_false,
  ixT0, ixT1, ixT2, ixL0, ixL1, ixL2, fr_num, fr_den, frEq, fr0, fr1, decide_true, decide_false, $ls,*] at $h:ident)
local macro_rules | `(tactic| simp! [$ls,*]) => `(tactic| simp only [wSs_nil, wSs_cons, wS_set, wS_own, wS_asg, wS_par, wS_app, wS_setIx, wS_ret, wS_ifs, wS_brk, wS_pass, wS_expr, wS_frz, wS_sprS, wS_sprD, wS_ext, wS_aug, wE_m1, wE_dget, wE_var, wE_peek, wE_glob, wE_non, wE_bl, wE_int, wE_str, wE_tup, wE_lst, wE_bin, wE_neg, wE_not, wE_and, wE_or, wE_ite, wE_cmp, wE_chain, wE_ix, wE_slc, wE_rev,
  wE_call, wE_callS, wE_callK, wE_callP, wE_spr, wE_b1, wE_b2, wE_isi, wE_dic0, wE_dic1, wL_nil, wL_cons, wA_1, wA_2, wO_1, wO_2, wP_no, wP_yes, wC_no, wC_yes, cEq, cNe, cLt, cLe, cGt, cGe, truB, truT, truL, bAdd, bSub, bMul, bDiv, bMod, uLenT, uLenL, uTupL, uInt, uAbs, vGcd, vMax, vMin,
  e0F, e0T, gV, gO, parE, isiD, List.map_cons, List.map_nil, List.replicate, List.nil_append, List.append_nil, List.cons_append, List.getElem?_cons_zero, List.getElem?_cons_succ, List.set_cons_zero, List.set_cons_succ, Option.some.injEq, Sl.val.injEq, Sl.own.injEq, exists_eq_left', exists_eq_left, PyData.bool.injEq, PyData.int.injEq, PyData.list.injEq, PyData.tuple.injEq, Bool.false_eq_true, if_false, if_true, Bool.not_true, Bool.not_false,
  ixT0, ixT1, ixT2, ixL0, ixL1, ixL2, fr_num, fr_den, frEq, fr0, fr1, decide_true, decide_false, wS_fo, wS_wh, wE_comp, wE_comp2, cS_at, tslots, tslotsL, src_seq, src_rng, src_rng2, src_z2, src_z3, src_enu, itemsT, itemsL, a_nm, a_tp, a_fr, a_nil, a_cons, wipe0, wipeS, cG_at, fG_at, cB_at, cT_yes, whB_at, whC_at, $ls,*])
local macro_rules | `(tactic| simp! [$ls,*] at $h:ident) => `(tactic| simp only [wSs_nil, wSs_cons, wS_set, wS_own, wS_asg, wS_par, wS_app, wS_setIx, wS_ret, wS_ifs, wS_brk, wS_pass, wS_expr, wS_frz, wS_sprS, wS_sprD, wS_ext, wS_aug, wE_m1, wE_dget, wE_var, wE_peek, wE_glob, wE_non, wE_bl, wE_int, wE_str, wE_tup, wE_lst, wE_bin, wE_neg, wE_not, wE_and, wE_or, wE_ite, wE_cmp, wE_chain, wE_ix, wE_slc, wE_rev,
  wE_call, wE_callS, wE_callK, wE_callP, wE_spr, wE_b1, wE_b2, wE_isi, wE_dic0, wE_dic1, wL_nil, wL_cons, wA_1, wA_2, wO_1, wO_2, wP_no, wP_yes, wC_no, wC_yes, cEq, cNe, cLt, cLe, cGt, cGe, truB, truT, truL, bAdd, bSub, bMul, bDiv, bMod, uLenT, uLenL, uTupL, uInt, uAbs, vGcd, vMax, vMin,
  e0F, e0T, gV, gO, parE, isiD, List.map_cons, List.map_nil, List.replicate, List.nil_append, List.append_nil, List.cons_append, List.getElem?_cons_zero, List.getElem?_cons_succ, List.set_cons_zero, List.set_cons_succ, Option.some.injEq, Sl.val.injEq, Sl.own.injEq, exists_eq_left', exists_eq_left, PyData.bool.injEq, PyData.int.injEq, PyData.list.injEq, PyData.tuple.injEq, Bool.false_eq_true, if_false, if_true, Bool.not_true, Bool.not_false,
  ixT0, ixT1, ixT2, ixL0, ixL1, ixL2, fr_num, fr_den, frEq, fr0, fr1, decide_true, decide_false, wS_fo, wS_wh, wE_comp, wE_comp2, cS_at, tslots, tslotsL, src_seq, src_rng, src_rng2, src_z2, src_z3, src_enu, itemsT, itemsL, a_nm, a_tp, a_fr, a_nil, a_cons, wipe0, wipeS, cG_at, fG_at, cB_at, cT_yes, whB_at, whC_at, $ls,*] at $h:ident)
theorem ok43 {T : Tb} (h1 : T.f 1 = sp1) (h38 : T.f 38 = sp38) (h39 : T.f 39 = sp39) (h41 : T.f 41 = sp41) : ∀ ds Q, sp43 ds Q → bodyW T 6 true b43 ds Q := by
  rintro ds Q ⟨cs, p, rfl, hc0, hcl, hc, hp, h⟩
  unfold bodyW b43
  simp! [h38, sp38]
  refine ⟨rfl, fun r r0 r1 r2 => ?_⟩
  simp! []
  refine for_inv (fun c : Nat => .int (c : Int)) cs (fun pre ρ => ∃ (st : List (List Deed)) (v5 v6 v7 v8 : Option Sl), ρ = [none, some (.val (.list (cs.map fun c => .int (c : Nat)))), some (.val (.int p)), some (.val (fr r)), some (.own (st.map standD)), v5, v6, v7, v8] ∧ st.map List.length = pre ∧ ∀ s ∈ st, ∀ d ∈ s, GD 24 cs.length p d) ⟨[], _, _, _, _, rfl, rfl, by simp⟩ ?_ ?_
  · rintro pre c post he ρ ⟨st, v5, v6, v7, v8, rfl, hl, hs⟩ N' _ _ kk _
    have hcc : c ≤ 6 := hc c (by rw [he]; simp)
    simp! []
    refine ⟨by omega, by omega, ?_⟩
    rw [Int.toNat_natCast, rng_map]
    refine inner43 h1 h39 h41 hc0 hcl hp hcc fun s hsl hsd v7 v8 => ?_
    simp! []
    have hstl : st.length ≤ 10 := by
      have e1 := congrArg List.length hl
      have e2 := congrArg List.length he
      simp at e1 e2
      omega
    refine ⟨by simp; omega, kk _ ⟨st ++ [s], _, _, _, _, by rw [List.map_append]; rfl, by rw [List.map_append, hl]; simp [hsl], ?_⟩⟩
    intro x hx
    rcases List.mem_append.mp hx with q | q
    · exact hs x q
    · simp at q
      subst q
      exact hsd
  · rintro ρ ⟨st, v5, v6, v7, v8, rfl, hl, hs⟩
    simp! []
    have e1 : st.length = cs.length := by rw [← hl, List.length_map]
    exact h r st ⟨r0, r1, r2, by rw [e1]; exact hs⟩ hl
/-- a drawn house: so many stands, so many deeds at each -/
structure World (m d p : Nat) (r : Rat) (st : List (List Deed)) : Prop where
  gh : GH 24 r p st
  l0 : 1 ≤ st.length
  l1 : st.length ≤ m
  d0 : ∀ s ∈ st, 1 ≤ s.length ∧ s.length ≤ d
def spWorld : PSpec := fun ds Q => ∃ m d p : Nat, ds = [.int m, .int d, .int p] ∧ (0 < m ∧ m ≤ 9) ∧ (0 < d ∧ d ≤ 5) ∧ p ≤ 6 ∧ ∀ r st, World m d p r st → Q (houseD r p st)
abbrev sp44 := spWorld
theorem ok44 {T : Tb} (h1 : T.f 1 = sp1) (h43 : T.f 43 = sp43) : ∀ ds Q, sp44 ds Q → bodyW T 2 true b44 ds Q := by
  rintro ds Q ⟨m, d, p, rfl, ⟨hm0, hm⟩, ⟨hd0, hd⟩, hp, h⟩
  unfold bodyW b44
  simp! [h1, sp1]
  refine pick_of (by omega) (by omega) fun t t0 t1 => ?_
  obtain ⟨n, rfl⟩ := Int.eq_ofNat_of_zero_le t0
  have e : (1 + (n : Int)).toNat = n + 1 := by omega
  simp! []
  refine ⟨by omega, by omega, ?_⟩
  rw [e, rng_map]
  refine for_inv (fun i : Nat => .int (i : Int)) (List.range (n + 1)) (fun pre ρ => ∃ (cs : List Nat) (v5 : Option Sl), ρ = [none, some (.val (.int m)), some (.val (.int d)), some (.val (.int p)), some (.own (cs.map fun c => .int (c : Nat))), v5] ∧ cs.length = pre.length ∧ ∀ c ∈ cs, 1 ≤ c ∧ c ≤ d) ⟨[], _, rfl, rfl, by simp⟩ ?_ ?_
  · rintro pre x post he ρ ⟨cs, v5, rfl, hl, hs⟩ N' _ _ kk _
    have hpl : pre.length < n + 1 := by
      have := congrArg List.length he
      simp at this
      omega
    simp! [h1, sp1]
    refine ⟨by simp; omega, ?_⟩
    refine pick_of (by omega) (by omega) fun t t0 t1 => ?_
    obtain ⟨c, rfl⟩ := Int.eq_ofNat_of_zero_le t0
    have t2 : (c : Int) < d := t1
    simp! []
    refine kk _ ⟨cs ++ [1 + c], _, by rw [List.map_append]; rfl, by simp [hl], ?_⟩
    intro x hx
    rcases List.mem_append.mp hx with q | q
    · exact hs x q
    · simp at q
      subst q
      omega
  · rintro ρ ⟨cs, v5, rfl, hl, hs⟩
    rw [List.length_range] at hl
    simp! [h43, sp43]
    refine ⟨cs, p, rfl, (fun z => by rw [z] at hl; cases hl), by omega, (fun c hc => by have := hs c hc; omega), hp, fun r st hg hst => ?_⟩
    refine h r st ⟨hg, ?_, ?_, fun s hs2 => ?_⟩
    · have := congrArg List.length hst
      rw [List.length_map] at this
      omega
    · have := congrArg List.length hst
      rw [List.length_map] at this
      omega
    · refine hs s.length ?_
      rw [← hst]
      exact List.mem_map_of_mem hs2
/-! ### values of any kind -/
def spBdAny : PSpec := fun ds Q => ds = [] ∧ ∀ v, bd v = true → Q v
abbrev sp53 := spBdAny
theorem ok53 {T : Tb} (h2 : T.f 2 = sp2) : ∀ ds Q, sp53 ds Q → bodyW T 0 true b53 ds Q := by
  rintro ds Q ⟨rfl, h⟩
  unfold bodyW b53
  simp! [h2, sp2]
  refine ⟨by simp [PyData.hasDict], ?_⟩
  refine ⟨_, _, rfl, rfl, by simp, by simp, ?_⟩
  intro d hd
  refine h d (List.all_eq_true.mp ?_ d hd)
  decide +kernel
/-! rows of whole numbers, of any depth -/
mutual
def it : D → Bool
  | .int i => decide (i.natAbs < 2 ^ 50)
  | .tuple ds => decide (ds.length ≤ 30) && itAll ds
  | _ => false
def itAll : List D → Bool
  | [] => true
  | d :: ds => it d && itAll ds
end
theorem itAll_iff : ∀ {ds : List D}, itAll ds = true ↔ ∀ d ∈ ds, it d = true
  | [] => by simp [itAll]
  | d :: ds => by simp [itAll, itAll_iff (ds := ds)]
theorem it_tup {ds : List D} : it (.tuple ds) = true ↔ ds.length ≤ 30 ∧ ∀ d ∈ ds, it d = true := by
  simp [it, itAll_iff]
theorem it_int {i : Int} : it (.int i) = true ↔ i.natAbs < 2 ^ 50 := by simp [it]
mutual
theorem it_bd : ∀ {d : D}, it d = true → bd d = true
  | .int i, h => by
    have := it_int.mp h
    simp only [bd, decide_eq_true_eq]
    omega
  | .tuple ds, h => by
    have := it_tup.mp h
    exact bd_tup.mpr ⟨by omega, itAll_bd this.2⟩
  | .none, h => by simp [it] at h
  | .bool _, h => by simp [it] at h
  | .str _, h => by simp [it] at h
  | .list _, h => by simp [it] at h
  | .dict _, h => by simp [it] at h
theorem itAll_bd : ∀ {ds : List D}, (∀ d ∈ ds, it d = true) → ∀ d ∈ ds, bd d = true
  | [], _, d, hd => by cases hd
  | x :: xs, h, d, hd => by
    rcases List.mem_cons.mp hd with e | hd
    · rw [e]
      exact it_bd (h x List.mem_cons_self)
    · exact itAll_bd (fun y hy => h y (List.mem_cons_of_mem _ hy)) d hd
end
theorem bd_int {i : Int} : bd (.int i) = true ↔ i.natAbs < 2 ^ 64 := by simp [bd]
theorem bd_len {ds : List D} (h : bd (.tuple ds) = true) : ds.length ≤ 100 := (bd_tup.mp h).1
def spTwice : PSpec := fun ds Q => ∃ es, ds = [.tuple es] ∧ it (.tuple es) = true ∧ ∀ v, bd v = true → Q v
abbrev sp54 := spTwice
theorem bd_twice {es : List D} (h : it (.tuple es) = true) : bd (.tuple (es ++ es)) = true := by
  have h2 := it_tup.mp h
  refine bd_tup.mpr ⟨by rw [List.length_append]; omega, fun d hd => ?_⟩
  rcases List.mem_append.mp hd with q | q <;> exact it_bd (h2.2 d q)
theorem ok54 {T : Tb} : ∀ ds Q, sp54 ds Q → bodyW T 0 false b54 ds Q := by
  rintro ds Q ⟨es, rfl, hi, h⟩
  have h2 := it_tup.mp hi
  have dbl : es.length + es.length ≤ 1000000 ∧ Q (.tuple (es ++ es)) := ⟨by omega, h _ (bd_twice hi)⟩
  unfold bodyW b54
  simp! []
  by_cases e : (es.length : Int) = 2
  · simp! [e]
    match es, e with
    | [x, y], _ =>
      simp! []
      have hx := h2.2 x (by simp)
      have hy := h2.2 y (by simp)
      cases x with
      | int i =>
        simp! []
        cases y with
        | int j =>
          simp! []
          have a := it_int.mp hx
          have b := it_int.mp hy
          refine ⟨cmulR (by decide) (by decide), cmulR (by decide) (by decide), h _ (bd_tup.mpr ⟨by simp, fun d hd => ?_⟩)⟩
          simp only [List.mem_cons, List.not_mem_nil, or_false] at hd
          rcases hd with rfl | rfl <;> exact bd_int.mpr (by omega)
        | tuple zs => simp! []; exact dbl
        | _ => simp [it] at hy
      | tuple zs => simp! []; exact dbl
      | _ => simp [it] at hx
  · simp! [e]
    exact dbl
end Sp

/-! S11 -/
set_option Elab.async false
set_option linter.all false
set_option maxRecDepth 100000
set_option maxHeartbeats 4000000
namespace Sp
open PySem DH Bt Rx
local macro_rules | `(tactic| dsimp! [$ls,*]) => `(tactic| simp only [wSs_nil, wSs_cons, wS_set, wS_own, wS_asg, wS_par, wS_app, wS_setIx, wS_ret, wS_ifs, wS_brk, wS_pass, wS_expr, wS_frz, wS_sprS, wS_sprD, wS_ext, wS_aug, wE_m1, wE_dget, wE_var, wE_peek, wE_glob, wE_non, wE_bl, wE_int, wE_str, wE_tup, wE_lst, wE_bin, wE_neg, wE_not, wE_and, wE_or, wE_ite, wE_cmp, wE_chain, wE_ix, wE_slc, wE_rev,
  wE_call, wE_callS, wE_callK, wE_callP, wE_spr, wE_b1, wE_b2, wE_isi, wE_dic0, wE_dic1, wL_nil, wL_cons, wA_1, wA_2, wO_1, wO_2, wP_no, wP_yes, wC_no, wC_yes, cEq, cNe, cLt, cLe, cGt, cGe, truB, truT, truL, bAdd, bSub, bMul, bDiv, bMod, uLenT, uLenL, uTupL, uInt, uAbs, vGcd, vMax, vMin,
  e0F, e0T, gV, gO, parE, isiD, List.map_cons, List.map_nil, List.replicate, List.nil_append, List.append_nil, List.cons_append, List.getElem?_cons_zero, List.getElem?_cons_succ, List.set_cons_zero, List.set_cons_succ, Option.some.injEq, Sl.val.injEq, Sl.own.injEq, exists_eq_left', exists_eq_left, PyData.bool.injEq, PyData.int.injEq, PyData.list.injEq, PyData.tuple.injEq, Bool.false_eq_true, if_false, if_true, Bool.not_true, Bool.not_false,
  ixT0, ixT1, ixT2, ixL0, ixL1, ixL2, fr_num, fr_den, frEq, fr0, fr1, decide_true, decide_false, $ls,*])
local macro_rules | `(tactic| dsimp! [$ls,*] at $h:ident) => `(tactic| simp only [wSs_nil, wSs_cons, wS_set, wS_own, wS_asg, wS_par, wS_app, wS_setIx, wS_ret, wS_ifs, wS_brk, wS_pass, wS_expr, wS_frz, wS_sprS, wS_sprD, wS_ext, wS_aug, wE_m1, wE_dget, wE_var, wE_peek, wE_glob, wE_non, wE_bl, wE_int, wE_str, wE_tup, wE_lst, wE_bin, wE_neg, wE_not, wE_and, wE_or, wE_ite, wE_cmp, wE_chain, wE_ix, wE_slc, wE_rev,
  wE_call, wE_callS, wE_callK, wE_callP, wE_spr, wE_b1, wE_b2, wE_isi, wE_dic0, wE_dic1, wL_nil, wL_cons, wA_1, wA_2, wO_1, wO_2, wP_no, wP_yes, wC_no, wC_yes, cEq, cNe, cLt, cLe, cGt, cGe, truB, truT, truL, bAdd, bSub, bMul, bDiv, bMod, uLenT, uLenL, uTupL, uInt, uAbs, vGcd, vMax, vMin,
  e0F, e0T, gV, gO, parE, isiD, List.map_cons, List.map_nil, List.replicate, List.nil_append, List.append_nil, List.cons_append, List.getElem?_cons_zero, List.getElem?_cons_succ, List.set_cons_zero, List.set_cons_succ, Option.some.injEq, Sl.val.injEq, Sl.own.injEq, exists_eq_left', exists_eq_left, PyData.bool.injEq, PyData.int.injEq, PyData.list.injEq, PyData.tuple.injEq, Bool.false_eq_true, if_false, if_true, Bool.not_true, Bool.not_false,
  ixT0, ixT1, ixT2, ixL0, ixL1, ixL2, fr_num, fr_den, frEq, fr0, fr1, decide_true, decide_false, $ls,*] at $h:ident)
local macro_rules | `(tactic| simp! [$ls,*]) => `(tactic| simp only [wSs_nil, wSs_cons, wS_set, wS_own, wS_asg, wS_par, wS_app, wS_setIx, wS_ret, wS_ifs, wS_brk, wS_pass, wS_expr, wS_frz, wS_sprS, wS_sprD, wS_ext, wS_aug, wE_m1, wE_dget, wE_var, wE_peek, wE_glob, wE_non, wE_bl, wE_int, wE_str, wE_tup, wE_lst, wE_bin, wE_neg, wE_not, wE_and, wE_or, wE_ite, wE_cmp, wE_chain, wE_ix, wE_slc, wE_rev,
  wE_call, wE_callS, wE_callK, wE_callP, wE_spr, wE_b1, wE_b2, wE_isi, wE_dic0, wE_dic1, wL_nil, wL_cons, wA_1, wA_2, wO_1, wO_2, wP_no, wP_yes, wC_no, wC_yes, cEq, cNe, cLt, cLe, cGt, cGe, truB, truT, truL, bAdd, bSub, bMul, bDiv, bMod, uLenT, uLenL, uTupL, uInt, uAbs, vGcd, vMax, vMin,
  e0F, e0T, gV, gO, parE, isiD, List.map_cons, List.map_nil, List.replicate, List.nil_append, List.append_nil, List.cons_append, List.getElem?_cons_zero, List.getElem?_cons_succ, List.set_cons_zero, List.set_cons_succ, Option.some.injEq, Sl.val.injEq, Sl.own.injEq, exists_eq_left', exists_eq_left, PyData.bool.injEq, PyData.int.injEq, PyData.list.injEq, PyData.tuple.injEq, Bool.false_eq_true, if_false, if_true, Bool.not_true, Bool.not_false,
  ixT0, ixT1, ixT2, ixL0, ixL1, ixL2, fr_num, fr_den, frEq, fr0, fr1, decide_true, decide_false, wS_fo, wS_wh, wE_comp, wE_comp2, cS_at, tslots, tslotsL, src_seq, src_rng, src_rng2, src_z2, src_z3, src_enu, itemsT, itemsL, a_nm, a_tp, a_fr, a_nil, a_cons, wipe0, wipeS, cG_at, fG_at, cB_at, cT_yes, whB_at, whC_at, $ls,*])
local macro_rules | `(tactic| simp! [$ls,*] at $h:ident) => `(tactic| simp only [wSs_nil, wSs_cons, wS_set, wS_own, wS_asg, wS_par, wS_app, wS_setIx, wS_ret, wS_ifs, wS_brk, wS_pass, wS_expr, wS_frz, wS_sprS, wS_sprD, wS_ext, wS_aug, wE_m1, wE_dget, wE_var, wE_peek, wE_glob, wE_non, wE_bl, wE_int, wE_str, wE_tup, wE_lst, wE_bin, wE_neg, wE_not, wE_and, wE_or, wE_ite, wE_cmp, wE_chain, wE_ix, wE_slc, wE_rev,
  wE_call, wE_callS, wE_callK, wE_callP, wE_spr, wE_b1, wE_b2, wE_isi, wE_dic0, wE_dic1, wL_nil, wL_cons, wA_1, wA_2, wO_1, wO_2, wP_no, wP_yes, wC_no, wC_yes, cEq, cNe, cLt, cLe, cGt, cGe, truB, truT, truL, bAdd, bSub, bMul, bDiv, bMod, uLenT, uLenL, uTupL, uInt, uAbs, vGcd, vMax, vMin,
  e0F, e0T, gV, gO, parE, isiD, List.map_cons, List.map_nil, List.replicate, List.nil_append, List.append_nil, List.cons_append, List.getElem?_cons_zero, List.getElem?_cons_succ, List.set_cons_zero, List.set_cons_succ, Option.some.injEq, Sl.val.injEq, Sl.own.injEq, exists_eq_left', exists_eq_left, PyData.bool.injEq, PyData.int.injEq, PyData.list.injEq, PyData.tuple.injEq, Bool.false_eq_true, if_false, if_true, Bool.not_true, Bool.not_false,
  ixT0, ixT1, ixT2, ixL0, ixL1, ixL2, fr_num, fr_den, frEq, fr0, fr1, decide_true, decide_false, wS_fo, wS_wh, wE_comp, wE_comp2, cS_at, tslots, tslotsL, src_seq, src_rng, src_rng2, src_z2, src_z3, src_enu, itemsT, itemsL, a_nm, a_tp, a_fr, a_nil, a_cons, wipe0, wipeS, cG_at, fG_at, cB_at, cT_yes, whB_at, whC_at, $ls,*] at $h:ident)
theorem slT {ds : List D} {lo hi : Option Int} {Q : D → Prop} : slcW (.tuple ds) lo hi Q = Q (.tuple (cutD ds lo hi)) := rfl
theorem slL {ds : List D} {lo hi : Option Int} {Q : D → Prop} : slcW (.list ds) lo hi Q = Q (.list (cutD ds lo hi)) := rfl
theorem revT {ds : List D} {Q : D → Prop} : revW (.tuple ds) Q = Q (.tuple ds.reverse) := rfl
theorem uListT {ds : List D} {Q : D → Prop} : b1W .list (.tuple ds) Q = Q (.list ds) := rfl
theorem uStr {i : Int} {Q : D → Prop} : b1W .str (.int i) Q = (i.natAbs.log2 < 1920 ∧ Q (.str (toString i))) := rfl
theorem mem_cut {ds : List D} {lo hi : Option Int} {d : D} (h : d ∈ cutD ds lo hi) : d ∈ ds := List.mem_of_mem_drop (List.mem_of_mem_take h)
theorem len_cut (ds : List D) (lo hi : Option Int) : (cutD ds lo hi).length ≤ ds.length := by
  unfold cutD
  rw [List.length_take, List.length_drop]
  omega
theorem depth_mem : ∀ {ds : List D} {d : D}, d ∈ ds → d.depth ≤ PyData.depthAll ds
  | x :: xs, d, h => by
    simp only [PyData.depthAll]
    rcases List.mem_cons.mp h with e | h
    · rw [e]; omega
    · have := depth_mem h; omega
def bent (m : Nat) : PSpec := fun ds Q => ∃ d : D, ds = [d] ∧ it d = true ∧ d.depth < m ∧ ∀ v, bd v = true → Q v
theorem ok55 {T : Tb} (h1 : T.f 1 = sp1) (h53 : T.f 53 = sp53) (h54 : T.f 54 = sp54) (m : Nat) (h55 : T.f 55 = bent m) : ∀ ds Q, bent (m + 1) ds Q → bodyW T 3 true b55 ds Q := by
  rintro ds Q ⟨d, rfl, hi, hd, h⟩
  unfold bodyW b55
  cases d with
  | tuple es =>
    have hi2 := it_tup.mp hi
    have dd : PyData.depthAll es < m := by simp only [PyData.depth] at hd; omega
    have rest : ∀ v4 v5 : Option Sl, wpSs T (.cons (.set 3 (.callS 1 (.cons (.int 9) .nil))) (.cons (.ifs (.and (.cons (.isi .tuple (.var 1)) (.cons (.cmp .lt (.var 3) (.int 7)) .nil))) (.cons (.set 4 (.call 54 (.cons (.var 1) .nil))) (.cons (.ret (.ix (.tup (.cons (.bin .add (.var 1) (.slc (.var 1) (.yes (.neg (.int 1))) .no)) (.cons (.slc (.var 1) (.yes (.int 1)) .no) (.cons (.slc (.var 1) .no (.yes (.neg (.int 1)))) (.cons (.rev (.var 1)) (.cons (.b1 .list (.var 1)) (.cons (.tup (.cons (.var 1) .nil)) (.cons (.var 4) .nil)))))))) (.var 3))) .nil)) .nil) (.cons (.ifs (.and (.cons (.isi .int (.var 1)) (.cons (.cmp .lt (.var 3) (.int 7)) .nil))) (.cons (.ret (.ix (.tup (.cons (.bin .sub (.var 1) (.int 1)) (.cons (.bin .add (.var 1) (.int 1)) (.cons (.bin .sub (.int 0) (.var 1)) (.cons (.bin .mul (.var 1) (.int 2)) (.cons (.cmp .gt (.var 1) (.int 0)) (.cons (.bin .add (.var 1) (.int 7)) (.cons (.b1 .str (.var 1)) .nil)))))))) (.var 3))) .nil) .nil) (.cons (.ret (.callS 53 .nil)) .nil))))
        [none, some (.val (.tuple es)), none, v4, v5] { nx := fun _ => Q .none, rt := Q, bk := fun _ => False, ct := fun _ => False } := fun v4 v5 => by
      simp! [h1, h53, h54, sp1, sp53, sp54]
      refine pick_of (by decide) (by decide) fun t t0 t1 => ?_
      simp! []
      by_cases e : t < 7
      · simp! [e]
        refine ⟨es, rfl, hi, fun v hv => ?_⟩
        simp! [slT, revT, uListT, bAddT]
        have cl := fun lo hi => len_cut es lo hi
        have cm : ∀ lo hi, ∀ d ∈ cutD es lo hi, bd d = true := fun lo hi d hd => it_bd (hi2.2 d (mem_cut hd))
        have em : ∀ d ∈ es, bd d = true := fun d hd => it_bd (hi2.2 d hd)
        refine ⟨by have := cl (some (-1)) none; omega, ixMem rfl t0 (by simpa using e) ?_⟩
        intro d hd
        refine h d ?_
        simp only [List.mem_cons, List.not_mem_nil, or_false] at hd
        rcases hd with rfl | rfl | rfl | rfl | rfl | rfl | rfl
        · refine bd_tup.mpr ⟨by have := cl (some (-1)) none; rw [List.length_append]; omega, fun x hx => ?_⟩
          rcases List.mem_append.mp hx with q | q
          · exact em x q
          · exact cm _ _ x q
        · exact bd_tup.mpr ⟨by have := cl (some 1) none; omega, cm _ _⟩
        · exact bd_tup.mpr ⟨by have := cl none (some (-1)); omega, cm _ _⟩
        · exact bd_tup.mpr ⟨by rw [List.length_reverse]; omega, fun x hx => em x (List.mem_reverse.mp hx)⟩
        · simp [bd]
        · exact bd_tup.mpr ⟨by simp, fun x hx => by simp at hx; rw [hx]; exact it_bd hi⟩
        · exact hv
      · simp! [e]
        exact ⟨rfl, h⟩
    simp! [h1, sp1]
    cases e : decide (0 < (es.length : Int)) with
    | false =>
      have := rest none none
      simp! [h1, sp1] at this
      simp! []
      exact this
    | true =>
      have e0 := of_decide_eq_true e
      simp! []
      refine pick_of (by decide) (by decide) fun t t0 t1 => ?_
      simp! []
      cases e1 : decide (0 < t) with
      | false =>
        have := rest none none
        simp! [h1, sp1] at this
        simp! []
        exact this
      | true =>
        simp! [h1, sp1]
        refine pick_of e0 (by omega) fun a a0 a1 => ?_
        simp! [slT, h55]
        refine ixMem rfl a0 a1 fun x hx => ?_
        refine ⟨x, rfl, hi2.2 x hx, by have := depth_mem hx; omega, fun v hv => ?_⟩
        simp! [bAddT]
        have l1 := len_cut es none (some a)
        have l2 := len_cut es (some (a + 1)) none
        refine ⟨by simp; omega, by simp; omega, h _ (bd_tup.mpr ⟨by simp; omega, fun y hy => ?_⟩)⟩
        simp only [List.mem_append, List.mem_cons, List.not_mem_nil, or_false] at hy
        rcases hy with (hy | rfl) | hy
        · exact it_bd (hi2.2 y (mem_cut hy))
        · exact hv
        · exact it_bd (hi2.2 y (mem_cut hy))
  | int i =>
    have hi2 := it_int.mp hi
    simp! [h1, h53, sp1, sp53]
    refine pick_of (by decide) (by decide) fun t t0 t1 => ?_
    simp! []
    by_cases e : t < 7
    · simp! [e, uStr]
      refine ⟨cmulR (by decide) (by decide), ?_, ixMem rfl t0 (by simpa using e) ?_⟩
      · have := PySem.Flt.log2_lt_of (by decide) hi2
        omega
      · intro d hd
        refine h d ?_
        simp only [List.mem_cons, List.not_mem_nil, or_false] at hd
        rcases hd with rfl | rfl | rfl | rfl | rfl | rfl | rfl
        · exact bd_int.mpr (by omega)
        · exact bd_int.mpr (by omega)
        · exact bd_int.mpr (by omega)
        · exact bd_int.mpr (by omega)
        · simp [bd]
        · exact bd_int.mpr (by omega)
        · simp [bd]
    · simp! [e]
      exact ⟨rfl, h⟩
  | _ => simp [it] at hi
def spMaybe : PSpec := fun ds Q => ∃ d : D, ds = [d] ∧ it d = true ∧ d.depth < 12 ∧ ∀ v, bd v = true → Q v
abbrev sp56 := spMaybe
theorem ok56 {T : Tb} (h1 : T.f 1 = sp1) (h53 : T.f 53 = sp53) (h55 : T.f 55 = bent 12) : ∀ ds Q, sp56 ds Q → bodyW T 1 true b56 ds Q := by
  rintro ds Q ⟨d, rfl, hi, hd, h⟩
  unfold bodyW b56
  simp! [h1, h53, h55, sp1, sp53]
  refine pick_of (by decide) (by decide) fun t t0 t1 => ?_
  simp! []
  by_cases e : t < 6
  · simp! [e]
    exact h d (it_bd hi)
  · simp! [e]
    by_cases e2 : t < 9
    · simp! [e2]
      exact ⟨d, rfl, hi, hd, h⟩
    · simp! [e2]
      exact ⟨rfl, h⟩
/-! ### houses at the edges of the sizes -/
def spEdge : PSpec := fun ds Q => ds = [] ∧ ∀ r p st, GH 24 r p st → st.length ≤ 10 → p ≤ 6 → (∀ s ∈ st, s.length ≤ 6) → Q (houseD r p st)
abbrev sp57 := spEdge

theorem ok57 {T : Tb} (h1 : T.f 1 = sp1) (h43 : T.f 43 = sp43) : ∀ ds Q, sp57 ds Q → bodyW T 4 true b57 ds Q := by
  rintro ds Q ⟨rfl, h⟩
  have go : ∀ (cs : List Nat) (p : Nat), cs ≠ [] → cs.length ≤ 10 → (∀ c ∈ cs, c ≤ 6) → p ≤ 6 → spSized [.list (cs.map fun c => .int (c : Nat)), .int p] Q := fun cs p h0 hl hc hp => by
    refine ⟨cs, p, rfl, h0, hl, hc, hp, fun r st hg hs => h r p st hg ?_ hp fun s hs2 => ?_⟩
    · have := congrArg List.length hs
      rw [List.length_map] at this
      omega
    · refine hc s.length ?_
      rw [← hs]
      exact List.mem_map_of_mem hs2
  unfold bodyW b57
  simp! [h1, sp1]
  refine pick_of (by decide) (by decide) fun t t0 t1 => ?_
  simp! []
  by_cases e0 : t = 0
  · subst e0
    simp! []
    refine pick_of (by decide) (by decide) fun u u0 u1 => ?_
    obtain ⟨n, rfl⟩ := Int.eq_ofNat_of_zero_le u0
    have e : (8 + (n : Int)).toNat = n + 8 := by omega
    simp! []
    refine ⟨by omega, by omega, ?_⟩
    rw [e, rng_map]
    refine for_inv (fun i : Nat => .int (i : Int)) (List.range (n + 8)) (fun pre ρ => ∃ (cs : List Nat) (v : Option Sl), ρ = [none, some (.val (.int 0)), some (.own (cs.map fun c => .int (c : Nat))), some (.val (.int 1)), v] ∧ cs.length = pre.length ∧ ∀ c ∈ cs, c ≤ 6) ⟨[], _, rfl, rfl, by simp⟩ ?_ ?_
    · rintro pre x post he ρ ⟨cs, v5, rfl, hl, hs⟩ N' _ _ kk _
      have hpl : pre.length < n + 8 := by
        have := congrArg List.length he
        simp at this
        omega
      simp! [h1, sp1]
      refine ⟨by simp; omega, ?_⟩
      refine pick_of (by decide) (by decide) fun t t0 t1 => ?_
      obtain ⟨c, rfl⟩ := Int.eq_ofNat_of_zero_le t0
      simp! []
      refine kk _ ⟨cs ++ [1 + c], _, by rw [List.map_append]; rfl, by simp [hl], ?_⟩
      intro x hx
      rcases List.mem_append.mp hx with q | q
      · exact hs x q
      · simp at q
        subst q
        omega
    · rintro ρ ⟨cs, v5, rfl, hl, hs⟩
      rw [List.length_range] at hl
      have d1 : decide ((0 : Int) = 1) = false := by decide
      have d2 : decide ((1 : Int) < 0) = false := by decide
      simp! [h43, sp43, d1, d2]
      exact go cs 1 (fun z => by rw [z] at hl; cases hl) (by omega) hs (by decide)
  · simp! [e0]
    by_cases e1 : t = 1
    · subst e1
      simp! [h1, sp1]
      refine pick_of (by decide) (by decide) fun u u0 u1 => ?_
      obtain ⟨n, rfl⟩ := Int.eq_ofNat_of_zero_le u0
      simp! []
      refine pick_of (by decide) (by decide) fun w w0 w1 => ?_
      obtain ⟨m, rfl⟩ := Int.eq_ofNat_of_zero_le w0
      have d2 : decide ((1 : Int) < 1) = false := by decide
      simp! [h43, sp43, d2]
      exact go [1 + n, 4 + m] 1 (by simp) (by simp) (fun c hc => by simp at hc; omega) (by decide)
    · simp! [e1]
      have d2 : decide (1 < t) = true := by simp; omega
      simp! [d2, h1, sp1]
      refine pick_of (by decide) (by decide) fun u u0 u1 => ?_
      obtain ⟨n, rfl⟩ := Int.eq_ofNat_of_zero_le u0
      simp! []
      refine pick_of (by decide) (by decide) fun w w0 w1 => ?_
      refine ixMem rfl w0 (by simpa using w1) fun d hd => ?_
      simp! [h43, sp43]
      have : ∃ p : Nat, d = .int p ∧ p ≤ 6 := by
        simp only [List.mem_cons, List.not_mem_nil, or_false] at hd
        rcases hd with rfl | rfl | rfl
        · exact ⟨0, rfl, by decide⟩
        · exact ⟨4, rfl, by decide⟩
        · exact ⟨5, rfl, by decide⟩
      obtain ⟨p, rfl, hp⟩ := this
      exact go [1, 1 + n] p (by simp) (by simp) (fun c hc => by simp at hc; omega) hp
/-! ### the spring -/
def spSpring : PSpec := fun ds Q => ∃ (ns : List Int) (lap : Nat), ds = [.list (ns.map .int), .int lap] ∧ lap ≤ 63 ∧ ∀ x y z : Int, sprI 0 x → sprI 1 y → sprI 2 z → Q (.list [.int x, .int y, .int z])
theorem spring {T : Tb} (c : Int) (hc : -(2 ^ 40) < c ∧ c < 2 ^ 40) : ∀ ds Q, spSpring ds Q → bodyN T 3 (.cons (.set 2 (.bin .add (.int c) (.bin .mul (.int 9973) (.var 1)))) (.cons (.fo (.nm 3) (.seq (.slc (.var 0) .no (.yes (.int 9)))) (.cons (.set 2 (.bin .mod (.b1 .int (.bin .add (.bin .add (.bin .mul (.var 2) (.int 52711)) (.bin .mul (.bin .mod (.b1 .int (.var 3)) (.int 2147483579)) (.int 5))) (.int 23))) (.int 2147483579))) .nil)) (.cons (.set 4 (.ite (.cmp .lt (.var 1) (.b1 .len (.var 0))) (.b1 .int (.ix (.var 0) (.var 1))) (.int 0))) (.cons (.set 2 (.bin .mod (.b1 .int (.bin .add (.bin .add (.bin .mul (.var 2) (.int 41)) (.bin .mul (.bin .mod (.b1 .int (.var 4)) (.int 2147483579)) (.int 30103))) (.int 7))) (.int 2147483579))) (.cons (.ret (.lst (.cons (.ite (.or (.cons (.cmp .lt (.var 4) (.int 0)) (.cons (.cmp .ge (.var 4) (.bin .pow (.int 10) (.int 15))) .nil))) (.b1 .abs (.var 4)) (.int 0)) (.cons (.var 2) (.cons (.int 0) .nil))))) .nil))))) ds Q := by
  rintro ds Q ⟨ns, lap, rfl, hlap, h⟩
  unfold bodyN
  have bPow : ∀ {i j : Int} {Q : D → Prop}, binW .pow (.int i) (.int j) Q = (L2.CPow i j ∧ Q (.int (i ^ j.toNat))) := rfl
  simp! [slL]
  refine ⟨cmulR (by omega) (by omega), ?_⟩
  have hcut : ∀ d ∈ cutD (ns.map PyData.int) none (some 9), ∃ i, d = .int i := fun d hd => by
    obtain ⟨i, _, rfl⟩ := List.mem_map.mp (mem_cut hd)
    exact ⟨i, rfl⟩
  refine for_invI (cutD (ns.map PyData.int) none (some 9)) (fun pre ρ => ∃ (m : Int) (u v : Option Sl), ρ = [some (.val (.list (ns.map PyData.int))), some (.val (.int lap)), some (.val (.int m)), u, v] ∧ -(2 ^ 41) < m ∧ m < 2 ^ 41) ⟨_, _, _, rfl, by omega, by omega⟩ ?_ ?_
  · rintro pre x post he ρ ⟨m, u, v, rfl, m0, m1⟩ N' _ _ kk _
    obtain ⟨i, rfl⟩ := hcut x (by rw [he]; simp)
    simp! []
    have q1 := fmod_in (a := i) (m := 2147483579) (by omega)
    refine ⟨cmulR (by decide) (by decide), by decide, cmulR (by decide) (by decide), by decide, kk _ ⟨_, _, _, rfl, ?_, ?_⟩⟩
    · have q2 := fmod_in (a := m * 52711 + i.fmod 2147483579 * 5 + 23) (m := 2147483579) (by omega)
      omega
    · have q2 := fmod_in (a := m * 52711 + i.fmod 2147483579 * 5 + 23) (m := 2147483579) (by omega)
      omega
  · rintro ρ ⟨m, u, v, rfl, m0, m1⟩
    simp! []
    have last : ∀ i : Int, (∀ a, 0 ≤ a → Q (.list [.int a, .int ((m * 41 + i.fmod 2147483579 * 30103 + 7).fmod 2147483579), .int 0])) → wpSs T (.cons (.set 2 (.bin .mod (.b1 .int (.bin .add (.bin .add (.bin .mul (.var 2) (.int 41)) (.bin .mul (.bin .mod (.b1 .int (.var 4)) (.int 2147483579)) (.int 30103))) (.int 7))) (.int 2147483579))) (.cons (.ret (.lst (.cons (.ite (.or (.cons (.cmp .lt (.var 4) (.int 0)) (.cons (.cmp .ge (.var 4) (.bin .pow (.int 10) (.int 15))) .nil))) (.b1 .abs (.var 4)) (.int 0)) (.cons (.var 2) (.cons (.int 0) .nil))))) .nil))
        [some (.val (.list (ns.map PyData.int))), some (.val (.int lap)), some (.val (.int m)), u, some (.val (.int i))] { nx := fun _ => False, rt := Q, bk := fun _ => False, ct := fun _ => False } := fun i k => by
      simp! [bPow]
      refine ⟨cmulR (by decide) (by decide), by decide, cmulR (by decide) (by decide), by decide, ?_⟩
      cases e : decide (i < 0) with
      | true =>
        simp! []
        exact k _ (by omega)
      | false =>
        simp! []
        refine ⟨⟨by decide, by decide, by decide⟩, ?_⟩
        cases e2 : decide ((10 : Int) ^ (15 : Int).toNat ≤ i) with
        | true => exact k _ (by omega)
        | false => exact k _ (by omega)
    have all : ∀ i : Int, ∀ a, 0 ≤ a → Q (.list [.int a, .int ((m * 41 + i.fmod 2147483579 * 30103 + 7).fmod 2147483579), .int 0]) := fun i a ha => by
      have q2 := fmod_in (a := m * 41 + i.fmod 2147483579 * 30103 + 7) (m := 2147483579) (by omega)
      exact h a _ 0 ha q2 (by simp [sprI])
    cases e : decide ((lap : Int) < ((ns.map PyData.int).length : Int)) with
    | true =>
      have e2 := of_decide_eq_true e
      simp! []
      refine ixMem rfl (by omega) e2 fun d hd => ?_
      obtain ⟨i, _, rfl⟩ := List.mem_map.mp hd
      have := last i (all i)
      simp! [bPow] at this
      simp! [bPow]
      exact this
    | false =>
      have := last 0 (all 0)
      simp! [bPow] at this
      simp! [bPow]
      exact this
abbrev sp32 := spSpring
theorem ok32 {T : Tb} : ∀ ds Q, sp32 ds Q → bodyN T 3 b32 ds Q := spring 61990 (by decide)
end Sp

/-! S12 -/
set_option Elab.async false
set_option linter.all false
set_option maxRecDepth 100000
set_option maxHeartbeats 4000000
namespace Sp
open PySem DH Bt Rx
local macro_rules | `(tactic| dsimp! [$ls,*]) => `(tactic| simp only [wSs_nil, wSs_cons, wS_set, wS_own, wS_asg, wS_par, wS_app, wS_setIx, wS_ret, wS_ifs, wS_brk, wS_pass, wS_expr, wS_frz, wS_sprS, wS_sprD, wS_ext, wS_aug, wE_m1, wE_dget, wE_var, wE_peek, wE_glob, wE_non, wE_bl, wE_int, wE_str, wE_tup, wE_lst, wE_bin, wE_neg, wE_not, wE_and, wE_or, wE_ite, wE_cmp, wE_chain, wE_ix, wE_slc, wE_rev,
  wE_call, wE_callS, wE_callK, wE_callP, wE_spr, wE_b1, wE_b2, wE_isi, wE_dic0, wE_dic1, wL_nil, wL_cons, wA_1, wA_2, wO_1, wO_2, wP_no, wP_yes, wC_no, wC_yes, cEq, cNe, cLt, cLe, cGt, cGe, truB, truT, truL, bAdd, bSub, bMul, bDiv, bMod, uLenT, uLenL, uTupL, uInt, uAbs, vGcd, vMax, vMin,
  e0F, e0T, gV, gO, parE, isiD, List.map_cons, List.map_nil, List.replicate, List.nil_append, List.append_nil, List.cons_append, List.getElem?_cons_zero, List.getElem?_cons_succ, List.set_cons_zero, List.set_cons_succ, Option.some.injEq, Sl.val.injEq, Sl.own.injEq, exists_eq_left', exists_eq_left, PyData.bool.injEq, PyData.int.injEq, PyData.list.injEq, PyData.tuple.injEq, Bool.false_eq_true, if_false, if_true, Bool.not_true, Bool.not_false,
  ixT0, ixT1, ixT2, ixL0, ixL1, ixL2, fr_num, fr_den, frEq, fr0, fr1, decide_true, decide_false, $ls,*])
local macro_rules | `(tactic| dsimp! [$ls,*] at $h:ident) => `(tactic| simp only [wSs_nil, wSs_cons, wS_set, wS_own, wS_asg, wS_par, wS_app, wS_setIx, wS_ret, wS_ifs, wS_brk, wS_pass, wS_expr, wS_frz, wS_sprS, wS_sprD, wS_ext, wS_aug, wE_m1, wE_dget, wE_var, wE_peek, wE_glob, wE_non, wE_bl, wE_int, wE_str, wE_tup, wE_lst, wE_bin, wE_neg, wE_not, wE_and, wE_or, wE_ite, wE_cmp, wE_chain, wE_ix, wE_slc, wE_rev,
  wE_call, wE_callS, wE_callK, wE_callP, wE_spr, wE_b1, wE_b2, wE_isi, wE_dic0, wE_dic1, wL_nil, wL_cons, wA_1, wA_2, wO_1, wO_2, wP_no, wP_yes, wC_no, wC_yes, cEq, cNe, cLt, cLe, cGt, cGe, truB, truT, truL, bAdd, bSub, bMul, bDiv, bMod, uLenT, uLenL, uTupL, uInt, uAbs, vGcd, vMax, vMin,
  e0F, e0T, gV, gO, parE, isiD, List.map_cons, List.map_nil, List.replicate, List.nil_append, List.append_nil, List.cons_append, List.getElem?_cons_zero, List.getElem?_cons_succ, List.set_cons_zero, List.set_cons_succ, Option.some.injEq, Sl.val.injEq, Sl.own.injEq, exists_eq_left', exists_eq_left, PyData.bool.injEq, PyData.int.injEq, PyData.list.injEq, PyData.tuple.injEq, Bool.false_eq_true, if_false, if_true, Bool.not_true, Bool.not_false,
  ixT0, ixT1, ixT2, ixL0, ixL1, ixL2, fr_num, fr_den, frEq, fr0, fr1, decide_true, decide_false, $ls,*] at $h:ident)
local macro_rules | `(tactic| simp! [$ls,*]) => `(tactic| simp only [wSs_nil, wSs_cons, wS_set, wS_own, wS_asg, wS_par, wS_app, wS_setIx, wS_ret, wS_ifs, wS_brk, wS_pass, wS_expr, wS_frz, wS_sprS, wS_sprD, wS_ext, wS_aug, wE_m1, wE_dget, wE_var, wE_peek, wE_glob, wE_non, wE_bl, wE_int, wE_str, wE_tup, wE_lst, wE_bin, wE_neg, wE_not, wE_and, wE_or, wE_ite, wE_cmp, wE_chain, wE_ix, wE_slc, wE_rev,
  wE_call, wE_callS, wE_callK, wE_callP, wE_spr, wE_b1, wE_b2, wE_isi, wE_dic0, wE_dic1, wL_nil, wL_cons, wA_1, wA_2, wO_1, wO_2, wP_no, wP_yes, wC_no, wC_yes, cEq, cNe, cLt, cLe, cGt, cGe, truB, truT, truL, bAdd, bSub, bMul, bDiv, bMod, uLenT, uLenL, uTupL, uInt, uAbs, vGcd, vMax, vMin,
  e0F, e0T, gV, gO, parE, isiD, List.map_cons, List.map_nil, List.replicate, List.nil_append, List.append_nil, List.cons_append, List.getElem?_cons_zero, List.getElem?_cons_succ, List.set_cons_zero, List.set_cons_succ, Option.some.injEq, Sl.val.injEq, Sl.own.injEq, exists_eq_left', exists_eq_left, PyData.bool.injEq, PyData.int.injEq, PyData.list.injEq, PyData.tuple.injEq, Bool.false_eq_true, if_false, if_true, Bool.not_true, Bool.not_false,
  ixT0, ixT1, ixT2, ixL0, ixL1, ixL2, fr_num, fr_den, frEq, fr0, fr1, decide_true, decide_false, wS_fo, wS_wh, wE_comp, wE_comp2, cS_at, tslots, tslotsL, src_seq, src_rng, src_rng2, src_z2, src_z3, src_enu, itemsT, itemsL, a_nm, a_tp, a_fr, a_nil, a_cons, wipe0, wipeS, cG_at, fG_at, cB_at, cT_yes, whB_at, whC_at, $ls,*])
local macro_rules | `(tactic| simp! [$ls,*] at $h:ident) => `(tactic| simp only [wSs_nil, wSs_cons, wS_set, wS_own, wS_asg, wS_par, wS_app, wS_setIx, wS_ret, wS_ifs, wS_brk, wS_pass, wS_expr, wS_frz, wS_sprS, wS_sprD, wS_ext, wS_aug, wE_m1, wE_dget, wE_var, wE_peek, wE_glob, wE_non, wE_bl, wE_int, wE_str, wE_tup, wE_lst, wE_bin, wE_neg, wE_not, wE_and, wE_or, wE_ite, wE_cmp, wE_chain, wE_ix, wE_slc, wE_rev,
  wE_call, wE_callS, wE_callK, wE_callP, wE_spr, wE_b1, wE_b2, wE_isi, wE_dic0, wE_dic1, wL_nil, wL_cons, wA_1, wA_2, wO_1, wO_2, wP_no, wP_yes, wC_no, wC_yes, cEq, cNe, cLt, cLe, cGt, cGe, truB, truT, truL, bAdd, bSub, bMul, bDiv, bMod, uLenT, uLenL, uTupL, uInt, uAbs, vGcd, vMax, vMin,
  e0F, e0T, gV, gO, parE, isiD, List.map_cons, List.map_nil, List.replicate, List.nil_append, List.append_nil, List.cons_append, List.getElem?_cons_zero, List.getElem?_cons_succ, List.set_cons_zero, List.set_cons_succ, Option.some.injEq, Sl.val.injEq, Sl.own.injEq, exists_eq_left', exists_eq_left, PyData.bool.injEq, PyData.int.injEq, PyData.list.injEq, PyData.tuple.injEq, Bool.false_eq_true, if_false, if_true, Bool.not_true, Bool.not_false,
  ixT0, ixT1, ixT2, ixL0, ixL1, ixL2, fr_num, fr_den, frEq, fr0, fr1, decide_true, decide_false, wS_fo, wS_wh, wE_comp, wE_comp2, cS_at, tslots, tslotsL, src_seq, src_rng, src_rng2, src_z2, src_z3, src_enu, itemsT, itemsL, a_nm, a_tp, a_fr, a_nil, a_cons, wipe0, wipeS, cG_at, fG_at, cB_at, cT_yes, whB_at, whC_at, $ls,*] at $h:ident)
/-! ### drawn houses are houses -/
theorem it_fr {b : Nat} {r : Rat} (h : Rb b r) (hb : b ≤ 50) : it (fr r) = true := by
  have h := h.mono hb
  unfold fr
  refine it_tup.mpr ⟨by simp, fun d hd => ?_⟩
  simp only [List.mem_cons, List.not_mem_nil, or_false] at hd
  rcases hd with rfl | rfl
  · exact it_int.mpr h.1
  · exact it_int.mpr (den_lt h)
theorem it_frs {b : Nat} {rs : List Rat} (h : ∀ r ∈ rs, Rb b r) (hb : b ≤ 50) (hl : rs.length ≤ 30) : it (.tuple (rs.map fr)) = true := by
  refine it_tup.mpr ⟨by simpa using hl, fun d hd => ?_⟩
  obtain ⟨r, hr, rfl⟩ := List.mem_map.mp hd
  exact it_fr (h r hr) hb
theorem it_chances {k : Nat} {ps : List (Int × Rat)} (h : Chances k ps) (hk : k ≤ 20) : it (.tuple (ps.map pe)) = true := by
  have hl := chances_len h
  refine it_tup.mpr ⟨by rw [List.length_map]; omega, fun d hd => ?_⟩
  obtain ⟨p, hp, rfl⟩ := List.mem_map.mp hd
  have h1 := chF_mem h.asc p hp
  unfold pe
  refine it_tup.mpr ⟨by simp, fun d hd => ?_⟩
  simp only [List.mem_cons, List.not_mem_nil, or_false] at hd
  rcases hd with rfl | rfl
  · exact it_int.mpr (by omega)
  · exact it_fr (h.sz p hp) (by decide)
theorem it_deed {b k p : Nat} {d : Deed} (h : GD b k p d) (hk : k ≤ 20) (hp : p ≤ 30) (hb : b ≤ 50) : it (deedD d) = true := by
  unfold deedD
  refine it_tup.mpr ⟨by simp, fun x hx => ?_⟩
  simp only [List.mem_cons, List.not_mem_nil, or_false] at hx
  rcases hx with rfl | rfl
  · exact it_chances h.ch hk
  · exact it_frs h.sz hb (by rw [h.len]; exact hp)
theorem it_house {b p : Nat} {r : Rat} {st : List (List Deed)} (h : GH b r p st) (hk : st.length ≤ 20) (hp : p ≤ 30) (hb : b ≤ 50) (hs : ∀ s ∈ st, s.length ≤ 30) : it (houseD r p st) = true := by
  unfold houseD
  refine it_tup.mpr ⟨by simp, fun x hx => ?_⟩
  simp only [List.mem_cons, List.not_mem_nil, or_false] at hx
  rcases hx with rfl | rfl | rfl
  · exact it_fr h.sz (by decide)
  · exact it_int.mpr (by omega)
  · refine it_tup.mpr ⟨by rw [List.length_map]; omega, fun x hx => ?_⟩
    obtain ⟨s, hs2, rfl⟩ := List.mem_map.mp hx
    unfold standD
    refine it_tup.mpr ⟨by rw [List.length_map]; exact hs s hs2, fun x hx => ?_⟩
    obtain ⟨d, hd, rfl⟩ := List.mem_map.mp hx
    exact it_deed (h.ds s hs2 d hd) hk hp hb
theorem is_chances {k : Nat} {ps : List (Int × Rat)} (h : Chances k ps) : isChances (.tuple (ps.map pe)) k = true := by
  show (chs k 0 (ps.map pe) && qeq (rsum ((ps.map pe).map second)) 1) = true
  rw [chs_iff.mpr ⟨ps, rfl, h.asc⟩, map_second, h.one]
  rfl
theorem is_row {rs : List Rat} {p : Nat} (h : rs.length = p) : isRow (.tuple (rs.map fr)) p = true := by
  unfold isRow
  rw [Bool.and_eq_true]
  refine ⟨by simp [isTup, h], ?_⟩
  simp [elems, isFrac_fr]
theorem is_deed {b k p : Nat} {d : Deed} (h : GD b k p d) : isDeed (deedD d) p k = true := by
  show (isChances (.tuple (d.1.map pe)) k && isRow (.tuple (d.2.map fr)) p) = true
  rw [is_chances h.ch, is_row h.len]
  rfl
theorem lt_one {r : Rat} (h : r < 1) : r.num < r.den := by
  have := (Rat.lt_iff r 1).mp h
  simpa using this
theorem is_house {b m d p : Nat} {r : Rat} {st : List (List Deed)} (g : GH b r p st) (l0 : 1 ≤ st.length) (l1 : st.length ≤ 8) (d0 : ∀ s ∈ st, 1 ≤ s.length ∧ s.length ≤ 4) (p0 : 1 ≤ p) (p1 : p ≤ 4) : isHouse (houseD r p st) = true := by
  unfold houseD
  rw [isHouse3]
  have e1 : isNN (fr r) = true := nn_fr.mpr ⟨r, rfl, g.nn⟩
  have e2 : decide ((ratOf (fr r)).num < (ratOf (fr r)).den) = true := by rw [ratOf_fr]; exact decide_eq_true (lt_one g.lt)
  have e3 : within 1 4 (.int (p : Nat)) = true := within_iff.mpr ⟨_, rfl, by omega, by omega⟩
  simp only [e1, e2, e3, Bool.true_and, List.length_map, Bool.and_eq_true, decide_eq_true_eq, List.all_map, List.all_eq_true]
  refine ⟨⟨by omega, by omega⟩, fun s hs => ?_⟩
  have h3 := d0 s hs
  show (decide (1 ≤ ((s.map deedD).length : Int)) && decide (((s.map deedD).length : Int) ≤ 4) && (s.map deedD).all fun d => isDeed d p st.length) = true
  simp only [List.length_map, Bool.and_eq_true, decide_eq_true_eq, List.all_map, List.all_eq_true]
  exact ⟨⟨by omega, by omega⟩, fun d hd => is_deed (g.ds s hs d hd)⟩
/-- a right house, of some size -/
structure HouseAt (v : D) : Prop where
  bd : bd v = true
  is : isHouse v = true
theorem World.at {m d p : Nat} {r : Rat} {st : List (List Deed)} (w : World m d p r st) (hm : m ≤ 8) (hd : d ≤ 4) (p0 : 1 ≤ p) (p1 : p ≤ 4) : HouseAt (houseD r p st) where
  bd := it_bd (it_house w.gh (by have := w.l1; omega) (by omega) (by decide) fun s hs => by have := w.d0 s hs; omega)
  is := is_house (m := m) (d := d) w.gh w.l0 (by have := w.l1; omega) (fun s hs => by have := w.d0 s hs; omega) p0 p1
theorem ix_share {r : Rat} {p : Nat} {st : List (List Deed)} {Q : D → Prop} : ixW (houseD r p st) (.int 0) Q = Q (fr r) := ixT0
theorem ix_pays {r : Rat} {p : Nat} {st : List (List Deed)} {Q : D → Prop} : ixW (houseD r p st) (.int 1) Q = Q (.int p) := ixT1
theorem ix_stands {r : Rat} {p : Nat} {st : List (List Deed)} {Q : D → Prop} : ixW (houseD r p st) (.int 2) Q = Q (.tuple (st.map standD)) := ixT2
theorem ix_ch {d : Deed} {Q : D → Prop} : ixW (deedD d) (.int 0) Q = Q (.tuple (d.1.map pe)) := ixT0
theorem ix_gn {d : Deed} {Q : D → Prop} : ixW (deedD d) (.int 1) Q = Q (.tuple (d.2.map fr)) := ixT1
theorem a_house {ts : TgL} {r : Rat} {p : Nat} {st : List (List Deed)} {ρ : DH.Env} {k : DH.Env → Prop} : asgW (.tp ts) (houseD r p st) ρ k = asgLW ts [fr r, .int p, .tuple (st.map standD)] ρ k := a_tp
theorem a_deed {ts : TgL} {d : Deed} {ρ : DH.Env} {k : DH.Env → Prop} : asgW (.tp ts) (deedD d) ρ k = asgLW ts [.tuple (d.1.map pe), .tuple (d.2.map fr)] ρ k := a_tp
theorem items_stand {s : List Deed} : itemsOf (standD s) = some (s.map deedD) := rfl
def spCheck : PSpec := fun ds Q => ∃ v, ds = [v] ∧ HouseAt v ∧ Q .none
abbrev sp498 := spCheck
theorem ok498 {T : Tb} (h497 : T.f 497 = sp497) : ∀ ds Q, sp498 ds Q → bodyW T 0 false b498 ds Q := by
  rintro ds Q ⟨v, rfl, hv, h⟩
  unfold bodyW b498
  simp! [h497, sp497, spHouse]
  refine ⟨hv.bd, ?_⟩
  rw [hv.is]
  simp! []
  exact h
def spIsStart : PSpec := fun ds Q => ∃ r p st v, ds = [houseD r p st, v] ∧ HouseAt (houseD r p st) ∧ bd v = true ∧ Q (.bool (isOdds v st.length))
abbrev sp499 := spIsStart
theorem ok499 {T : Tb} (h23 : T.f 23 = sp23) (h498 : T.f 498 = sp498) : ∀ ds Q, sp499 ds Q → bodyW T 0 false b499 ds Q := by
  rintro ds Q ⟨r, p, st, v, rfl, hh, hv, h⟩
  unfold bodyW b499
  simp! [h498, sp498]
  refine ⟨_, rfl, hh, ?_⟩
  simp! [ix_stands, h23, sp23, List.length_map]
  exact ⟨hv, h⟩
def spCheckW : PSpec := fun ds Q => ∃ (r : Rat) (p : Nat) (st : List (List Deed)) (ws : List Rat), ds = [houseD r p st, .tuple (ws.map fr)] ∧ ws.length = p ∧ Q .none
abbrev sp30 := spCheckW
theorem ok30 {T : Tb} (h16 : T.f 16 = sp16) (h17 : T.f 17 = sp17) : ∀ ds Q, sp30 ds Q → bodyW T 2 false b30 ds Q := by
  rintro ds Q ⟨r, p, st, ws, rfl, hl, h⟩
  unfold bodyW b30
  have e : decide ((ws.length : Int) = (p : Int)) = true := by rw [hl]; simp
  simp! [ix_pays, h16, sp16, isTup, List.length_map, e]
  rw [en_map]
  refine for_inv (fun q : Rat × Nat => .tuple [.int (q.2 : Nat), fr q.1]) ws.zipIdx (fun pre ρ => ∃ u v : Option Sl, ρ = [some (.val (houseD r p st)), some (.val (.tuple (ws.map fr))), u, v]) ⟨_, _, rfl⟩ ?_ ?_
  · rintro pre x post he ρ ⟨u, v, rfl⟩ N' _ _ kk _
    simp! [h17, sp17, isFrac_fr]
    exact kk _ ⟨_, _, rfl⟩
  · rintro ρ ⟨u, v, rfl⟩
    exact h
/-- the house of the one pay that weights make -/
def dressed (ws : List Rat) (st : List (List Deed)) : List (List Deed) := st.map fun s => s.map fun d => (d.1, [rdot ws d.2])
theorem dressed_st (ws : List Rat) (r : Rat) (st : List (List Deed)) : houseD r 1 (dressed ws st) = .tuple [fr r, .int 1, .tuple (st.map fun s => .tuple (s.map fun d => .tuple [.tuple (d.1.map pe), .tuple [fr (rdot ws d.2)]]))] := by
  unfold houseD dressed standD deedD
  simp only [List.map_map, Function.comp_def, List.map_cons, List.map_nil]
  rfl
def spWeighted : PSpec := fun ds Q => ∃ (r : Rat) (p : Nat) (st : List (List Deed)) (ws : List Rat), ds = [houseD r p st, .tuple (ws.map fr)] ∧ HouseAt (houseD r p st) ∧ GH 24 r p st ∧ st.length ≤ 10 ∧ p ≤ 10 ∧ ws.length = p ∧ (∀ w ∈ ws, Rb 24 w) ∧ Q (houseD r 1 (dressed ws st))
abbrev sp501 := spWeighted
def spWeighed : PSpec := fun ds Q => ∃ (r : Rat) (p : Nat) (st : List (List Deed)) (ws : List Rat), ds = [houseD r p st, .tuple (ws.map fr)] ∧ GH 24 r p st ∧ st.length ≤ 10 ∧ p ≤ 10 ∧ ws.length = p ∧ (∀ w ∈ ws, Rb 24 w) ∧ Q (houseD r 1 (dressed ws st))
abbrev sp500 := spWeighed
theorem ok500 {T : Tb} (h21 : T.f 21 = spDot) : ∀ ds Q, sp500 ds Q → bodyW T 7 false b500 ds Q := by
  rintro ds Q ⟨r, p, st, ws, rfl, hg, hst, hp, hl, hw, h⟩
  unfold bodyW b500
  simp! [a_house]
  refine for_inv standD st (fun pre ρ => ∃ v6 v7 v8 : Option Sl, ρ = [some (.val (houseD r p st)), some (.val (.tuple (ws.map fr))), some (.val (fr r)), some (.val (.int p)), some (.val (.tuple (st.map standD))), some (.own (pre.map fun s => .tuple (s.map fun d => .tuple [.tuple (d.1.map pe), .tuple [fr (rdot ws d.2)]]))), v6, v7, v8]) ⟨_, _, _, rfl⟩ ?_ ?_
  · rintro pre s post he ρ ⟨v6, v7, v8, rfl⟩ N' _ _ kk _
    have hs : s ∈ st := by rw [he]; simp
    simp! [items_stand]
    refine ⟨by have := congrArg List.length he; simp at this ⊢; omega, ?_⟩
    refine comp_map deedD (fun d => .tuple [.tuple (d.1.map pe), .tuple [fr (rdot ws d.2)]]) s [] (fun d hd K hK => ?_) ?_
    · have g := hg.ds s hs d hd
      simp! [a_deed, h21]
      refine ⟨.tuple (ws.map fr), .tuple (d.2.map fr), ws, d.2, 24, 24, rfl, rfl, rfl, hw, g.sz, by omega, ?_⟩
      exact hK
    · simp! []
      exact kk _ ⟨_, _, _, by rw [List.map_append]; rfl⟩
  · rintro ρ ⟨v6, v7, v8, rfl⟩
    simp! []
    rw [dressed_st] at h
    exact h
theorem ok501 {T : Tb} (h30 : T.f 30 = sp30) (h498 : T.f 498 = sp498) (h500 : T.f 500 = sp500) : ∀ ds Q, sp501 ds Q → bodyW T 0 false b501 ds Q := by
  rintro ds Q ⟨r, p, st, ws, rfl, hh, hg, hst, hp, hl, hw, h⟩
  unfold bodyW b501
  simp! [h498, sp498]
  refine ⟨_, rfl, hh, ?_⟩
  simp! [h30, sp30]
  refine ⟨r, p, st, ws, rfl, hl, ?_⟩
  simp! [h500, sp500]
  exact ⟨r, p, st, ws, rfl, hg, hst, hp, hl, hw, h⟩

/-! ### the law's own sums -/
theorem rdot_snoc : ∀ (ps : List (Rat × Rat)) (p : Rat × Rat), (ps ++ [p]).foldl (fun a q => a + q.1 * q.2) 0 = ps.foldl (fun a q => a + q.1 * q.2) 0 + p.1 * p.2 := fun ps p => by
  rw [List.foldl_append]
  rfl
theorem rb_fold {n m : Nat} {ps : List (Rat × Rat)} (h : ∀ p ∈ ps, Rb n p.1 ∧ Rb m p.2) : Rb (1 + ps.length * (n + m + 1)) (ps.foldl (fun a q => a + q.1 * q.2) 0) := by
  induction ps with
  | nil => exact Rb.zero (by omega)
  | cons p ps ih =>
    rw [List.foldl_cons, foldl_add (fun q : Rat × Rat => q.1 * q.2), Rat.zero_add, List.length_cons]
    have h1 := h p List.mem_cons_self
    refine ((h1.1.mul h1.2).add (ih fun q hq => h q (List.mem_cons_of_mem _ hq))).mono ?_
    rw [Nat.add_mul]
    omega
theorem ok37 {T : Tb} (h34 : T.f 34 = sp34) (h35 : T.f 35 = sp35) : ∀ ds Q, spDot ds Q → bodyW T 3 false b37 ds Q := by
  rintro ds Q ⟨A, B, xs, ys, n, m, rfl, hA, hB, hx, hy, hs, h⟩
  unfold bodyW b37
  simp! [hA, hB]
  rw [z2_map]
  have hl : (xs.zip ys).length ≤ xs.length := by rw [List.length_zip]; exact Nat.min_le_left _ _
  have hz : (xs.zip ys).length * (n + m + 1) ≤ 8900 := Nat.le_trans (Nat.mul_le_mul_right _ hl) hs
  have hm : ∀ p ∈ xs.zip ys, Rb n p.1 ∧ Rb m p.2 := fun p hp => ⟨hx _ (List.of_mem_zip hp).1, hy _ (List.of_mem_zip hp).2⟩
  refine for_inv (fun p : Rat × Rat => .tuple [fr p.1, fr p.2]) (xs.zip ys) (fun pre ρ => ∃ u1 u2 : Option Sl, ρ = [some (.val A), some (.val B), some (.val (fr (pre.foldl (fun a q => a + q.1 * q.2) 0))), u1, u2]) ⟨_, _, rfl⟩ ?_ ?_
  · rintro pre ⟨x, y⟩ post he ρ ⟨u1, u2, rfl⟩ N' _ _ kk _
    have hlen : (pre.length + 1) * (n + m + 1) ≤ 8900 := by
      refine Nat.le_trans (Nat.mul_le_mul_right _ ?_) hz
      rw [he]; simp
    rw [Nat.add_mul] at hlen
    have hpre : ∀ p ∈ pre, Rb n p.1 ∧ Rb m p.2 := fun p hp => hm p (by rw [he]; simp [hp])
    have hxy := hm (x, y) (by rw [he]; simp)
    simp! [h34, h35, sp34, sp35, times_at, plus_at]
    refine ⟨⟨n, m, hxy.1, hxy.2, by omega⟩, ⟨_, n + m, rb_fold hpre, hxy.1.mul hxy.2, by omega⟩, kk _ ⟨_, _, by rw [rdot_snoc]⟩⟩
  · rintro ρ ⟨u1, u2, rfl⟩
    simp! []
    exact h
theorem ok45 {T : Tb} (h37 : T.f 37 = spDot) : ∀ ds Q, sp501 ds Q → bodyW T 3 false b45 ds Q := by
  rintro ds Q ⟨r, p, st, ws, rfl, hh, hg, hst, hp, hl, hw, h⟩
  unfold bodyW b45
  simp! [ix_stands]
  refine for_inv standD st (fun pre ρ => ∃ v3 v4 : Option Sl, ρ = [some (.val (houseD r p st)), some (.val (.tuple (ws.map fr))), some (.own (pre.map fun s => .tuple (s.map fun d => .tuple [.tuple (d.1.map pe), .tuple [fr (rdot ws d.2)]]))), v3, v4]) ⟨_, _, rfl⟩ ?_ ?_
  · rintro pre s post he ρ ⟨v3, v4, rfl⟩ N' _ _ kk _
    have hs : s ∈ st := by rw [he]; simp
    simp! [items_stand]
    refine ⟨by have := congrArg List.length he; simp at this ⊢; omega, ?_⟩
    refine comp_map deedD (fun d => .tuple [.tuple (d.1.map pe), .tuple [fr (rdot ws d.2)]]) s [] (fun d hd K hK => ?_) ?_
    · have g := hg.ds s hs d hd
      simp! [ix_ch, ix_gn, h37]
      refine ⟨.tuple (ws.map fr), .tuple (d.2.map fr), ws, d.2, 24, 24, rfl, rfl, rfl, hw, g.sz, by omega, ?_⟩
      exact hK
    · simp! []
      exact kk _ ⟨_, _, by rw [List.map_append]; rfl⟩
  · rintro ρ ⟨v3, v4, rfl⟩
    simp! [ix_share]
    rw [dressed_st] at h
    exact h
/-! ### the law k02 -/
theorem dressed_gh {b : Nat} {r : Rat} {p : Nat} {st : List (List Deed)} {ws : List Rat} (hg : GH b r p st) (hl : ws.length = p) (hw : ∀ w ∈ ws, Rb b w) : GH (1 + p * (b + b + 1)) r 1 (dressed ws st) where
  nn := hg.nn
  lt := hg.lt
  sz := hg.sz
  ds := by
    intro s hs d hd
    obtain ⟨s0, hs0, rfl⟩ := List.mem_map.mp hs
    obtain ⟨d0, hd0, rfl⟩ := List.mem_map.mp hd
    have g := hg.ds s0 hs0 d0 hd0
    refine ⟨?_, rfl, ?_⟩
    · unfold dressed
      rw [List.length_map]
      exact g.ch
    · intro q hq
      simp at hq
      subst hq
      have := Rb.dot hw g.sz
      rw [hl] at this
      exact this
def spTrue0 : PSpec := fun ds Q => ds = [] ∧ Q (.bool true)
abbrev sp502 := spTrue0
theorem bls_nc {ds : List D} (h : ∀ d ∈ ds, ∃ b, d = .bool b) (hl : ds.length ≤ 100) : Nc 1 (100 * 7 + 3) (.list ds) := by
  refine (Nc.lst (n := 0) (w := 5) fun d hd => ?_).mono (by omega) (by omega)
  obtain ⟨b, rfl⟩ := h d hd
  exact Nc.bl b
theorem ok502 {T : Tb} (h1 : T.f 1 = sp1) (h497 : T.f 497 = sp497) (h499 : T.f 499 = sp499) (h501 : T.f 501 = sp501) (h39 : T.f 39 = sp39) (h42 : T.f 42 = sp42) (h44 : T.f 44 = sp44) (h45 : T.f 45 = sp501) (h50 : T.f 50 = sp23) (h52 : T.f 52 = sp52) (h56 : T.f 56 = sp56) (h57 : T.f 57 = sp57) : ∀ ds Q, sp502 ds Q → bodyW T 7 true b502 ds Q := by
  rintro ds Q ⟨rfl, h⟩
  unfold bodyW b502
  simp! [h1, h497, h499, h501, h39, h42, h44, h45, h50, h52, h56, h57, sp1, sp497, sp499, sp501, sp39, sp42, sp44, sp23, sp52, sp56, sp57]
  refine pick_of (by decide) (by decide) fun t t0 t1 => ?_
  obtain ⟨p0, rfl⟩ := Int.eq_ofNat_of_zero_le t0
  simp! []
  refine ⟨3, 3, 1 + p0, rfl, by decide, by decide, by omega, fun r st hw => ?_⟩
  have hat := hw.at (by decide) (by decide) (by omega) (by omega)
  have l1 := hw.l1
  simp! []
  refine pick_of (by decide) (by decide) fun c c0 c1 => ?_
  simp! []
  have go : ∀ r2 p2 st2, GH 24 r2 p2 st2 → st2.length ≤ 10 → p2 ≤ 6 → (∀ s ∈ st2, s.length ≤ 6) → ∀ K : D → Prop, (∀ v, bd v = true → K v) → sp56 [houseD r2 p2 st2] K := fun r2 p2 st2 hg hl hp hs K hK => by
    refine ⟨_, rfl, it_house hg (by omega) (by omega) (by decide) fun s q => by have := hs s q; omega, ?_, hK⟩
    have := (nc_house (m := 6) hg (by omega) (by decide) hs (by omega)).dep
    omega
  have rest : ∀ v2, bd v2 = true → wpSs T (.cons (.set 3 (.callS 56 (.cons (.callS 42 (.cons (.b1 .len (.ix (.var 1) (.int 2))) .nil)) .nil))) (.cons (.set 4 (.callS 39 (.cons (.ix (.var 1) (.int 1)) .nil))) (.cons (.set 5 (.lst (.cons (.call 497 (.cons (.var 1) .nil)) (.cons (.call 497 (.cons (.var 2) .nil)) (.cons (.callK 497 [0] (.cons (.var 2) .nil)) (.cons (.call 499 (.cons (.var 1) (.cons (.var 3) .nil))) .nil)))))) (.cons (.set 5 (.bin .add (.var 5) (.lst (.cons (.callK 499 [1, 0] (.cons (.var 3) (.cons (.var 1) .nil))) .nil)))) (.cons (.set 6 (.call 50 (.cons (.var 3) (.cons (.b1 .len (.ix (.var 1) (.int 2))) .nil)))) (.cons (.ifs (.cmp .ne (.b1 .repr (.var 5)) (.b1 .repr (.lst (.cons (.bl true) (.cons (.call 52 (.cons (.var 2) .nil)) (.cons (.call 52 (.cons (.var 2) .nil)) (.cons (.var 6) (.cons (.var 6) .nil)))))))) (.cons (.ret (.bl false)) .nil) .nil) (.cons (.set 7 (.lst (.cons (.call 501 (.cons (.var 1) (.cons (.var 4) .nil))) (.cons (.callK 501 [1, 0] (.cons (.var 4) (.cons (.var 1) .nil))) .nil)))) (.cons (.ret (.cmp .eq (.b1 .repr (.var 7)) (.b1 .repr (.bin .mul (.lst (.cons (.call 45 (.cons (.var 1) (.cons (.var 4) .nil))) .nil)) (.int 2))))) .nil))))))))
      [none, some (.val (houseD r (1 + p0) st)), some (.val v2), none, none, none, none, none] { nx := fun _ => Q .none, rt := Q, bk := fun _ => False, ct := fun _ => False } := fun v2 hv2 => by
    simp! [ix_stands, ix_pays, h1, h497, h499, h501, h39, h42, h44, h45, h50, h52, h56, h57, sp1, sp497, sp499, sp501, sp39, sp42, sp44, sp23, sp52, sp56, sp57, List.length_map]
    refine ⟨st.length, rfl, by have := hw.l0; omega, by omega, fun rs hrs => ?_⟩
    simp! []
    refine ⟨_, rfl, it_frs hrs.sz (by decide) (by rw [hrs.len]; omega), ?_, fun v3 hv3 => ?_⟩
    · have := (nc_frs hrs.sz (by decide)).dep
      omega
    simp! []
    refine ⟨1 + p0, rfl, by omega, fun ws hwl hws => ?_⟩
    simp! [spHouse]
    refine ⟨hat.bd, hv2, hv2, ⟨r, _, st, v3, rfl, hat, hv3, ?_⟩⟩
    simp! [List.map_cons, List.map_nil, List.getD_cons_zero, List.getD_cons_succ]
    refine ⟨r, _, st, v3, rfl, hat, hv3, ?_⟩
    simp! [bAddL, hat.is]
    refine ⟨by simp, hv3, ?_⟩
    have ncb : Nc 1 (100 * 7 + 3) (.list [.bool true, .bool (isHouse v2), .bool (isHouse v2), .bool (isOdds v3 st.length), .bool (isOdds v3 st.length)]) := bls_nc (fun d hd => by
      simp only [List.mem_cons, List.not_mem_nil, or_false] at hd
      rcases hd with rfl | rfl | rfl | rfl | rfl <;> exact ⟨_, rfl⟩) (by simp)
    refine uRepr ncb (by decide) (by decide) ⟨hv2, hv2, uRepr ncb (by decide) (by decide) (cNeS ncb.so ?_)⟩
    have dr : ∀ K : D → Prop, K (houseD r 1 (dressed ws st)) → spWeighted [houseD r (1 + p0) st, .tuple (ws.map fr)] K := fun K hK => ⟨r, 1 + p0, st, ws, rfl, hat, hw.gh, by omega, by omega, hwl, hws, hK⟩
    have g2 := dressed_gh hw.gh hwl hws
    have ncd : Nc 7 (wH 1000 3 1 3) (houseD r 1 (dressed ws st)) := by
      have e : (dressed ws st).length = st.length := by unfold dressed; rw [List.length_map]
      have b1 : 1 + (1 + p0) * (24 + 24 + 1) ≤ 1000 := by omega
      refine (nc_house (m := 3) g2 (by omega) (by omega) (fun s hs => ?_) (by decide)).mono (by omega) ?_
      · obtain ⟨s0, hs0, rfl⟩ := List.mem_map.mp hs
        rw [List.length_map]
        exact (hw.d0 s0 hs0).2
      · rw [e]
        unfold wH
        generalize hB : 1 + (1 + p0) * (24 + 24 + 1) = B at *
        have q1 : st.length * (3 * (2 * (st.length * 75 + 1 * (2 * B + 11) + 5) + 5) + 5) ≤ 3 * (3 * (2 * (3 * 75 + 1 * (2 * 1000 + 11) + 5) + 5) + 5) := Nat.mul_le_mul l1 (by omega)
        omega
    have hW : ∃ W, 2 * (W + 2) + 3 ≤ 16777216 ∧ Nc 7 W (houseD r 1 (dressed ws st)) := ⟨_, by decide +kernel, ncd⟩
    clear ncd
    obtain ⟨W, hW, ncd⟩ := hW
    have ncl : Nc 8 (2 * (W + 2) + 3) (.list [houseD r 1 (dressed ws st), houseD r 1 (dressed ws st)]) := Nc.lst (n := 7) (w := W) (ds := [houseD r 1 (dressed ws st), houseD r 1 (dressed ws st)]) fun d hd => by
      simp only [List.mem_cons, List.not_mem_nil, or_false] at hd
      rcases hd with rfl | rfl <;> exact ncd
    refine dr _ (dr _ (uRepr ncl (by decide) hW (dr _ ?_)))
    simp! [bMulL]
    refine ⟨by decide, by decide, by simp, ?_⟩
    have e2 : (List.replicate (2 : Int).toNat [houseD r 1 (dressed ws st)]).flatten = [houseD r 1 (dressed ws st), houseD r 1 (dressed ws st)] := rfl
    rw [e2]
    exact uRepr ncl (by decide) hW (cEqS ncl.so h)
  have rest2 := rest
  simp! [ix_stands, ix_pays, h1, h497, h499, h501, h39, h42, h44, h45, h50, h52, h56, h57, sp1, sp497, sp499, sp501, sp39, sp42, sp44, sp23, sp52, sp56, sp57] at rest2
  simp! [ix_stands, ix_pays]
  cases e : decide (c = 2) with
  | true =>
    simp! []
    refine ⟨rfl, fun r2 p2 st2 hg hl hp hs => ?_⟩
    exact go r2 p2 st2 hg hl hp hs _ fun v hv => rest2 v hv
  | false =>
    simp! []
    exact go r _ st hw.gh (by omega) (by omega) (fun s hs => by have := hw.d0 s hs; omega) _ fun v hv => rest2 v hv
def spLaw : PSpec := fun ds Q => ∃ ns : List Int, ds = [.list (ns.map .int)] ∧ ns.length ≤ 63 ∧ Q (.bool true)
abbrev sp503 := spLaw
theorem ok503 {T : Tb} (h32 : T.f 32 = sp32) (h502 : T.f 502 = sp502) : ∀ ds Q, sp503 ds Q → bodyW T 1 false b503 ds Q := by
  rintro ds Q ⟨ns, rfl, hl, h⟩
  unfold bodyW b503
  simp! [List.length_map]
  have c1 : (max 2 (min (ns.length : Int) 5)) ≤ 5 := by omega
  have c2 : 2 ≤ (max 2 (min (ns.length : Int) 5)) := by omega
  refine ⟨by omega, by omega, ?_⟩
  generalize max 2 (min (ns.length : Int) 5) = k at *
  obtain ⟨n, rfl⟩ := Int.eq_ofNat_of_zero_le (by omega : 0 ≤ k)
  rw [rng_map]
  refine comp_map (fun i : Nat => .int (i : Int)) (fun _ => .bool ((fun _ : Nat => true) 0)) _ [] (fun i hi K hK => ?_) ?_
  · have hi2 : i < ((n : Int)).toNat := List.mem_range.mp hi
    simp! [h32, h502]
    refine ⟨ns, i, rfl, by omega, fun x y z hx hy hz => ?_⟩
    exact ⟨x, y, z, rfl, ⟨hx, hy, hz⟩, rfl, hK⟩
  · rw [List.nil_append]
    refine uAllA (f := fun _ : Nat => true) ?_
    have : ((List.range ((n : Int)).toNat).all fun _ => true) = true := by simp
    rw [this]
    exact h
end Sp

/-! Kk02 -/
set_option Elab.async false
set_option linter.all false
set_option maxRecDepth 100000
set_option maxHeartbeats 0
namespace Kt
open PySem PySem.Spec PyProof.Rows L2 DH Bt
def k0 : Ck := ⟨["value"], defScope (top 7), (true, []), [], [], [], [], false, [], false⟩
-- is_whole
theorem c0 : chkSs k0 b14 (defBody (top 7)) = true := by decide +kernel
theorem s0 : FnScope k0.N ["value"] k0.sc := ⟨rfl, rfl, rfl, by decide +kernel, rfl, by decide +kernel, by decide +kernel⟩
def k1 : Ck := ⟨["value", "least", "greatest"], defScope (top 8), (true, []), [(14, ("is_whole" : Str), false, 1)], [], [], [], false, [], false⟩
-- is_within
theorem c1 : chkSs k1 b15 (defBody (top 8)) = true := by decide +kernel
theorem s1 : FnScope k1.N ["value", "least", "greatest"] k1.sc := ⟨rfl, rfl, rfl, by decide +kernel, rfl, by decide +kernel, by decide +kernel⟩
def k2 : Ck := ⟨["value", "many"], defScope (top 9), (true, []), [], [], [], [], false, [], false⟩
-- is_tuple
theorem c2 : chkSs k2 b16 (defBody (top 9)) = true := by decide +kernel
theorem s2 : FnScope k2.N ["value", "many"] k2.sc := ⟨rfl, rfl, rfl, by decide +kernel, rfl, by decide +kernel, by decide +kernel⟩
def k3 : Ck := ⟨["value"], defScope (top 10), (true, []), [(14, ("is_whole" : Str), false, 1), (16, ("is_tuple" : Str), false, 2)], [], [], ["gcd"], false, [], false⟩
-- is_fraction
theorem c3 : chkSs k3 b17 (defBody (top 10)) = true := by decide +kernel
theorem s3 : FnScope k3.N ["value"] k3.sc := ⟨rfl, rfl, rfl, by decide +kernel, rfl, by decide +kernel, by decide +kernel⟩
def k4 : Ck := ⟨["value"], defScope (top 11), (true, []), [(17, ("is_fraction" : Str), false, 1)], [], [], [], false, [], false⟩
-- is_from_nought
theorem c4 : chkSs k4 b18 (defBody (top 11)) = true := by decide +kernel
theorem s4 : FnScope k4.N ["value"] k4.sc := ⟨rfl, rfl, rfl, by decide +kernel, rfl, by decide +kernel, by decide +kernel⟩
def k5 : Ck := ⟨["value", "many", "each"], defScope (top 12), (true, []), [(16, ("is_tuple" : Str), false, 2), (17, ("is_fraction" : Str), false, 1)], [], [], [], false, [], false⟩
-- is_row
theorem c5 : chkSs k5 b19 (defBody (top 12)) = true := by decide +kernel
theorem s5 : FnScope k5.N ["value", "many"] k5.sc := ⟨rfl, rfl, rfl, by decide +kernel, rfl, by decide +kernel, by decide +kernel⟩
def k6 : Ck := ⟨["value", "many", "each"], defScope (top 13), (true, []), [(16, ("is_tuple" : Str), false, 2), (18, ("is_from_nought" : Str), false, 1), (22, ("total" : Str), false, 1)], [(0, ("ONE" : Str))], [], [], false, [], false⟩
-- are_odds
theorem c6 : chkSs k6 b23 (defBody (top 13)) = true := by decide +kernel
theorem s6 : FnScope k6.N ["value", "many"] k6.sc := ⟨rfl, rfl, rfl, by decide +kernel, rfl, by decide +kernel, by decide +kernel⟩
def k7 : Ck := ⟨["top", "bottom", "common"], defScope (top 14), (true, []), [], [], [], ["gcd"], false, [], false⟩
-- ratio
theorem c7 : chkSs k7 b20 (defBody (top 14)) = true := by decide +kernel
theorem s7 : FnScope k7.N ["top", "bottom"] k7.sc := ⟨rfl, rfl, rfl, by decide +kernel, rfl, by decide +kernel, by decide +kernel⟩
def k8 : Ck := ⟨["one", "two", "top", "bottom", "high", "low", "factor", "under", "below", "common"], defScope (top 15), (true, []), [(20, ("ratio" : Str), false, 2)], [], [], ["gcd"], false, [], false⟩
-- dot
theorem c8 : chkSs k8 b21 (defBody (top 15)) = true := by decide +kernel
theorem s8 : FnScope k8.N ["one", "two"] k8.sc := ⟨rfl, rfl, rfl, by decide +kernel, rfl, by decide +kernel, by decide +kernel⟩
def k9 : Ck := ⟨["row"], defScope (top 16), (true, []), [(21, ("dot" : Str), false, 2)], [(0, ("ONE" : Str))], [], [], false, [], false⟩
-- total
theorem c9 : chkSs k9 b22 (defBody (top 16)) = true := by decide +kernel
theorem s9 : FnScope k9.N ["row"] k9.sc := ⟨rfl, rfl, rfl, by decide +kernel, rfl, by decide +kernel, by decide +kernel⟩
def k10 : Ck := ⟨["value", "ways"], defScope (top 18), (true, []), [(495, ("is_frame" : Str), false, 1), (496, ("all_ways" : Str), false, 1), (24, ("are_chances" : Str), false, 2)], [], [], [], false, [], false⟩
-- is_house
theorem c10 : chkSs k10 b497 (defBody (top 18)) = true := by decide +kernel
theorem s10 : FnScope k10.N ["value"] k10.sc := ⟨rfl, rfl, rfl, by decide +kernel, rfl, by decide +kernel, by decide +kernel⟩
def k11 : Ck := ⟨["value", "share", "pays", "stands", "stand"], defScope (top 19), (true, []), [(15, ("is_within" : Str), false, 3), (16, ("is_tuple" : Str), false, 2), (18, ("is_from_nought" : Str), false, 1), (494, ("is_stand_frame" : Str), false, 2)], [], [], [], false, [], false⟩
-- is_frame
theorem c11 : chkSs k11 b495 (defBody (top 19)) = true := by decide +kernel
theorem s11 : FnScope k11.N ["value"] k11.sc := ⟨rfl, rfl, rfl, by decide +kernel, rfl, by decide +kernel, by decide +kernel⟩
def k12 : Ck := ⟨["value", "pays", "deed"], defScope (top 20), (true, []), [(15, ("is_within" : Str), false, 3), (16, ("is_tuple" : Str), false, 2), (19, ("is_row" : Str), false, 2)], [], [], [], false, [], false⟩
-- is_stand_frame
theorem c12 : chkSs k12 b494 (defBody (top 20)) = true := by decide +kernel
theorem s12 : FnScope k12.N ["value", "pays"] k12.sc := ⟨rfl, rfl, rfl, by decide +kernel, rfl, by decide +kernel, by decide +kernel⟩
def k13 : Ck := ⟨["frame", "stand", "ways", "_"], defScope (top 21), (true, []), [], [], [], [], false, [], false⟩
-- all_ways
theorem c13 : chkSs k13 b496 (defBody (top 21)) = true := by decide +kernel
theorem s13 : FnScope k13.N ["frame"] k13.sc := ⟨rfl, rfl, rfl, by decide +kernel, rfl, by decide +kernel, by decide +kernel⟩
def k14 : Ck := ⟨["value", "stands", "least", "each", "_", "chance"], defScope (top 22), (true, []), [(15, ("is_within" : Str), false, 3), (16, ("is_tuple" : Str), false, 2), (18, ("is_from_nought" : Str), false, 1), (22, ("total" : Str), false, 1)], [(0, ("ONE" : Str))], [], [], false, [], false⟩
-- are_chances
theorem c14 : chkSs k14 b24 (defBody (top 22)) = true := by decide +kernel
theorem s14 : FnScope k14.N ["value", "stands"] k14.sc := ⟨rfl, rfl, rfl, by decide +kernel, rfl, by decide +kernel, by decide +kernel⟩
def k15 : Ck := ⟨["house", "value"], defScope (top 23), (true, []), [(23, ("are_odds" : Str), false, 2), (498, ("check_house" : Str), false, 1)], [], [], [], false, [], false⟩
-- is_start
theorem c15 : chkSs k15 b499 (defBody (top 23)) = true := by decide +kernel
theorem s15 : FnScope k15.N ["house", "value"] k15.sc := ⟨rfl, rfl, rfl, by decide +kernel, rfl, by decide +kernel, by decide +kernel⟩
def k16 : Ck := ⟨["house", "weights"], defScope (top 24), (true, []), [(500, ("weighed" : Str), false, 2), (498, ("check_house" : Str), false, 1), (30, ("check_weights" : Str), false, 2)], [], [], [], false, [], false⟩
-- weighted
theorem c16 : chkSs k16 b501 (defBody (top 24)) = true := by decide +kernel
theorem s16 : FnScope k16.N ["house", "weights"] k16.sc := ⟨rfl, rfl, rfl, by decide +kernel, rfl, by decide +kernel, by decide +kernel⟩
def k17 : Ck := ⟨["frame", "weights", "share", "_", "stands", "made", "stand", "ways", "gains"], defScope (top 25), (true, []), [(21, ("dot" : Str), false, 2)], [], [], [], false, [], false⟩
-- weighed
theorem c17 : chkSs k17 b500 (defBody (top 25)) = true := by decide +kernel
theorem s17 : FnScope k17.N ["frame", "weights"] k17.sc := ⟨rfl, rfl, rfl, by decide +kernel, rfl, by decide +kernel, by decide +kernel⟩
def k18 : Ck := ⟨["house"], defScope (top 26), (true, []), [(497, ("is_house" : Str), false, 1)], [], [], [], false, [], false⟩
-- check_house
theorem c18 : chkSs k18 b498 (defBody (top 26)) = true := by decide +kernel
theorem s18 : FnScope k18.N ["house"] k18.sc := ⟨rfl, rfl, rfl, by decide +kernel, rfl, by decide +kernel, by decide +kernel⟩
def k19 : Ck := ⟨["house", "weights", "at", "weight"], defScope (top 27), (true, []), [(16, ("is_tuple" : Str), false, 2), (17, ("is_fraction" : Str), false, 1)], [], [], [], false, [], false⟩
-- check_weights
theorem c19 : chkSs k19 b30 (defBody (top 27)) = true := by decide +kernel
theorem s19 : FnScope k19.N ["house", "weights"] k19.sc := ⟨rfl, rfl, rfl, by decide +kernel, rfl, by decide +kernel, by decide +kernel⟩
def k20 : Ck := ⟨["_law_script", "_law_lap", "_law_mixed", "_law_cell", "_law_own"], defScope (top 29), (true, []), [], [], [], [], false, [], true⟩
-- _law_spring
theorem c20 : chkSs k20 b32 (defBody (top 29)) = true := by decide +kernel
theorem s20 : FnScope k20.N ["_law_script", "_law_lap"] k20.sc := ⟨rfl, rfl, rfl, by decide +kernel, rfl, by decide +kernel, by decide +kernel⟩
def k21 : Ck := ⟨["_law_spring_here", "_law_limit", "_law_digit", "_law_mixed"], defScope (top 30), (true, []), [], [], [], [], true, [], false⟩
-- _law_pick
theorem c21 : chkSs k21 b1 (defBody (top 30)) = true := by decide +kernel
theorem s21 : FnScope k21.N ["_law_spring_here", "_law_limit"] k21.sc := ⟨rfl, rfl, rfl, by decide +kernel, rfl, by decide +kernel, by decide +kernel⟩
def k22 : Ck := ⟨["_law_spring_here", "_law_some"], defScope (top 31), (true, []), [(1, ("_law_pick" : Str), true, 1)], [], [], [], true, [], false⟩
-- _law_any_of
theorem c22 : chkSs k22 b2 (defBody (top 31)) = true := by decide +kernel
theorem s22 : FnScope k22.N ["_law_spring_here", "_law_some"] k22.sc := ⟨rfl, rfl, rfl, by decide +kernel, rfl, by decide +kernel, by decide +kernel⟩
def k23 : Ck := ⟨["_law_up", "_law_down", "_law_one", "_law_two"], defScope (top 32), (true, []), [], [], [], [], false, [], false⟩
-- _law_frac
theorem c23 : chkSs k23 b33 (defBody (top 32)) = true := by decide +kernel
theorem s23 : FnScope k23.N ["_law_up", "_law_down"] k23.sc := ⟨rfl, rfl, rfl, by decide +kernel, rfl, by decide +kernel, by decide +kernel⟩
def k24 : Ck := ⟨["_law_x", "_law_y"], defScope (top 33), (true, []), [(33, ("_law_frac" : Str), false, 2)], [], [], [], false, [], false⟩
-- _law_plus
theorem c24 : chkSs k24 b34 (defBody (top 33)) = true := by decide +kernel
theorem s24 : FnScope k24.N ["_law_x", "_law_y"] k24.sc := ⟨rfl, rfl, rfl, by decide +kernel, rfl, by decide +kernel, by decide +kernel⟩
def k25 : Ck := ⟨["_law_x", "_law_y"], defScope (top 34), (true, []), [(33, ("_law_frac" : Str), false, 2)], [], [], [], false, [], false⟩
-- _law_times
theorem c25 : chkSs k25 b35 (defBody (top 34)) = true := by decide +kernel
theorem s25 : FnScope k25.N ["_law_x", "_law_y"] k25.sc := ⟨rfl, rfl, rfl, by decide +kernel, rfl, by decide +kernel, by decide +kernel⟩
def k26 : Ck := ⟨["_law_row", "_law_found", "_law_x"], defScope (top 35), (true, []), [(34, ("_law_plus" : Str), false, 2)], [], [], [], false, [], false⟩
-- _law_total
theorem c26 : chkSs k26 b36 (defBody (top 35)) = true := by decide +kernel
theorem s26 : FnScope k26.N ["_law_row"] k26.sc := ⟨rfl, rfl, rfl, by decide +kernel, rfl, by decide +kernel, by decide +kernel⟩
def k27 : Ck := ⟨["_law_one", "_law_two", "_law_found", "_law_x", "_law_y"], defScope (top 36), (true, []), [(34, ("_law_plus" : Str), false, 2), (35, ("_law_times" : Str), false, 2)], [], [], [], false, [], false⟩
-- _law_dot
theorem c27 : chkSs k27 b37 (defBody (top 36)) = true := by decide +kernel
theorem s27 : FnScope k27.N ["_law_one", "_law_two"] k27.sc := ⟨rfl, rfl, rfl, by decide +kernel, rfl, by decide +kernel, by decide +kernel⟩
def k28 : Ck := ⟨["_law_spring_here", "_law_way", "_law_under"], defScope (top 37), (true, []), [(1, ("_law_pick" : Str), true, 1), (33, ("_law_frac" : Str), false, 2)], [], [], [], true, [], false⟩
-- _law_part
theorem c28 : chkSs k28 b38 (defBody (top 37)) = true := by decide +kernel
theorem s28 : FnScope k28.N ["_law_spring_here"] k28.sc := ⟨rfl, rfl, rfl, by decide +kernel, rfl, by decide +kernel, by decide +kernel⟩
def k29 : Ck := ⟨["_law_spring_here", "_law_pays", "_law_found", "_law_go"], defScope (top 38), (true, []), [(1, ("_law_pick" : Str), true, 1), (2, ("_law_any_of" : Str), true, 1), (33, ("_law_frac" : Str), false, 2)], [], [], [], true, [], false⟩
-- _law_gains
theorem c29 : chkSs k29 b39 (defBody (top 38)) = true := by decide +kernel
theorem s29 : FnScope k29.N ["_law_spring_here", "_law_pays"] k29.sc := ⟨rfl, rfl, rfl, by decide +kernel, rfl, by decide +kernel, by decide +kernel⟩
def k30 : Ck := ⟨["_law_spring_here", "_law_wide", "_law_found", "_law_at", "_law_way"], defScope (top 39), (true, []), [(1, ("_law_pick" : Str), true, 1)], [], [], [], true, [], false⟩
-- _law_parts
theorem c30 : chkSs k30 b40 (defBody (top 39)) = true := by decide +kernel
theorem s30 : FnScope k30.N ["_law_spring_here", "_law_wide"] k30.sc := ⟨rfl, rfl, rfl, by decide +kernel, rfl, by decide +kernel, by decide +kernel⟩
def k31 : Ck := ⟨["_law_spring_here", "_law_wide", "_law_parts_here", "_law_at"], defScope (top 40), (true, []), [(33, ("_law_frac" : Str), false, 2), (40, ("_law_parts" : Str), true, 1)], [], [], [], true, [], false⟩
-- _law_chances
theorem c31 : chkSs k31 b41 (defBody (top 40)) = true := by decide +kernel
theorem s31 : FnScope k31.N ["_law_spring_here", "_law_wide"] k31.sc := ⟨rfl, rfl, rfl, by decide +kernel, rfl, by decide +kernel, by decide +kernel⟩
def k32 : Ck := ⟨["_law_spring_here", "_law_wide", "_law_parts_here", "_law_part_here"], defScope (top 41), (true, []), [(33, ("_law_frac" : Str), false, 2), (40, ("_law_parts" : Str), true, 1)], [], [], [], true, [], false⟩
-- _law_odds
theorem c32 : chkSs k32 b42 (defBody (top 41)) = true := by decide +kernel
theorem s32 : FnScope k32.N ["_law_spring_here", "_law_wide"] k32.sc := ⟨rfl, rfl, rfl, by decide +kernel, rfl, by decide +kernel, by decide +kernel⟩
def k33 : Ck := ⟨["_law_spring_here", "_law_counts", "_law_pays", "_law_share", "_law_stands", "_law_many_here", "_law_stand", "_law_go", "_law_chances_here"], defScope (top 42), (true, []), [(1, ("_law_pick" : Str), true, 1), (38, ("_law_part" : Str), true, 0), (39, ("_law_gains" : Str), true, 1), (41, ("_law_chances" : Str), true, 1)], [], [], [], true, [], false⟩
-- _law_sized
theorem c33 : chkSs k33 b43 (defBody (top 42)) = true := by decide +kernel
theorem s33 : FnScope k33.N ["_law_spring_here", "_law_counts", "_law_pays"] k33.sc := ⟨rfl, rfl, rfl, by decide +kernel, rfl, by decide +kernel, by decide +kernel⟩
def k34 : Ck := ⟨["_law_spring_here", "_law_most_here", "_law_deeds", "_law_pays", "_law_counts", "_law_go"], defScope (top 43), (true, []), [(1, ("_law_pick" : Str), true, 1), (43, ("_law_sized" : Str), true, 2)], [], [], [], true, [], false⟩
-- _law_world
theorem c34 : chkSs k34 b44 (defBody (top 43)) = true := by decide +kernel
theorem s34 : FnScope k34.N ["_law_spring_here", "_law_most_here", "_law_deeds", "_law_pays"] k34.sc := ⟨rfl, rfl, rfl, by decide +kernel, rfl, by decide +kernel, by decide +kernel⟩
def k35 : Ck := ⟨["_law_world_here", "_law_by", "_law_stands", "_law_stand", "_law_deed"], defScope (top 44), (true, []), [(37, ("_law_dot" : Str), false, 2)], [], [], [], false, [], false⟩
-- _law_dressed
theorem c35 : chkSs k35 b45 (defBody (top 44)) = true := by decide +kernel
theorem s35 : FnScope k35.N ["_law_world_here", "_law_by"] k35.sc := ⟨rfl, rfl, rfl, by decide +kernel, rfl, by decide +kernel, by decide +kernel⟩
def k36 : Ck := ⟨["_law_thing"], defScope (top 45), (true, []), [], [], [], [], false, [], false⟩
-- _law_is_whole
theorem c36 : chkSs k36 b46 (defBody (top 45)) = true := by decide +kernel
theorem s36 : FnScope k36.N ["_law_thing"] k36.sc := ⟨rfl, rfl, rfl, by decide +kernel, rfl, by decide +kernel, by decide +kernel⟩
def k37 : Ck := ⟨["_law_thing", "_law_wide"], defScope (top 46), (true, []), [], [], [], [], false, [], false⟩
-- _law_is_tuple
theorem c37 : chkSs k37 b47 (defBody (top 46)) = true := by decide +kernel
theorem s37 : FnScope k37.N ["_law_thing", "_law_wide"] k37.sc := ⟨rfl, rfl, rfl, by decide +kernel, rfl, by decide +kernel, by decide +kernel⟩
def k38 : Ck := ⟨["_law_thing"], defScope (top 47), (true, []), [(33, ("_law_frac" : Str), false, 2), (46, ("_law_is_whole" : Str), false, 1), (47, ("_law_is_tuple" : Str), false, 2)], [], [], [], false, [], false⟩
-- _law_is_frac
theorem c38 : chkSs k38 b48 (defBody (top 47)) = true := by decide +kernel
theorem s38 : FnScope k38.N ["_law_thing"] k38.sc := ⟨rfl, rfl, rfl, by decide +kernel, rfl, by decide +kernel, by decide +kernel⟩
def k39 : Ck := ⟨["_law_thing", "_law_wide", "_law_x"], defScope (top 48), (true, []), [(47, ("_law_is_tuple" : Str), false, 2), (48, ("_law_is_frac" : Str), false, 1)], [], [], [], false, [], false⟩
-- _law_is_row
theorem c39 : chkSs k39 b49 (defBody (top 48)) = true := by decide +kernel
theorem s39 : FnScope k39.N ["_law_thing", "_law_wide"] k39.sc := ⟨rfl, rfl, rfl, by decide +kernel, rfl, by decide +kernel, by decide +kernel⟩
def k40 : Ck := ⟨["_law_thing", "_law_wide", "_law_x"], defScope (top 49), (true, []), [(36, ("_law_total" : Str), false, 1), (49, ("_law_is_row" : Str), false, 2)], [], [], [], false, [], false⟩
-- _law_is_odds
theorem c40 : chkSs k40 b50 (defBody (top 49)) = true := by decide +kernel
theorem s40 : FnScope k40.N ["_law_thing", "_law_wide"] k40.sc := ⟨rfl, rfl, rfl, by decide +kernel, rfl, by decide +kernel, by decide +kernel⟩
def k41 : Ck := ⟨["_law_thing", "_law_pays", "_law_wide", "_law_last", "_law_whole", "_law_part_here"], defScope (top 50), (true, []), [(34, ("_law_plus" : Str), false, 2), (46, ("_law_is_whole" : Str), false, 1), (47, ("_law_is_tuple" : Str), false, 2), (48, ("_law_is_frac" : Str), false, 1), (49, ("_law_is_row" : Str), false, 2)], [], [], [], false, [], false⟩
-- _law_is_deed
theorem c41 : chkSs k41 b51 (defBody (top 50)) = true := by decide +kernel
theorem s41 : FnScope k41.N ["_law_thing", "_law_pays", "_law_wide"] k41.sc := ⟨rfl, rfl, rfl, by decide +kernel, rfl, by decide +kernel, by decide +kernel⟩
def k42 : Ck := ⟨["_law_thing", "_law_stand", "_law_deed"], defScope (top 51), (true, []), [(46, ("_law_is_whole" : Str), false, 1), (47, ("_law_is_tuple" : Str), false, 2), (48, ("_law_is_frac" : Str), false, 1), (51, ("_law_is_deed" : Str), false, 3)], [], [], [], false, [], false⟩
-- _law_is_world
theorem c42 : chkSs k42 b52 (defBody (top 51)) = true := by decide +kernel
theorem s42 : FnScope k42.N ["_law_thing"] k42.sc := ⟨rfl, rfl, rfl, by decide +kernel, rfl, by decide +kernel, by decide +kernel⟩
def k43 : Ck := ⟨["_law_spring_here"], defScope (top 52), (true, []), [(2, ("_law_any_of" : Str), true, 1)], [], [], [], true, [], false⟩
-- _law_odd
theorem c43 : chkSs k43 b53 (defBody (top 52)) = true := by decide +kernel
theorem s43 : FnScope k43.N ["_law_spring_here"] k43.sc := ⟨rfl, rfl, rfl, by decide +kernel, rfl, by decide +kernel, by decide +kernel⟩
def k44 : Ck := ⟨["_law_thing"], defScope (top 53), (true, []), [], [], [], [], false, [], false⟩
-- _law_twice
theorem c44 : chkSs k44 b54 (defBody (top 53)) = true := by decide +kernel
theorem s44 : FnScope k44.N ["_law_thing"] k44.sc := ⟨rfl, rfl, rfl, by decide +kernel, rfl, by decide +kernel, by decide +kernel⟩
def k45 : Ck := ⟨["_law_spring_here", "_law_thing", "_law_at", "_law_way", "_law_more"], defScope (top 54), (true, []), [(1, ("_law_pick" : Str), true, 1), (53, ("_law_odd" : Str), true, 0), (54, ("_law_twice" : Str), false, 1), (55, ("_law_bent" : Str), true, 1)], [], [], [], true, [], false⟩
-- _law_bent
theorem c45 : chkSs k45 b55 (defBody (top 54)) = true := by decide +kernel
theorem s45 : FnScope k45.N ["_law_spring_here", "_law_thing"] k45.sc := ⟨rfl, rfl, rfl, by decide +kernel, rfl, by decide +kernel, by decide +kernel⟩
def k46 : Ck := ⟨["_law_spring_here", "_law_thing", "_law_way"], defScope (top 55), (true, []), [(1, ("_law_pick" : Str), true, 1), (53, ("_law_odd" : Str), true, 0), (55, ("_law_bent" : Str), true, 1)], [], [], [], true, [], false⟩
-- _law_maybe
theorem c46 : chkSs k46 b56 (defBody (top 55)) = true := by decide +kernel
theorem s46 : FnScope k46.N ["_law_spring_here", "_law_thing"] k46.sc := ⟨rfl, rfl, rfl, by decide +kernel, rfl, by decide +kernel, by decide +kernel⟩
def k47 : Ck := ⟨["_law_spring_here", "_law_way", "_law_counts", "_law_pays", "_law_go"], defScope (top 56), (true, []), [(1, ("_law_pick" : Str), true, 1), (43, ("_law_sized" : Str), true, 2)], [], [], [], true, [], false⟩
-- _law_edge
theorem c47 : chkSs k47 b57 (defBody (top 56)) = true := by decide +kernel
theorem s47 : FnScope k47.N ["_law_spring_here"] k47.sc := ⟨rfl, rfl, rfl, by decide +kernel, rfl, by decide +kernel, by decide +kernel⟩
def k48 : Ck := ⟨["_law_spring_here", "_law_world_here", "_law_thing", "_law_begin", "_law_by", "_law_heard", "_law_due_begin", "_law_told"], defScope (top 57), (true, []), [(497, ("is_house" : Str), false, 1), (499, ("is_start" : Str), false, 2), (501, ("weighted" : Str), false, 2), (1, ("_law_pick" : Str), true, 1), (39, ("_law_gains" : Str), true, 1), (42, ("_law_odds" : Str), true, 1), (44, ("_law_world" : Str), true, 3), (45, ("_law_dressed" : Str), false, 2), (50, ("_law_is_odds" : Str), false, 2), (52, ("_law_is_world" : Str), false, 1), (56, ("_law_maybe" : Str), true, 1), (57, ("_law_edge" : Str), true, 0)], [], [(497, ["value"], [0]), (499, ["value", "house"], [1, 0]), (501, ["weights", "house"], [1, 0])], [], true, [], false⟩
-- _law_right
theorem c48 : chkSs k48 b502 (defBody (top 57)) = true := by decide +kernel
theorem s48 : FnScope k48.N ["_law_spring_here"] k48.sc := ⟨rfl, rfl, rfl, by decide +kernel, rfl, by decide +kernel, by decide +kernel⟩
def k49 : Ck := ⟨["_law_script", "_law_lap"], defScope (top 58), (true, []), [(502, ("_law_right" : Str), true, 0)], [], [], [], false, [(32, ("_law_spring" : Str), 2)], false⟩
-- law
theorem c49 : chkSs k49 b503 (defBody (top 58)) = true := by decide +kernel
theorem s49 : FnScope k49.N ["_law_script"] k49.sc := ⟨rfl, rfl, rfl, by decide +kernel, rfl, by decide +kernel, by decide +kernel⟩
end Kt

/-! Ak02 -/
set_option Elab.async false
set_option linter.all false
set_option maxRecDepth 100000
set_option maxHeartbeats 4000000
namespace Kt
open PySem PySem.Spec PyProof.Rows L2 DH Bt
/-- what each def is to promise, over its core -/
structure Specs (T : Tb) : Prop where
  g0 : T.c 0 = .tuple [.int 1, .int 1]
  s0 : ∀ ds Q, ds.length = 1 → T.f 14 ds Q → bodyW T 0 false b14 ds Q
  s2 : ∀ ds Q, ds.length = 2 → T.f 16 ds Q → bodyW T 0 false b16 ds Q
  s7 : ∀ ds Q, ds.length = 2 → T.f 20 ds Q → bodyW T 1 false b20 ds Q
  s13 : ∀ ds Q, ds.length = 1 → T.f 496 ds Q → bodyW T 3 false b496 ds Q
  s20 : ∀ ds Q, ds.length = 2 → T.f 32 ds Q → bodyN T 3 b32 ds Q
  s21 : ∀ ds Q, ds.length = 1 → T.f 1 ds Q → bodyW T 2 true b1 ds Q
  s23 : ∀ ds Q, ds.length = 2 → T.f 33 ds Q → bodyW T 2 false b33 ds Q
  s36 : ∀ ds Q, ds.length = 1 → T.f 46 ds Q → bodyW T 0 false b46 ds Q
  s37 : ∀ ds Q, ds.length = 2 → T.f 47 ds Q → bodyW T 0 false b47 ds Q
  s44 : ∀ ds Q, ds.length = 1 → T.f 54 ds Q → bodyW T 0 false b54 ds Q
  s1 : ∀ ds Q, ds.length = 3 → T.f 15 ds Q → bodyW T 0 false b15 ds Q
  s3 : ∀ ds Q, ds.length = 1 → T.f 17 ds Q → bodyW T 0 false b17 ds Q
  s8 : ∀ ds Q, ds.length = 2 → T.f 21 ds Q → bodyW T 8 false b21 ds Q
  s22 : ∀ ds Q, ds.length = 1 → T.f 2 ds Q → bodyW T 0 true b2 ds Q
  s24 : ∀ ds Q, ds.length = 2 → T.f 34 ds Q → bodyW T 0 false b34 ds Q
  s25 : ∀ ds Q, ds.length = 2 → T.f 35 ds Q → bodyW T 0 false b35 ds Q
  s28 : ∀ ds Q, ds.length = 0 → T.f 38 ds Q → bodyW T 2 true b38 ds Q
  s30 : ∀ ds Q, ds.length = 1 → T.f 40 ds Q → bodyW T 3 true b40 ds Q
  s38 : ∀ ds Q, ds.length = 1 → T.f 48 ds Q → bodyW T 0 false b48 ds Q
  s4 : ∀ ds Q, ds.length = 1 → T.f 18 ds Q → bodyW T 0 false b18 ds Q
  s5 : ∀ ds Q, ds.length = 2 → T.f 19 ds Q → bodyW T 1 false b19 ds Q
  s9 : ∀ ds Q, ds.length = 1 → T.f 22 ds Q → bodyW T 0 false b22 ds Q
  s17 : ∀ ds Q, ds.length = 2 → T.f 500 ds Q → bodyW T 7 false b500 ds Q
  s19 : ∀ ds Q, ds.length = 2 → T.f 30 ds Q → bodyW T 2 false b30 ds Q
  s26 : ∀ ds Q, ds.length = 1 → T.f 36 ds Q → bodyW T 2 false b36 ds Q
  s27 : ∀ ds Q, ds.length = 2 → T.f 37 ds Q → bodyW T 3 false b37 ds Q
  s29 : ∀ ds Q, ds.length = 1 → T.f 39 ds Q → bodyW T 2 true b39 ds Q
  s31 : ∀ ds Q, ds.length = 1 → T.f 41 ds Q → bodyW T 2 true b41 ds Q
  s32 : ∀ ds Q, ds.length = 1 → T.f 42 ds Q → bodyW T 2 true b42 ds Q
  s39 : ∀ ds Q, ds.length = 2 → T.f 49 ds Q → bodyW T 1 false b49 ds Q
  s43 : ∀ ds Q, ds.length = 0 → T.f 53 ds Q → bodyW T 0 true b53 ds Q
  s6 : ∀ ds Q, ds.length = 2 → T.f 23 ds Q → bodyW T 1 false b23 ds Q
  s12 : ∀ ds Q, ds.length = 2 → T.f 494 ds Q → bodyW T 1 false b494 ds Q
  s14 : ∀ ds Q, ds.length = 2 → T.f 24 ds Q → bodyW T 4 false b24 ds Q
  s33 : ∀ ds Q, ds.length = 2 → T.f 43 ds Q → bodyW T 6 true b43 ds Q
  s35 : ∀ ds Q, ds.length = 2 → T.f 45 ds Q → bodyW T 3 false b45 ds Q
  s40 : ∀ ds Q, ds.length = 2 → T.f 50 ds Q → bodyW T 1 false b50 ds Q
  s41 : ∀ ds Q, ds.length = 3 → T.f 51 ds Q → bodyW T 3 false b51 ds Q
  r45 : ∃ B : Nat → PSpec, (∀ ds Q, ¬ B 0 ds Q) ∧ T.f 55 = B 12 ∧ ∀ m ds Q, ds.length = 1 → B (m + 1) ds Q → bodyW (T.up 55 (B m)) 3 true b55 ds Q
  s11 : ∀ ds Q, ds.length = 1 → T.f 495 ds Q → bodyW T 4 false b495 ds Q
  s34 : ∀ ds Q, ds.length = 3 → T.f 44 ds Q → bodyW T 2 true b44 ds Q
  s42 : ∀ ds Q, ds.length = 1 → T.f 52 ds Q → bodyW T 2 false b52 ds Q
  s47 : ∀ ds Q, ds.length = 0 → T.f 57 ds Q → bodyW T 4 true b57 ds Q
  s10 : ∀ ds Q, ds.length = 1 → T.f 497 ds Q → bodyW T 1 false b497 ds Q
  s18 : ∀ ds Q, ds.length = 1 → T.f 498 ds Q → bodyW T 0 false b498 ds Q
  s15 : ∀ ds Q, ds.length = 2 → T.f 499 ds Q → bodyW T 0 false b499 ds Q
  s16 : ∀ ds Q, ds.length = 2 → T.f 501 ds Q → bodyW T 0 false b501 ds Q
  s46 : ∀ ds Q, ds.length = 1 → T.f 56 ds Q → bodyW T 1 true b56 ds Q
  s48 : ∀ ds Q, ds.length = 0 → T.f 502 ds Q → bodyW T 7 true b502 ds Q
  s49 : ∀ ds Q, ds.length = 1 → T.f 503 ds Q → bodyW T 1 false b503 ds Q
section
variable {P : Program} {w : World} {K : PySem.W.Frag} {h base : Heap} {mg : Str → Option Value} {T : Tb}
/-- the facts in hand -/
structure Fx (P : Program) (w : World) (K : PySem.W.Frag) (mg : Str → Option Value) (T : Tb) : Prop where
  S : Specs T
  bt : ∀ x, x ∈ blts → mg x = none
  c0 : ∃ v u, mg "ONE" = some u ∧ RelV v u ∧ ∀ M H, Rp K M H (T.c 0) v
  m_gcd : mg "gcd" = some (.builtin "math.gcd")
  d0 : ∃ fd, mg "is_whole" = some (.ref (He.fAd K ("is_whole", none))) ∧ FunD K "is_whole" "is_whole" (defArgs (top 7)) (defBody (top 7)) (defScope (top 7)) [] [] (He.fAd K ("is_whole", none)) fd
  d2 : ∃ fd, mg "is_tuple" = some (.ref (He.fAd K ("is_tuple", none))) ∧ FunD K "is_tuple" "is_tuple" (defArgs (top 9)) (defBody (top 9)) (defScope (top 9)) [] [] (He.fAd K ("is_tuple", none)) fd
  d7 : ∃ fd, mg "ratio" = some (.ref (He.fAd K ("ratio", none))) ∧ FunD K "ratio" "ratio" (defArgs (top 14)) (defBody (top 14)) (defScope (top 14)) [] [] (He.fAd K ("ratio", none)) fd
  d13 : ∃ fd, mg "all_ways" = some (.ref (He.fAd K ("all_ways", none))) ∧ FunD K "all_ways" "all_ways" (defArgs (top 21)) (defBody (top 21)) (defScope (top 21)) [] [] (He.fAd K ("all_ways", none)) fd
  d20 : ∃ fd, mg "_law_spring" = some (.ref (He.fAd K ("_law_spring", none))) ∧ FunD K "_law_spring" "_law_spring" (defArgs (top 29)) (defBody (top 29)) (defScope (top 29)) [] [] (He.fAd K ("_law_spring", none)) fd
  d21 : ∃ fd, mg "_law_pick" = some (.ref (He.fAd K ("_law_pick", none))) ∧ FunD K "_law_pick" "_law_pick" (defArgs (top 30)) (defBody (top 30)) (defScope (top 30)) [] [] (He.fAd K ("_law_pick", none)) fd
  d23 : ∃ fd, mg "_law_frac" = some (.ref (He.fAd K ("_law_frac", none))) ∧ FunD K "_law_frac" "_law_frac" (defArgs (top 32)) (defBody (top 32)) (defScope (top 32)) [] [] (He.fAd K ("_law_frac", none)) fd
  d36 : ∃ fd, mg "_law_is_whole" = some (.ref (He.fAd K ("_law_is_whole", none))) ∧ FunD K "_law_is_whole" "_law_is_whole" (defArgs (top 45)) (defBody (top 45)) (defScope (top 45)) [] [] (He.fAd K ("_law_is_whole", none)) fd
  d37 : ∃ fd, mg "_law_is_tuple" = some (.ref (He.fAd K ("_law_is_tuple", none))) ∧ FunD K "_law_is_tuple" "_law_is_tuple" (defArgs (top 46)) (defBody (top 46)) (defScope (top 46)) [] [] (He.fAd K ("_law_is_tuple", none)) fd
  d44 : ∃ fd, mg "_law_twice" = some (.ref (He.fAd K ("_law_twice", none))) ∧ FunD K "_law_twice" "_law_twice" (defArgs (top 53)) (defBody (top 53)) (defScope (top 53)) [] [] (He.fAd K ("_law_twice", none)) fd
  d1 : ∃ fd, mg "is_within" = some (.ref (He.fAd K ("is_within", none))) ∧ FunD K "is_within" "is_within" (defArgs (top 8)) (defBody (top 8)) (defScope (top 8)) [] [] (He.fAd K ("is_within", none)) fd
  d3 : ∃ fd, mg "is_fraction" = some (.ref (He.fAd K ("is_fraction", none))) ∧ FunD K "is_fraction" "is_fraction" (defArgs (top 10)) (defBody (top 10)) (defScope (top 10)) [] [] (He.fAd K ("is_fraction", none)) fd
  d8 : ∃ fd, mg "dot" = some (.ref (He.fAd K ("dot", none))) ∧ FunD K "dot" "dot" (defArgs (top 15)) (defBody (top 15)) (defScope (top 15)) [] [] (He.fAd K ("dot", none)) fd
  d22 : ∃ fd, mg "_law_any_of" = some (.ref (He.fAd K ("_law_any_of", none))) ∧ FunD K "_law_any_of" "_law_any_of" (defArgs (top 31)) (defBody (top 31)) (defScope (top 31)) [] [] (He.fAd K ("_law_any_of", none)) fd
  d24 : ∃ fd, mg "_law_plus" = some (.ref (He.fAd K ("_law_plus", none))) ∧ FunD K "_law_plus" "_law_plus" (defArgs (top 33)) (defBody (top 33)) (defScope (top 33)) [] [] (He.fAd K ("_law_plus", none)) fd
  d25 : ∃ fd, mg "_law_times" = some (.ref (He.fAd K ("_law_times", none))) ∧ FunD K "_law_times" "_law_times" (defArgs (top 34)) (defBody (top 34)) (defScope (top 34)) [] [] (He.fAd K ("_law_times", none)) fd
  d28 : ∃ fd, mg "_law_part" = some (.ref (He.fAd K ("_law_part", none))) ∧ FunD K "_law_part" "_law_part" (defArgs (top 37)) (defBody (top 37)) (defScope (top 37)) [] [] (He.fAd K ("_law_part", none)) fd
  d30 : ∃ fd, mg "_law_parts" = some (.ref (He.fAd K ("_law_parts", none))) ∧ FunD K "_law_parts" "_law_parts" (defArgs (top 39)) (defBody (top 39)) (defScope (top 39)) [] [] (He.fAd K ("_law_parts", none)) fd
  d38 : ∃ fd, mg "_law_is_frac" = some (.ref (He.fAd K ("_law_is_frac", none))) ∧ FunD K "_law_is_frac" "_law_is_frac" (defArgs (top 47)) (defBody (top 47)) (defScope (top 47)) [] [] (He.fAd K ("_law_is_frac", none)) fd
  d4 : ∃ fd, mg "is_from_nought" = some (.ref (He.fAd K ("is_from_nought", none))) ∧ FunD K "is_from_nought" "is_from_nought" (defArgs (top 11)) (defBody (top 11)) (defScope (top 11)) [] [] (He.fAd K ("is_from_nought", none)) fd
  d5 : ∃ fd, mg "is_row" = some (.ref (He.fAd K ("is_row", none))) ∧ FunD K "is_row" "is_row" (defArgs (top 12)) (defBody (top 12)) (defScope (top 12)) [] [] (He.fAd K ("is_row", none)) fd
  d9 : ∃ fd, mg "total" = some (.ref (He.fAd K ("total", none))) ∧ FunD K "total" "total" (defArgs (top 16)) (defBody (top 16)) (defScope (top 16)) [] [] (He.fAd K ("total", none)) fd
  d17 : ∃ fd, mg "weighed" = some (.ref (He.fAd K ("weighed", none))) ∧ FunD K "weighed" "weighed" (defArgs (top 25)) (defBody (top 25)) (defScope (top 25)) [] [] (He.fAd K ("weighed", none)) fd
  d19 : ∃ fd, mg "check_weights" = some (.ref (He.fAd K ("check_weights", none))) ∧ FunD K "check_weights" "check_weights" (defArgs (top 27)) (defBody (top 27)) (defScope (top 27)) [] [] (He.fAd K ("check_weights", none)) fd
  d26 : ∃ fd, mg "_law_total" = some (.ref (He.fAd K ("_law_total", none))) ∧ FunD K "_law_total" "_law_total" (defArgs (top 35)) (defBody (top 35)) (defScope (top 35)) [] [] (He.fAd K ("_law_total", none)) fd
  d27 : ∃ fd, mg "_law_dot" = some (.ref (He.fAd K ("_law_dot", none))) ∧ FunD K "_law_dot" "_law_dot" (defArgs (top 36)) (defBody (top 36)) (defScope (top 36)) [] [] (He.fAd K ("_law_dot", none)) fd
  d29 : ∃ fd, mg "_law_gains" = some (.ref (He.fAd K ("_law_gains", none))) ∧ FunD K "_law_gains" "_law_gains" (defArgs (top 38)) (defBody (top 38)) (defScope (top 38)) [] [] (He.fAd K ("_law_gains", none)) fd
  d31 : ∃ fd, mg "_law_chances" = some (.ref (He.fAd K ("_law_chances", none))) ∧ FunD K "_law_chances" "_law_chances" (defArgs (top 40)) (defBody (top 40)) (defScope (top 40)) [] [] (He.fAd K ("_law_chances", none)) fd
  d32 : ∃ fd, mg "_law_odds" = some (.ref (He.fAd K ("_law_odds", none))) ∧ FunD K "_law_odds" "_law_odds" (defArgs (top 41)) (defBody (top 41)) (defScope (top 41)) [] [] (He.fAd K ("_law_odds", none)) fd
  d39 : ∃ fd, mg "_law_is_row" = some (.ref (He.fAd K ("_law_is_row", none))) ∧ FunD K "_law_is_row" "_law_is_row" (defArgs (top 48)) (defBody (top 48)) (defScope (top 48)) [] [] (He.fAd K ("_law_is_row", none)) fd
  d43 : ∃ fd, mg "_law_odd" = some (.ref (He.fAd K ("_law_odd", none))) ∧ FunD K "_law_odd" "_law_odd" (defArgs (top 52)) (defBody (top 52)) (defScope (top 52)) [] [] (He.fAd K ("_law_odd", none)) fd
  d6 : ∃ fd, mg "are_odds" = some (.ref (He.fAd K ("are_odds", none))) ∧ FunD K "are_odds" "are_odds" (defArgs (top 13)) (defBody (top 13)) (defScope (top 13)) [] [] (He.fAd K ("are_odds", none)) fd
  d12 : ∃ fd, mg "is_stand_frame" = some (.ref (He.fAd K ("is_stand_frame", none))) ∧ FunD K "is_stand_frame" "is_stand_frame" (defArgs (top 20)) (defBody (top 20)) (defScope (top 20)) [] [] (He.fAd K ("is_stand_frame", none)) fd
  d14 : ∃ fd, mg "are_chances" = some (.ref (He.fAd K ("are_chances", none))) ∧ FunD K "are_chances" "are_chances" (defArgs (top 22)) (defBody (top 22)) (defScope (top 22)) [] [] (He.fAd K ("are_chances", none)) fd
  d33 : ∃ fd, mg "_law_sized" = some (.ref (He.fAd K ("_law_sized", none))) ∧ FunD K "_law_sized" "_law_sized" (defArgs (top 42)) (defBody (top 42)) (defScope (top 42)) [] [] (He.fAd K ("_law_sized", none)) fd
  d35 : ∃ fd, mg "_law_dressed" = some (.ref (He.fAd K ("_law_dressed", none))) ∧ FunD K "_law_dressed" "_law_dressed" (defArgs (top 44)) (defBody (top 44)) (defScope (top 44)) [] [] (He.fAd K ("_law_dressed", none)) fd
  d40 : ∃ fd, mg "_law_is_odds" = some (.ref (He.fAd K ("_law_is_odds", none))) ∧ FunD K "_law_is_odds" "_law_is_odds" (defArgs (top 49)) (defBody (top 49)) (defScope (top 49)) [] [] (He.fAd K ("_law_is_odds", none)) fd
  d41 : ∃ fd, mg "_law_is_deed" = some (.ref (He.fAd K ("_law_is_deed", none))) ∧ FunD K "_law_is_deed" "_law_is_deed" (defArgs (top 50)) (defBody (top 50)) (defScope (top 50)) [] [] (He.fAd K ("_law_is_deed", none)) fd
  d45 : ∃ fd, mg "_law_bent" = some (.ref (He.fAd K ("_law_bent", none))) ∧ FunD K "_law_bent" "_law_bent" (defArgs (top 54)) (defBody (top 54)) (defScope (top 54)) [] [] (He.fAd K ("_law_bent", none)) fd
  d11 : ∃ fd, mg "is_frame" = some (.ref (He.fAd K ("is_frame", none))) ∧ FunD K "is_frame" "is_frame" (defArgs (top 19)) (defBody (top 19)) (defScope (top 19)) [] [] (He.fAd K ("is_frame", none)) fd
  d34 : ∃ fd, mg "_law_world" = some (.ref (He.fAd K ("_law_world", none))) ∧ FunD K "_law_world" "_law_world" (defArgs (top 43)) (defBody (top 43)) (defScope (top 43)) [] [] (He.fAd K ("_law_world", none)) fd
  d42 : ∃ fd, mg "_law_is_world" = some (.ref (He.fAd K ("_law_is_world", none))) ∧ FunD K "_law_is_world" "_law_is_world" (defArgs (top 51)) (defBody (top 51)) (defScope (top 51)) [] [] (He.fAd K ("_law_is_world", none)) fd
  d47 : ∃ fd, mg "_law_edge" = some (.ref (He.fAd K ("_law_edge", none))) ∧ FunD K "_law_edge" "_law_edge" (defArgs (top 56)) (defBody (top 56)) (defScope (top 56)) [] [] (He.fAd K ("_law_edge", none)) fd
  d10 : ∃ fd, mg "is_house" = some (.ref (He.fAd K ("is_house", none))) ∧ FunD K "is_house" "is_house" (defArgs (top 18)) (defBody (top 18)) (defScope (top 18)) [] [] (He.fAd K ("is_house", none)) fd
  d18 : ∃ fd, mg "check_house" = some (.ref (He.fAd K ("check_house", none))) ∧ FunD K "check_house" "check_house" (defArgs (top 26)) (defBody (top 26)) (defScope (top 26)) [] [] (He.fAd K ("check_house", none)) fd
  d15 : ∃ fd, mg "is_start" = some (.ref (He.fAd K ("is_start", none))) ∧ FunD K "is_start" "is_start" (defArgs (top 23)) (defBody (top 23)) (defScope (top 23)) [] [] (He.fAd K ("is_start", none)) fd
  d16 : ∃ fd, mg "weighted" = some (.ref (He.fAd K ("weighted", none))) ∧ FunD K "weighted" "weighted" (defArgs (top 24)) (defBody (top 24)) (defScope (top 24)) [] [] (He.fAd K ("weighted", none)) fd
  d46 : ∃ fd, mg "_law_maybe" = some (.ref (He.fAd K ("_law_maybe", none))) ∧ FunD K "_law_maybe" "_law_maybe" (defArgs (top 55)) (defBody (top 55)) (defScope (top 55)) [] [] (He.fAd K ("_law_maybe", none)) fd
  d48 : ∃ fd, mg "_law_right" = some (.ref (He.fAd K ("_law_right", none))) ∧ FunD K "_law_right" "_law_right" (defArgs (top 57)) (defBody (top 57)) (defScope (top 57)) [] [] (He.fAd K ("_law_right", none)) fd
  d49 : ∃ fd, mg "law" = some (.ref (He.fAd K ("law", none))) ∧ FunD K "law" "law" (defArgs (top 58)) (defBody (top 58)) (defScope (top 58)) [] [] (He.fAd K ("law", none)) fd
theorem a0 (X : Fx P w K mg T) : ∃ fd, mg "is_whole" = some (.ref (He.fAd K ("is_whole", none))) ∧ PySem.W.keepIn K (.ref (He.fAd K ("is_whole", none))) = true ∧ Binds K fd ["value"] [] ∧ FnG P w K mg base CX0 1 (He.fAd K ("is_whole", none)) fd ["value"] (spG K false 1 (T.f 14)) := by
  obtain ⟨fd, e, F⟩ := X.d0
  have Bn : Binds K fd ["value"] [] := F.bindsN fun _ _ _ _ _ _ us hl => match us, hl with | [_], _ => rfl
  exact ⟨fd, e, F.kp, Bn, fn_imp (fn_def (k := k0) (b := b14) (n := 1) (lv := 0) F s0 rfl (wd_of (k := k0) (T := T) (lv := 0) (trivial : HasF _ _ _ _ _ k0.W (T) (0) k0.F) (trivial : HasS _ _ _ _ _ (T) (0) k0.S) (trivial : HasC _ _ (T) k0.C) (trivial : HasM _ k0.mth) X.bt) rfl c0) X.S.s0⟩
theorem a2 (X : Fx P w K mg T) : ∃ fd, mg "is_tuple" = some (.ref (He.fAd K ("is_tuple", none))) ∧ PySem.W.keepIn K (.ref (He.fAd K ("is_tuple", none))) = true ∧ Binds K fd ["value", "many"] [] ∧ FnG P w K mg base CX0 1 (He.fAd K ("is_tuple", none)) fd ["value", "many"] (spG K false 2 (T.f 16)) := by
  obtain ⟨fd, e, F⟩ := X.d2
  have Bn : Binds K fd ["value", "many"] [] := F.bindsN fun _ _ _ _ _ _ us hl => match us, hl with | [_, _], _ => rfl
  exact ⟨fd, e, F.kp, Bn, fn_imp (fn_def (k := k2) (b := b16) (n := 2) (lv := 0) F s2 rfl (wd_of (k := k2) (T := T) (lv := 0) (trivial : HasF _ _ _ _ _ k2.W (T) (0) k2.F) (trivial : HasS _ _ _ _ _ (T) (0) k2.S) (trivial : HasC _ _ (T) k2.C) (trivial : HasM _ k2.mth) X.bt) rfl c2) X.S.s2⟩
theorem a7 (X : Fx P w K mg T) : ∃ fd, mg "ratio" = some (.ref (He.fAd K ("ratio", none))) ∧ PySem.W.keepIn K (.ref (He.fAd K ("ratio", none))) = true ∧ Binds K fd ["top", "bottom"] [] ∧ FnG P w K mg base CX0 1 (He.fAd K ("ratio", none)) fd ["top", "bottom"] (spG K false 2 (T.f 20)) := by
  obtain ⟨fd, e, F⟩ := X.d7
  have Bn : Binds K fd ["top", "bottom"] [] := F.bindsN fun _ _ _ _ _ _ us hl => match us, hl with | [_, _], _ => rfl
  exact ⟨fd, e, F.kp, Bn, fn_imp (fn_def (k := k7) (b := b20) (n := 2) (lv := 0) F s7 rfl (wd_of (k := k7) (T := T) (lv := 0) (trivial : HasF _ _ _ _ _ k7.W (T) (0) k7.F) (trivial : HasS _ _ _ _ _ (T) (0) k7.S) (trivial : HasC _ _ (T) k7.C) (⟨⟨fun z => (by first | exact X.m_gcd | cases z), fun z => (by first | exact X.m_gcd | cases z)⟩, trivial⟩ : HasM _ k7.mth) X.bt) rfl c7) X.S.s7⟩
theorem a13 (X : Fx P w K mg T) : ∃ fd, mg "all_ways" = some (.ref (He.fAd K ("all_ways", none))) ∧ PySem.W.keepIn K (.ref (He.fAd K ("all_ways", none))) = true ∧ Binds K fd ["frame"] [] ∧ FnG P w K mg base CX0 1 (He.fAd K ("all_ways", none)) fd ["frame"] (spG K false 1 (T.f 496)) := by
  obtain ⟨fd, e, F⟩ := X.d13
  have Bn : Binds K fd ["frame"] [] := F.bindsN fun _ _ _ _ _ _ us hl => match us, hl with | [_], _ => rfl
  exact ⟨fd, e, F.kp, Bn, fn_imp (fn_def (k := k13) (b := b496) (n := 1) (lv := 0) F s13 rfl (wd_of (k := k13) (T := T) (lv := 0) (trivial : HasF _ _ _ _ _ k13.W (T) (0) k13.F) (trivial : HasS _ _ _ _ _ (T) (0) k13.S) (trivial : HasC _ _ (T) k13.C) (trivial : HasM _ k13.mth) X.bt) rfl c13) X.S.s13⟩
theorem a20 (X : Fx P w K mg T) : ∃ fd, mg "_law_spring" = some (.ref (He.fAd K ("_law_spring", none))) ∧ PySem.W.keepIn K (.ref (He.fAd K ("_law_spring", none))) = true ∧ Binds K fd ["_law_script", "_law_lap"] [] ∧ FnG P w K mg base CX0 1 (He.fAd K ("_law_spring", none)) fd ["_law_script", "_law_lap"] (spN K 2 (T.f 32)) := by
  obtain ⟨fd, e, F⟩ := X.d20
  have Bn : Binds K fd ["_law_script", "_law_lap"] [] := F.bindsN fun _ _ _ _ _ _ us hl => match us, hl with | [_, _], _ => rfl
  exact ⟨fd, e, F.kp, Bn, fn_impN (fn_new (k := k20) (b := b32) (lv := 0) F s20 rfl (wd_of (k := k20) (T := T) (lv := 0) (trivial : HasF _ _ _ _ _ k20.W (T) (0) k20.F) (trivial : HasS _ _ _ _ _ (T) (0) k20.S) (trivial : HasC _ _ (T) k20.C) (trivial : HasM _ k20.mth) X.bt) rfl c20) X.S.s20⟩
theorem a21 (X : Fx P w K mg T) : ∃ fd, mg "_law_pick" = some (.ref (He.fAd K ("_law_pick", none))) ∧ PySem.W.keepIn K (.ref (He.fAd K ("_law_pick", none))) = true ∧ Binds K fd ["_law_spring_here", "_law_limit"] [] ∧ FnG P w K mg base CX0 1 (He.fAd K ("_law_pick", none)) fd ["_law_spring_here", "_law_limit"] (spG K true 1 (T.f 1)) := by
  obtain ⟨fd, e, F⟩ := X.d21
  have Bn : Binds K fd ["_law_spring_here", "_law_limit"] [] := F.bindsN fun _ _ _ _ _ _ us hl => match us, hl with | [_, _], _ => rfl
  exact ⟨fd, e, F.kp, Bn, fn_imp (fn_def (k := k21) (b := b1) (n := 1) (lv := 0) F s21 rfl (wd_of (k := k21) (T := T) (lv := 0) (trivial : HasF _ _ _ _ _ k21.W (T) (0) k21.F) (trivial : HasS _ _ _ _ _ (T) (0) k21.S) (trivial : HasC _ _ (T) k21.C) (trivial : HasM _ k21.mth) X.bt) rfl c21) X.S.s21⟩
theorem a23 (X : Fx P w K mg T) : ∃ fd, mg "_law_frac" = some (.ref (He.fAd K ("_law_frac", none))) ∧ PySem.W.keepIn K (.ref (He.fAd K ("_law_frac", none))) = true ∧ Binds K fd ["_law_up", "_law_down"] [] ∧ FnG P w K mg base CX0 1 (He.fAd K ("_law_frac", none)) fd ["_law_up", "_law_down"] (spG K false 2 (T.f 33)) := by
  obtain ⟨fd, e, F⟩ := X.d23
  have Bn : Binds K fd ["_law_up", "_law_down"] [] := F.bindsN fun _ _ _ _ _ _ us hl => match us, hl with | [_, _], _ => rfl
  exact ⟨fd, e, F.kp, Bn, fn_imp (fn_def (k := k23) (b := b33) (n := 2) (lv := 0) F s23 rfl (wd_of (k := k23) (T := T) (lv := 0) (trivial : HasF _ _ _ _ _ k23.W (T) (0) k23.F) (trivial : HasS _ _ _ _ _ (T) (0) k23.S) (trivial : HasC _ _ (T) k23.C) (trivial : HasM _ k23.mth) X.bt) rfl c23) X.S.s23⟩
theorem a36 (X : Fx P w K mg T) : ∃ fd, mg "_law_is_whole" = some (.ref (He.fAd K ("_law_is_whole", none))) ∧ PySem.W.keepIn K (.ref (He.fAd K ("_law_is_whole", none))) = true ∧ Binds K fd ["_law_thing"] [] ∧ FnG P w K mg base CX0 1 (He.fAd K ("_law_is_whole", none)) fd ["_law_thing"] (spG K false 1 (T.f 46)) := by
  obtain ⟨fd, e, F⟩ := X.d36
  have Bn : Binds K fd ["_law_thing"] [] := F.bindsN fun _ _ _ _ _ _ us hl => match us, hl with | [_], _ => rfl
  exact ⟨fd, e, F.kp, Bn, fn_imp (fn_def (k := k36) (b := b46) (n := 1) (lv := 0) F s36 rfl (wd_of (k := k36) (T := T) (lv := 0) (trivial : HasF _ _ _ _ _ k36.W (T) (0) k36.F) (trivial : HasS _ _ _ _ _ (T) (0) k36.S) (trivial : HasC _ _ (T) k36.C) (trivial : HasM _ k36.mth) X.bt) rfl c36) X.S.s36⟩
theorem a37 (X : Fx P w K mg T) : ∃ fd, mg "_law_is_tuple" = some (.ref (He.fAd K ("_law_is_tuple", none))) ∧ PySem.W.keepIn K (.ref (He.fAd K ("_law_is_tuple", none))) = true ∧ Binds K fd ["_law_thing", "_law_wide"] [] ∧ FnG P w K mg base CX0 1 (He.fAd K ("_law_is_tuple", none)) fd ["_law_thing", "_law_wide"] (spG K false 2 (T.f 47)) := by
  obtain ⟨fd, e, F⟩ := X.d37
  have Bn : Binds K fd ["_law_thing", "_law_wide"] [] := F.bindsN fun _ _ _ _ _ _ us hl => match us, hl with | [_, _], _ => rfl
  exact ⟨fd, e, F.kp, Bn, fn_imp (fn_def (k := k37) (b := b47) (n := 2) (lv := 0) F s37 rfl (wd_of (k := k37) (T := T) (lv := 0) (trivial : HasF _ _ _ _ _ k37.W (T) (0) k37.F) (trivial : HasS _ _ _ _ _ (T) (0) k37.S) (trivial : HasC _ _ (T) k37.C) (trivial : HasM _ k37.mth) X.bt) rfl c37) X.S.s37⟩
theorem a44 (X : Fx P w K mg T) : ∃ fd, mg "_law_twice" = some (.ref (He.fAd K ("_law_twice", none))) ∧ PySem.W.keepIn K (.ref (He.fAd K ("_law_twice", none))) = true ∧ Binds K fd ["_law_thing"] [] ∧ FnG P w K mg base CX0 1 (He.fAd K ("_law_twice", none)) fd ["_law_thing"] (spG K false 1 (T.f 54)) := by
  obtain ⟨fd, e, F⟩ := X.d44
  have Bn : Binds K fd ["_law_thing"] [] := F.bindsN fun _ _ _ _ _ _ us hl => match us, hl with | [_], _ => rfl
  exact ⟨fd, e, F.kp, Bn, fn_imp (fn_def (k := k44) (b := b54) (n := 1) (lv := 0) F s44 rfl (wd_of (k := k44) (T := T) (lv := 0) (trivial : HasF _ _ _ _ _ k44.W (T) (0) k44.F) (trivial : HasS _ _ _ _ _ (T) (0) k44.S) (trivial : HasC _ _ (T) k44.C) (trivial : HasM _ k44.mth) X.bt) rfl c44) X.S.s44⟩
theorem a1 (X : Fx P w K mg T) : ∃ fd, mg "is_within" = some (.ref (He.fAd K ("is_within", none))) ∧ PySem.W.keepIn K (.ref (He.fAd K ("is_within", none))) = true ∧ Binds K fd ["value", "least", "greatest"] [] ∧ FnG P w K mg base CX0 2 (He.fAd K ("is_within", none)) fd ["value", "least", "greatest"] (spG K false 3 (T.f 15)) := by
  obtain ⟨fd, e, F⟩ := X.d1
  obtain ⟨fd0, e0, k0_, n0, G0⟩ := a0 (base := base) X
  have Bn : Binds K fd ["value", "least", "greatest"] [] := F.bindsN fun _ _ _ _ _ _ us hl => match us, hl with | [_, _, _], _ => rfl
  exact ⟨fd, e, F.kp, Bn, fn_imp (fn_def (k := k1) (b := b15) (n := 3) (lv := 1) F s1 rfl (wd_of (k := k1) (T := T) (lv := 1) (⟨⟨_, _, ["value"], e0, k0_, n0, G0.mono (by omega), rfl, fun z hz => by cases hz⟩, trivial⟩ : HasF _ _ _ _ _ k1.W (T) (1) k1.F) (trivial : HasS _ _ _ _ _ (T) (1) k1.S) (trivial : HasC _ _ (T) k1.C) (trivial : HasM _ k1.mth) X.bt) rfl c1) X.S.s1⟩
theorem a3 (X : Fx P w K mg T) : ∃ fd, mg "is_fraction" = some (.ref (He.fAd K ("is_fraction", none))) ∧ PySem.W.keepIn K (.ref (He.fAd K ("is_fraction", none))) = true ∧ Binds K fd ["value"] [] ∧ FnG P w K mg base CX0 2 (He.fAd K ("is_fraction", none)) fd ["value"] (spG K false 1 (T.f 17)) := by
  obtain ⟨fd, e, F⟩ := X.d3
  obtain ⟨fd0, e0, k0_, n0, G0⟩ := a0 (base := base) X
  obtain ⟨fd2, e2, k2_, n2, G2⟩ := a2 (base := base) X
  have Bn : Binds K fd ["value"] [] := F.bindsN fun _ _ _ _ _ _ us hl => match us, hl with | [_], _ => rfl
  exact ⟨fd, e, F.kp, Bn, fn_imp (fn_def (k := k3) (b := b17) (n := 1) (lv := 1) F s3 rfl (wd_of (k := k3) (T := T) (lv := 1) (⟨⟨_, _, ["value"], e0, k0_, n0, G0.mono (by omega), rfl, fun z hz => by cases hz⟩, ⟨_, _, ["value", "many"], e2, k2_, n2, G2.mono (by omega), rfl, fun z hz => by cases hz⟩, trivial⟩ : HasF _ _ _ _ _ k3.W (T) (1) k3.F) (trivial : HasS _ _ _ _ _ (T) (1) k3.S) (trivial : HasC _ _ (T) k3.C) (⟨⟨fun z => (by first | exact X.m_gcd | cases z), fun z => (by first | exact X.m_gcd | cases z)⟩, trivial⟩ : HasM _ k3.mth) X.bt) rfl c3) X.S.s3⟩
theorem a8 (X : Fx P w K mg T) : ∃ fd, mg "dot" = some (.ref (He.fAd K ("dot", none))) ∧ PySem.W.keepIn K (.ref (He.fAd K ("dot", none))) = true ∧ Binds K fd ["one", "two"] [] ∧ FnG P w K mg base CX0 2 (He.fAd K ("dot", none)) fd ["one", "two"] (spG K false 2 (T.f 21)) := by
  obtain ⟨fd, e, F⟩ := X.d8
  obtain ⟨fd7, e7, k7_, n7, G7⟩ := a7 (base := base) X
  have Bn : Binds K fd ["one", "two"] [] := F.bindsN fun _ _ _ _ _ _ us hl => match us, hl with | [_, _], _ => rfl
  exact ⟨fd, e, F.kp, Bn, fn_imp (fn_def (k := k8) (b := b21) (n := 2) (lv := 1) F s8 rfl (wd_of (k := k8) (T := T) (lv := 1) (⟨⟨_, _, ["top", "bottom"], e7, k7_, n7, G7.mono (by omega), rfl, fun z hz => by cases hz⟩, trivial⟩ : HasF _ _ _ _ _ k8.W (T) (1) k8.F) (trivial : HasS _ _ _ _ _ (T) (1) k8.S) (trivial : HasC _ _ (T) k8.C) (⟨⟨fun z => (by first | exact X.m_gcd | cases z), fun z => (by first | exact X.m_gcd | cases z)⟩, trivial⟩ : HasM _ k8.mth) X.bt) rfl c8) X.S.s8⟩
theorem a22 (X : Fx P w K mg T) : ∃ fd, mg "_law_any_of" = some (.ref (He.fAd K ("_law_any_of", none))) ∧ PySem.W.keepIn K (.ref (He.fAd K ("_law_any_of", none))) = true ∧ Binds K fd ["_law_spring_here", "_law_some"] [] ∧ FnG P w K mg base CX0 2 (He.fAd K ("_law_any_of", none)) fd ["_law_spring_here", "_law_some"] (spG K true 1 (T.f 2)) := by
  obtain ⟨fd, e, F⟩ := X.d22
  obtain ⟨fd21, e21, k21_, n21, G21⟩ := a21 (base := base) X
  have Bn : Binds K fd ["_law_spring_here", "_law_some"] [] := F.bindsN fun _ _ _ _ _ _ us hl => match us, hl with | [_, _], _ => rfl
  exact ⟨fd, e, F.kp, Bn, fn_imp (fn_def (k := k22) (b := b2) (n := 1) (lv := 1) F s22 rfl (wd_of (k := k22) (T := T) (lv := 1) (⟨⟨_, _, ["_law_spring_here", "_law_limit"], e21, k21_, n21, G21.mono (by omega), rfl, fun z hz => by cases hz⟩, trivial⟩ : HasF _ _ _ _ _ k22.W (T) (1) k22.F) (trivial : HasS _ _ _ _ _ (T) (1) k22.S) (trivial : HasC _ _ (T) k22.C) (trivial : HasM _ k22.mth) X.bt) rfl c22) X.S.s22⟩
theorem a24 (X : Fx P w K mg T) : ∃ fd, mg "_law_plus" = some (.ref (He.fAd K ("_law_plus", none))) ∧ PySem.W.keepIn K (.ref (He.fAd K ("_law_plus", none))) = true ∧ Binds K fd ["_law_x", "_law_y"] [] ∧ FnG P w K mg base CX0 2 (He.fAd K ("_law_plus", none)) fd ["_law_x", "_law_y"] (spG K false 2 (T.f 34)) := by
  obtain ⟨fd, e, F⟩ := X.d24
  obtain ⟨fd23, e23, k23_, n23, G23⟩ := a23 (base := base) X
  have Bn : Binds K fd ["_law_x", "_law_y"] [] := F.bindsN fun _ _ _ _ _ _ us hl => match us, hl with | [_, _], _ => rfl
  exact ⟨fd, e, F.kp, Bn, fn_imp (fn_def (k := k24) (b := b34) (n := 2) (lv := 1) F s24 rfl (wd_of (k := k24) (T := T) (lv := 1) (⟨⟨_, _, ["_law_up", "_law_down"], e23, k23_, n23, G23.mono (by omega), rfl, fun z hz => by cases hz⟩, trivial⟩ : HasF _ _ _ _ _ k24.W (T) (1) k24.F) (trivial : HasS _ _ _ _ _ (T) (1) k24.S) (trivial : HasC _ _ (T) k24.C) (trivial : HasM _ k24.mth) X.bt) rfl c24) X.S.s24⟩
theorem a25 (X : Fx P w K mg T) : ∃ fd, mg "_law_times" = some (.ref (He.fAd K ("_law_times", none))) ∧ PySem.W.keepIn K (.ref (He.fAd K ("_law_times", none))) = true ∧ Binds K fd ["_law_x", "_law_y"] [] ∧ FnG P w K mg base CX0 2 (He.fAd K ("_law_times", none)) fd ["_law_x", "_law_y"] (spG K false 2 (T.f 35)) := by
  obtain ⟨fd, e, F⟩ := X.d25
  obtain ⟨fd23, e23, k23_, n23, G23⟩ := a23 (base := base) X
  have Bn : Binds K fd ["_law_x", "_law_y"] [] := F.bindsN fun _ _ _ _ _ _ us hl => match us, hl with | [_, _], _ => rfl
  exact ⟨fd, e, F.kp, Bn, fn_imp (fn_def (k := k25) (b := b35) (n := 2) (lv := 1) F s25 rfl (wd_of (k := k25) (T := T) (lv := 1) (⟨⟨_, _, ["_law_up", "_law_down"], e23, k23_, n23, G23.mono (by omega), rfl, fun z hz => by cases hz⟩, trivial⟩ : HasF _ _ _ _ _ k25.W (T) (1) k25.F) (trivial : HasS _ _ _ _ _ (T) (1) k25.S) (trivial : HasC _ _ (T) k25.C) (trivial : HasM _ k25.mth) X.bt) rfl c25) X.S.s25⟩
theorem a28 (X : Fx P w K mg T) : ∃ fd, mg "_law_part" = some (.ref (He.fAd K ("_law_part", none))) ∧ PySem.W.keepIn K (.ref (He.fAd K ("_law_part", none))) = true ∧ Binds K fd ["_law_spring_here"] [] ∧ FnG P w K mg base CX0 2 (He.fAd K ("_law_part", none)) fd ["_law_spring_here"] (spG K true 0 (T.f 38)) := by
  obtain ⟨fd, e, F⟩ := X.d28
  obtain ⟨fd21, e21, k21_, n21, G21⟩ := a21 (base := base) X
  obtain ⟨fd23, e23, k23_, n23, G23⟩ := a23 (base := base) X
  have Bn : Binds K fd ["_law_spring_here"] [] := F.bindsN fun _ _ _ _ _ _ us hl => match us, hl with | [_], _ => rfl
  exact ⟨fd, e, F.kp, Bn, fn_imp (fn_def (k := k28) (b := b38) (n := 0) (lv := 1) F s28 rfl (wd_of (k := k28) (T := T) (lv := 1) (⟨⟨_, _, ["_law_spring_here", "_law_limit"], e21, k21_, n21, G21.mono (by omega), rfl, fun z hz => by cases hz⟩, ⟨_, _, ["_law_up", "_law_down"], e23, k23_, n23, G23.mono (by omega), rfl, fun z hz => by cases hz⟩, trivial⟩ : HasF _ _ _ _ _ k28.W (T) (1) k28.F) (trivial : HasS _ _ _ _ _ (T) (1) k28.S) (trivial : HasC _ _ (T) k28.C) (trivial : HasM _ k28.mth) X.bt) rfl c28) X.S.s28⟩
theorem a30 (X : Fx P w K mg T) : ∃ fd, mg "_law_parts" = some (.ref (He.fAd K ("_law_parts", none))) ∧ PySem.W.keepIn K (.ref (He.fAd K ("_law_parts", none))) = true ∧ Binds K fd ["_law_spring_here", "_law_wide"] [] ∧ FnG P w K mg base CX0 2 (He.fAd K ("_law_parts", none)) fd ["_law_spring_here", "_law_wide"] (spG K true 1 (T.f 40)) := by
  obtain ⟨fd, e, F⟩ := X.d30
  obtain ⟨fd21, e21, k21_, n21, G21⟩ := a21 (base := base) X
  have Bn : Binds K fd ["_law_spring_here", "_law_wide"] [] := F.bindsN fun _ _ _ _ _ _ us hl => match us, hl with | [_, _], _ => rfl
  exact ⟨fd, e, F.kp, Bn, fn_imp (fn_def (k := k30) (b := b40) (n := 1) (lv := 1) F s30 rfl (wd_of (k := k30) (T := T) (lv := 1) (⟨⟨_, _, ["_law_spring_here", "_law_limit"], e21, k21_, n21, G21.mono (by omega), rfl, fun z hz => by cases hz⟩, trivial⟩ : HasF _ _ _ _ _ k30.W (T) (1) k30.F) (trivial : HasS _ _ _ _ _ (T) (1) k30.S) (trivial : HasC _ _ (T) k30.C) (trivial : HasM _ k30.mth) X.bt) rfl c30) X.S.s30⟩
theorem a38 (X : Fx P w K mg T) : ∃ fd, mg "_law_is_frac" = some (.ref (He.fAd K ("_law_is_frac", none))) ∧ PySem.W.keepIn K (.ref (He.fAd K ("_law_is_frac", none))) = true ∧ Binds K fd ["_law_thing"] [] ∧ FnG P w K mg base CX0 2 (He.fAd K ("_law_is_frac", none)) fd ["_law_thing"] (spG K false 1 (T.f 48)) := by
  obtain ⟨fd, e, F⟩ := X.d38
  obtain ⟨fd23, e23, k23_, n23, G23⟩ := a23 (base := base) X
  obtain ⟨fd36, e36, k36_, n36, G36⟩ := a36 (base := base) X
  obtain ⟨fd37, e37, k37_, n37, G37⟩ := a37 (base := base) X
  have Bn : Binds K fd ["_law_thing"] [] := F.bindsN fun _ _ _ _ _ _ us hl => match us, hl with | [_], _ => rfl
  exact ⟨fd, e, F.kp, Bn, fn_imp (fn_def (k := k38) (b := b48) (n := 1) (lv := 1) F s38 rfl (wd_of (k := k38) (T := T) (lv := 1) (⟨⟨_, _, ["_law_up", "_law_down"], e23, k23_, n23, G23.mono (by omega), rfl, fun z hz => by cases hz⟩, ⟨_, _, ["_law_thing"], e36, k36_, n36, G36.mono (by omega), rfl, fun z hz => by cases hz⟩, ⟨_, _, ["_law_thing", "_law_wide"], e37, k37_, n37, G37.mono (by omega), rfl, fun z hz => by cases hz⟩, trivial⟩ : HasF _ _ _ _ _ k38.W (T) (1) k38.F) (trivial : HasS _ _ _ _ _ (T) (1) k38.S) (trivial : HasC _ _ (T) k38.C) (trivial : HasM _ k38.mth) X.bt) rfl c38) X.S.s38⟩
theorem a4 (X : Fx P w K mg T) : ∃ fd, mg "is_from_nought" = some (.ref (He.fAd K ("is_from_nought", none))) ∧ PySem.W.keepIn K (.ref (He.fAd K ("is_from_nought", none))) = true ∧ Binds K fd ["value"] [] ∧ FnG P w K mg base CX0 3 (He.fAd K ("is_from_nought", none)) fd ["value"] (spG K false 1 (T.f 18)) := by
  obtain ⟨fd, e, F⟩ := X.d4
  obtain ⟨fd3, e3, k3_, n3, G3⟩ := a3 (base := base) X
  have Bn : Binds K fd ["value"] [] := F.bindsN fun _ _ _ _ _ _ us hl => match us, hl with | [_], _ => rfl
  exact ⟨fd, e, F.kp, Bn, fn_imp (fn_def (k := k4) (b := b18) (n := 1) (lv := 2) F s4 rfl (wd_of (k := k4) (T := T) (lv := 2) (⟨⟨_, _, ["value"], e3, k3_, n3, G3.mono (by omega), rfl, fun z hz => by cases hz⟩, trivial⟩ : HasF _ _ _ _ _ k4.W (T) (2) k4.F) (trivial : HasS _ _ _ _ _ (T) (2) k4.S) (trivial : HasC _ _ (T) k4.C) (trivial : HasM _ k4.mth) X.bt) rfl c4) X.S.s4⟩
theorem a5 (X : Fx P w K mg T) : ∃ fd, mg "is_row" = some (.ref (He.fAd K ("is_row", none))) ∧ PySem.W.keepIn K (.ref (He.fAd K ("is_row", none))) = true ∧ Binds K fd ["value", "many"] [] ∧ FnG P w K mg base CX0 3 (He.fAd K ("is_row", none)) fd ["value", "many"] (spG K false 2 (T.f 19)) := by
  obtain ⟨fd, e, F⟩ := X.d5
  obtain ⟨fd2, e2, k2_, n2, G2⟩ := a2 (base := base) X
  obtain ⟨fd3, e3, k3_, n3, G3⟩ := a3 (base := base) X
  have Bn : Binds K fd ["value", "many"] [] := F.bindsN fun _ _ _ _ _ _ us hl => match us, hl with | [_, _], _ => rfl
  exact ⟨fd, e, F.kp, Bn, fn_imp (fn_def (k := k5) (b := b19) (n := 2) (lv := 2) F s5 rfl (wd_of (k := k5) (T := T) (lv := 2) (⟨⟨_, _, ["value", "many"], e2, k2_, n2, G2.mono (by omega), rfl, fun z hz => by cases hz⟩, ⟨_, _, ["value"], e3, k3_, n3, G3.mono (by omega), rfl, fun z hz => by cases hz⟩, trivial⟩ : HasF _ _ _ _ _ k5.W (T) (2) k5.F) (trivial : HasS _ _ _ _ _ (T) (2) k5.S) (trivial : HasC _ _ (T) k5.C) (trivial : HasM _ k5.mth) X.bt) rfl c5) X.S.s5⟩
theorem a9 (X : Fx P w K mg T) : ∃ fd, mg "total" = some (.ref (He.fAd K ("total", none))) ∧ PySem.W.keepIn K (.ref (He.fAd K ("total", none))) = true ∧ Binds K fd ["row"] [] ∧ FnG P w K mg base CX0 3 (He.fAd K ("total", none)) fd ["row"] (spG K false 1 (T.f 22)) := by
  obtain ⟨fd, e, F⟩ := X.d9
  obtain ⟨fd8, e8, k8_, n8, G8⟩ := a8 (base := base) X
  have Bn : Binds K fd ["row"] [] := F.bindsN fun _ _ _ _ _ _ us hl => match us, hl with | [_], _ => rfl
  exact ⟨fd, e, F.kp, Bn, fn_imp (fn_def (k := k9) (b := b22) (n := 1) (lv := 2) F s9 rfl (wd_of (k := k9) (T := T) (lv := 2) (⟨⟨_, _, ["one", "two"], e8, k8_, n8, G8.mono (by omega), rfl, fun z hz => by cases hz⟩, trivial⟩ : HasF _ _ _ _ _ k9.W (T) (2) k9.F) (trivial : HasS _ _ _ _ _ (T) (2) k9.S) (⟨X.c0, trivial⟩ : HasC _ _ (T) k9.C) (trivial : HasM _ k9.mth) X.bt) rfl c9) X.S.s9⟩
theorem a17 (X : Fx P w K mg T) : ∃ fd, mg "weighed" = some (.ref (He.fAd K ("weighed", none))) ∧ PySem.W.keepIn K (.ref (He.fAd K ("weighed", none))) = true ∧ Binds K fd ["frame", "weights"] [] ∧ FnG P w K mg base CX0 3 (He.fAd K ("weighed", none)) fd ["frame", "weights"] (spG K false 2 (T.f 500)) := by
  obtain ⟨fd, e, F⟩ := X.d17
  obtain ⟨fd8, e8, k8_, n8, G8⟩ := a8 (base := base) X
  have Bn : Binds K fd ["frame", "weights"] [] := F.bindsN fun _ _ _ _ _ _ us hl => match us, hl with | [_, _], _ => rfl
  exact ⟨fd, e, F.kp, Bn, fn_imp (fn_def (k := k17) (b := b500) (n := 2) (lv := 2) F s17 rfl (wd_of (k := k17) (T := T) (lv := 2) (⟨⟨_, _, ["one", "two"], e8, k8_, n8, G8.mono (by omega), rfl, fun z hz => by cases hz⟩, trivial⟩ : HasF _ _ _ _ _ k17.W (T) (2) k17.F) (trivial : HasS _ _ _ _ _ (T) (2) k17.S) (trivial : HasC _ _ (T) k17.C) (trivial : HasM _ k17.mth) X.bt) rfl c17) X.S.s17⟩
theorem a19 (X : Fx P w K mg T) : ∃ fd, mg "check_weights" = some (.ref (He.fAd K ("check_weights", none))) ∧ PySem.W.keepIn K (.ref (He.fAd K ("check_weights", none))) = true ∧ Binds K fd ["house", "weights"] [] ∧ FnG P w K mg base CX0 3 (He.fAd K ("check_weights", none)) fd ["house", "weights"] (spG K false 2 (T.f 30)) := by
  obtain ⟨fd, e, F⟩ := X.d19
  obtain ⟨fd2, e2, k2_, n2, G2⟩ := a2 (base := base) X
  obtain ⟨fd3, e3, k3_, n3, G3⟩ := a3 (base := base) X
  have Bn : Binds K fd ["house", "weights"] [] := F.bindsN fun _ _ _ _ _ _ us hl => match us, hl with | [_, _], _ => rfl
  exact ⟨fd, e, F.kp, Bn, fn_imp (fn_def (k := k19) (b := b30) (n := 2) (lv := 2) F s19 rfl (wd_of (k := k19) (T := T) (lv := 2) (⟨⟨_, _, ["value", "many"], e2, k2_, n2, G2.mono (by omega), rfl, fun z hz => by cases hz⟩, ⟨_, _, ["value"], e3, k3_, n3, G3.mono (by omega), rfl, fun z hz => by cases hz⟩, trivial⟩ : HasF _ _ _ _ _ k19.W (T) (2) k19.F) (trivial : HasS _ _ _ _ _ (T) (2) k19.S) (trivial : HasC _ _ (T) k19.C) (trivial : HasM _ k19.mth) X.bt) rfl c19) X.S.s19⟩
theorem a26 (X : Fx P w K mg T) : ∃ fd, mg "_law_total" = some (.ref (He.fAd K ("_law_total", none))) ∧ PySem.W.keepIn K (.ref (He.fAd K ("_law_total", none))) = true ∧ Binds K fd ["_law_row"] [] ∧ FnG P w K mg base CX0 3 (He.fAd K ("_law_total", none)) fd ["_law_row"] (spG K false 1 (T.f 36)) := by
  obtain ⟨fd, e, F⟩ := X.d26
  obtain ⟨fd24, e24, k24_, n24, G24⟩ := a24 (base := base) X
  have Bn : Binds K fd ["_law_row"] [] := F.bindsN fun _ _ _ _ _ _ us hl => match us, hl with | [_], _ => rfl
  exact ⟨fd, e, F.kp, Bn, fn_imp (fn_def (k := k26) (b := b36) (n := 1) (lv := 2) F s26 rfl (wd_of (k := k26) (T := T) (lv := 2) (⟨⟨_, _, ["_law_x", "_law_y"], e24, k24_, n24, G24.mono (by omega), rfl, fun z hz => by cases hz⟩, trivial⟩ : HasF _ _ _ _ _ k26.W (T) (2) k26.F) (trivial : HasS _ _ _ _ _ (T) (2) k26.S) (trivial : HasC _ _ (T) k26.C) (trivial : HasM _ k26.mth) X.bt) rfl c26) X.S.s26⟩
theorem a27 (X : Fx P w K mg T) : ∃ fd, mg "_law_dot" = some (.ref (He.fAd K ("_law_dot", none))) ∧ PySem.W.keepIn K (.ref (He.fAd K ("_law_dot", none))) = true ∧ Binds K fd ["_law_one", "_law_two"] [] ∧ FnG P w K mg base CX0 3 (He.fAd K ("_law_dot", none)) fd ["_law_one", "_law_two"] (spG K false 2 (T.f 37)) := by
  obtain ⟨fd, e, F⟩ := X.d27
  obtain ⟨fd24, e24, k24_, n24, G24⟩ := a24 (base := base) X
  obtain ⟨fd25, e25, k25_, n25, G25⟩ := a25 (base := base) X
  have Bn : Binds K fd ["_law_one", "_law_two"] [] := F.bindsN fun _ _ _ _ _ _ us hl => match us, hl with | [_, _], _ => rfl
  exact ⟨fd, e, F.kp, Bn, fn_imp (fn_def (k := k27) (b := b37) (n := 2) (lv := 2) F s27 rfl (wd_of (k := k27) (T := T) (lv := 2) (⟨⟨_, _, ["_law_x", "_law_y"], e24, k24_, n24, G24.mono (by omega), rfl, fun z hz => by cases hz⟩, ⟨_, _, ["_law_x", "_law_y"], e25, k25_, n25, G25.mono (by omega), rfl, fun z hz => by cases hz⟩, trivial⟩ : HasF _ _ _ _ _ k27.W (T) (2) k27.F) (trivial : HasS _ _ _ _ _ (T) (2) k27.S) (trivial : HasC _ _ (T) k27.C) (trivial : HasM _ k27.mth) X.bt) rfl c27) X.S.s27⟩
theorem a29 (X : Fx P w K mg T) : ∃ fd, mg "_law_gains" = some (.ref (He.fAd K ("_law_gains", none))) ∧ PySem.W.keepIn K (.ref (He.fAd K ("_law_gains", none))) = true ∧ Binds K fd ["_law_spring_here", "_law_pays"] [] ∧ FnG P w K mg base CX0 3 (He.fAd K ("_law_gains", none)) fd ["_law_spring_here", "_law_pays"] (spG K true 1 (T.f 39)) := by
  obtain ⟨fd, e, F⟩ := X.d29
  obtain ⟨fd21, e21, k21_, n21, G21⟩ := a21 (base := base) X
  obtain ⟨fd22, e22, k22_, n22, G22⟩ := a22 (base := base) X
  obtain ⟨fd23, e23, k23_, n23, G23⟩ := a23 (base := base) X
  have Bn : Binds K fd ["_law_spring_here", "_law_pays"] [] := F.bindsN fun _ _ _ _ _ _ us hl => match us, hl with | [_, _], _ => rfl
  exact ⟨fd, e, F.kp, Bn, fn_imp (fn_def (k := k29) (b := b39) (n := 1) (lv := 2) F s29 rfl (wd_of (k := k29) (T := T) (lv := 2) (⟨⟨_, _, ["_law_spring_here", "_law_limit"], e21, k21_, n21, G21.mono (by omega), rfl, fun z hz => by cases hz⟩, ⟨_, _, ["_law_spring_here", "_law_some"], e22, k22_, n22, G22.mono (by omega), rfl, fun z hz => by cases hz⟩, ⟨_, _, ["_law_up", "_law_down"], e23, k23_, n23, G23.mono (by omega), rfl, fun z hz => by cases hz⟩, trivial⟩ : HasF _ _ _ _ _ k29.W (T) (2) k29.F) (trivial : HasS _ _ _ _ _ (T) (2) k29.S) (trivial : HasC _ _ (T) k29.C) (trivial : HasM _ k29.mth) X.bt) rfl c29) X.S.s29⟩
theorem a31 (X : Fx P w K mg T) : ∃ fd, mg "_law_chances" = some (.ref (He.fAd K ("_law_chances", none))) ∧ PySem.W.keepIn K (.ref (He.fAd K ("_law_chances", none))) = true ∧ Binds K fd ["_law_spring_here", "_law_wide"] [] ∧ FnG P w K mg base CX0 3 (He.fAd K ("_law_chances", none)) fd ["_law_spring_here", "_law_wide"] (spG K true 1 (T.f 41)) := by
  obtain ⟨fd, e, F⟩ := X.d31
  obtain ⟨fd23, e23, k23_, n23, G23⟩ := a23 (base := base) X
  obtain ⟨fd30, e30, k30_, n30, G30⟩ := a30 (base := base) X
  have Bn : Binds K fd ["_law_spring_here", "_law_wide"] [] := F.bindsN fun _ _ _ _ _ _ us hl => match us, hl with | [_, _], _ => rfl
  exact ⟨fd, e, F.kp, Bn, fn_imp (fn_def (k := k31) (b := b41) (n := 1) (lv := 2) F s31 rfl (wd_of (k := k31) (T := T) (lv := 2) (⟨⟨_, _, ["_law_up", "_law_down"], e23, k23_, n23, G23.mono (by omega), rfl, fun z hz => by cases hz⟩, ⟨_, _, ["_law_spring_here", "_law_wide"], e30, k30_, n30, G30.mono (by omega), rfl, fun z hz => by cases hz⟩, trivial⟩ : HasF _ _ _ _ _ k31.W (T) (2) k31.F) (trivial : HasS _ _ _ _ _ (T) (2) k31.S) (trivial : HasC _ _ (T) k31.C) (trivial : HasM _ k31.mth) X.bt) rfl c31) X.S.s31⟩
theorem a32 (X : Fx P w K mg T) : ∃ fd, mg "_law_odds" = some (.ref (He.fAd K ("_law_odds", none))) ∧ PySem.W.keepIn K (.ref (He.fAd K ("_law_odds", none))) = true ∧ Binds K fd ["_law_spring_here", "_law_wide"] [] ∧ FnG P w K mg base CX0 3 (He.fAd K ("_law_odds", none)) fd ["_law_spring_here", "_law_wide"] (spG K true 1 (T.f 42)) := by
  obtain ⟨fd, e, F⟩ := X.d32
  obtain ⟨fd23, e23, k23_, n23, G23⟩ := a23 (base := base) X
  obtain ⟨fd30, e30, k30_, n30, G30⟩ := a30 (base := base) X
  have Bn : Binds K fd ["_law_spring_here", "_law_wide"] [] := F.bindsN fun _ _ _ _ _ _ us hl => match us, hl with | [_, _], _ => rfl
  exact ⟨fd, e, F.kp, Bn, fn_imp (fn_def (k := k32) (b := b42) (n := 1) (lv := 2) F s32 rfl (wd_of (k := k32) (T := T) (lv := 2) (⟨⟨_, _, ["_law_up", "_law_down"], e23, k23_, n23, G23.mono (by omega), rfl, fun z hz => by cases hz⟩, ⟨_, _, ["_law_spring_here", "_law_wide"], e30, k30_, n30, G30.mono (by omega), rfl, fun z hz => by cases hz⟩, trivial⟩ : HasF _ _ _ _ _ k32.W (T) (2) k32.F) (trivial : HasS _ _ _ _ _ (T) (2) k32.S) (trivial : HasC _ _ (T) k32.C) (trivial : HasM _ k32.mth) X.bt) rfl c32) X.S.s32⟩
theorem a39 (X : Fx P w K mg T) : ∃ fd, mg "_law_is_row" = some (.ref (He.fAd K ("_law_is_row", none))) ∧ PySem.W.keepIn K (.ref (He.fAd K ("_law_is_row", none))) = true ∧ Binds K fd ["_law_thing", "_law_wide"] [] ∧ FnG P w K mg base CX0 3 (He.fAd K ("_law_is_row", none)) fd ["_law_thing", "_law_wide"] (spG K false 2 (T.f 49)) := by
  obtain ⟨fd, e, F⟩ := X.d39
  obtain ⟨fd37, e37, k37_, n37, G37⟩ := a37 (base := base) X
  obtain ⟨fd38, e38, k38_, n38, G38⟩ := a38 (base := base) X
  have Bn : Binds K fd ["_law_thing", "_law_wide"] [] := F.bindsN fun _ _ _ _ _ _ us hl => match us, hl with | [_, _], _ => rfl
  exact ⟨fd, e, F.kp, Bn, fn_imp (fn_def (k := k39) (b := b49) (n := 2) (lv := 2) F s39 rfl (wd_of (k := k39) (T := T) (lv := 2) (⟨⟨_, _, ["_law_thing", "_law_wide"], e37, k37_, n37, G37.mono (by omega), rfl, fun z hz => by cases hz⟩, ⟨_, _, ["_law_thing"], e38, k38_, n38, G38.mono (by omega), rfl, fun z hz => by cases hz⟩, trivial⟩ : HasF _ _ _ _ _ k39.W (T) (2) k39.F) (trivial : HasS _ _ _ _ _ (T) (2) k39.S) (trivial : HasC _ _ (T) k39.C) (trivial : HasM _ k39.mth) X.bt) rfl c39) X.S.s39⟩
theorem a43 (X : Fx P w K mg T) : ∃ fd, mg "_law_odd" = some (.ref (He.fAd K ("_law_odd", none))) ∧ PySem.W.keepIn K (.ref (He.fAd K ("_law_odd", none))) = true ∧ Binds K fd ["_law_spring_here"] [] ∧ FnG P w K mg base CX0 3 (He.fAd K ("_law_odd", none)) fd ["_law_spring_here"] (spG K true 0 (T.f 53)) := by
  obtain ⟨fd, e, F⟩ := X.d43
  obtain ⟨fd22, e22, k22_, n22, G22⟩ := a22 (base := base) X
  have Bn : Binds K fd ["_law_spring_here"] [] := F.bindsN fun _ _ _ _ _ _ us hl => match us, hl with | [_], _ => rfl
  exact ⟨fd, e, F.kp, Bn, fn_imp (fn_def (k := k43) (b := b53) (n := 0) (lv := 2) F s43 rfl (wd_of (k := k43) (T := T) (lv := 2) (⟨⟨_, _, ["_law_spring_here", "_law_some"], e22, k22_, n22, G22.mono (by omega), rfl, fun z hz => by cases hz⟩, trivial⟩ : HasF _ _ _ _ _ k43.W (T) (2) k43.F) (trivial : HasS _ _ _ _ _ (T) (2) k43.S) (trivial : HasC _ _ (T) k43.C) (trivial : HasM _ k43.mth) X.bt) rfl c43) X.S.s43⟩
theorem a6 (X : Fx P w K mg T) : ∃ fd, mg "are_odds" = some (.ref (He.fAd K ("are_odds", none))) ∧ PySem.W.keepIn K (.ref (He.fAd K ("are_odds", none))) = true ∧ Binds K fd ["value", "many"] [] ∧ FnG P w K mg base CX0 4 (He.fAd K ("are_odds", none)) fd ["value", "many"] (spG K false 2 (T.f 23)) := by
  obtain ⟨fd, e, F⟩ := X.d6
  obtain ⟨fd2, e2, k2_, n2, G2⟩ := a2 (base := base) X
  obtain ⟨fd4, e4, k4_, n4, G4⟩ := a4 (base := base) X
  obtain ⟨fd9, e9, k9_, n9, G9⟩ := a9 (base := base) X
  have Bn : Binds K fd ["value", "many"] [] := F.bindsN fun _ _ _ _ _ _ us hl => match us, hl with | [_, _], _ => rfl
  exact ⟨fd, e, F.kp, Bn, fn_imp (fn_def (k := k6) (b := b23) (n := 2) (lv := 3) F s6 rfl (wd_of (k := k6) (T := T) (lv := 3) (⟨⟨_, _, ["value", "many"], e2, k2_, n2, G2.mono (by omega), rfl, fun z hz => by cases hz⟩, ⟨_, _, ["value"], e4, k4_, n4, G4.mono (by omega), rfl, fun z hz => by cases hz⟩, ⟨_, _, ["row"], e9, k9_, n9, G9.mono (by omega), rfl, fun z hz => by cases hz⟩, trivial⟩ : HasF _ _ _ _ _ k6.W (T) (3) k6.F) (trivial : HasS _ _ _ _ _ (T) (3) k6.S) (⟨X.c0, trivial⟩ : HasC _ _ (T) k6.C) (trivial : HasM _ k6.mth) X.bt) rfl c6) X.S.s6⟩
theorem a12 (X : Fx P w K mg T) : ∃ fd, mg "is_stand_frame" = some (.ref (He.fAd K ("is_stand_frame", none))) ∧ PySem.W.keepIn K (.ref (He.fAd K ("is_stand_frame", none))) = true ∧ Binds K fd ["value", "pays"] [] ∧ FnG P w K mg base CX0 4 (He.fAd K ("is_stand_frame", none)) fd ["value", "pays"] (spG K false 2 (T.f 494)) := by
  obtain ⟨fd, e, F⟩ := X.d12
  obtain ⟨fd1, e1, k1_, n1, G1⟩ := a1 (base := base) X
  obtain ⟨fd2, e2, k2_, n2, G2⟩ := a2 (base := base) X
  obtain ⟨fd5, e5, k5_, n5, G5⟩ := a5 (base := base) X
  have Bn : Binds K fd ["value", "pays"] [] := F.bindsN fun _ _ _ _ _ _ us hl => match us, hl with | [_, _], _ => rfl
  exact ⟨fd, e, F.kp, Bn, fn_imp (fn_def (k := k12) (b := b494) (n := 2) (lv := 3) F s12 rfl (wd_of (k := k12) (T := T) (lv := 3) (⟨⟨_, _, ["value", "least", "greatest"], e1, k1_, n1, G1.mono (by omega), rfl, fun z hz => by cases hz⟩, ⟨_, _, ["value", "many"], e2, k2_, n2, G2.mono (by omega), rfl, fun z hz => by cases hz⟩, ⟨_, _, ["value", "many"], e5, k5_, n5, G5.mono (by omega), rfl, fun z hz => by cases hz⟩, trivial⟩ : HasF _ _ _ _ _ k12.W (T) (3) k12.F) (trivial : HasS _ _ _ _ _ (T) (3) k12.S) (trivial : HasC _ _ (T) k12.C) (trivial : HasM _ k12.mth) X.bt) rfl c12) X.S.s12⟩
theorem a14 (X : Fx P w K mg T) : ∃ fd, mg "are_chances" = some (.ref (He.fAd K ("are_chances", none))) ∧ PySem.W.keepIn K (.ref (He.fAd K ("are_chances", none))) = true ∧ Binds K fd ["value", "stands"] [] ∧ FnG P w K mg base CX0 4 (He.fAd K ("are_chances", none)) fd ["value", "stands"] (spG K false 2 (T.f 24)) := by
  obtain ⟨fd, e, F⟩ := X.d14
  obtain ⟨fd1, e1, k1_, n1, G1⟩ := a1 (base := base) X
  obtain ⟨fd2, e2, k2_, n2, G2⟩ := a2 (base := base) X
  obtain ⟨fd4, e4, k4_, n4, G4⟩ := a4 (base := base) X
  obtain ⟨fd9, e9, k9_, n9, G9⟩ := a9 (base := base) X
  have Bn : Binds K fd ["value", "stands"] [] := F.bindsN fun _ _ _ _ _ _ us hl => match us, hl with | [_, _], _ => rfl
  exact ⟨fd, e, F.kp, Bn, fn_imp (fn_def (k := k14) (b := b24) (n := 2) (lv := 3) F s14 rfl (wd_of (k := k14) (T := T) (lv := 3) (⟨⟨_, _, ["value", "least", "greatest"], e1, k1_, n1, G1.mono (by omega), rfl, fun z hz => by cases hz⟩, ⟨_, _, ["value", "many"], e2, k2_, n2, G2.mono (by omega), rfl, fun z hz => by cases hz⟩, ⟨_, _, ["value"], e4, k4_, n4, G4.mono (by omega), rfl, fun z hz => by cases hz⟩, ⟨_, _, ["row"], e9, k9_, n9, G9.mono (by omega), rfl, fun z hz => by cases hz⟩, trivial⟩ : HasF _ _ _ _ _ k14.W (T) (3) k14.F) (trivial : HasS _ _ _ _ _ (T) (3) k14.S) (⟨X.c0, trivial⟩ : HasC _ _ (T) k14.C) (trivial : HasM _ k14.mth) X.bt) rfl c14) X.S.s14⟩
theorem a33 (X : Fx P w K mg T) : ∃ fd, mg "_law_sized" = some (.ref (He.fAd K ("_law_sized", none))) ∧ PySem.W.keepIn K (.ref (He.fAd K ("_law_sized", none))) = true ∧ Binds K fd ["_law_spring_here", "_law_counts", "_law_pays"] [] ∧ FnG P w K mg base CX0 4 (He.fAd K ("_law_sized", none)) fd ["_law_spring_here", "_law_counts", "_law_pays"] (spG K true 2 (T.f 43)) := by
  obtain ⟨fd, e, F⟩ := X.d33
  obtain ⟨fd21, e21, k21_, n21, G21⟩ := a21 (base := base) X
  obtain ⟨fd28, e28, k28_, n28, G28⟩ := a28 (base := base) X
  obtain ⟨fd29, e29, k29_, n29, G29⟩ := a29 (base := base) X
  obtain ⟨fd31, e31, k31_, n31, G31⟩ := a31 (base := base) X
  have Bn : Binds K fd ["_law_spring_here", "_law_counts", "_law_pays"] [] := F.bindsN fun _ _ _ _ _ _ us hl => match us, hl with | [_, _, _], _ => rfl
  exact ⟨fd, e, F.kp, Bn, fn_imp (fn_def (k := k33) (b := b43) (n := 2) (lv := 3) F s33 rfl (wd_of (k := k33) (T := T) (lv := 3) (⟨⟨_, _, ["_law_spring_here", "_law_limit"], e21, k21_, n21, G21.mono (by omega), rfl, fun z hz => by cases hz⟩, ⟨_, _, ["_law_spring_here"], e28, k28_, n28, G28.mono (by omega), rfl, fun z hz => by cases hz⟩, ⟨_, _, ["_law_spring_here", "_law_pays"], e29, k29_, n29, G29.mono (by omega), rfl, fun z hz => by cases hz⟩, ⟨_, _, ["_law_spring_here", "_law_wide"], e31, k31_, n31, G31.mono (by omega), rfl, fun z hz => by cases hz⟩, trivial⟩ : HasF _ _ _ _ _ k33.W (T) (3) k33.F) (trivial : HasS _ _ _ _ _ (T) (3) k33.S) (trivial : HasC _ _ (T) k33.C) (trivial : HasM _ k33.mth) X.bt) rfl c33) X.S.s33⟩
theorem a35 (X : Fx P w K mg T) : ∃ fd, mg "_law_dressed" = some (.ref (He.fAd K ("_law_dressed", none))) ∧ PySem.W.keepIn K (.ref (He.fAd K ("_law_dressed", none))) = true ∧ Binds K fd ["_law_world_here", "_law_by"] [] ∧ FnG P w K mg base CX0 4 (He.fAd K ("_law_dressed", none)) fd ["_law_world_here", "_law_by"] (spG K false 2 (T.f 45)) := by
  obtain ⟨fd, e, F⟩ := X.d35
  obtain ⟨fd27, e27, k27_, n27, G27⟩ := a27 (base := base) X
  have Bn : Binds K fd ["_law_world_here", "_law_by"] [] := F.bindsN fun _ _ _ _ _ _ us hl => match us, hl with | [_, _], _ => rfl
  exact ⟨fd, e, F.kp, Bn, fn_imp (fn_def (k := k35) (b := b45) (n := 2) (lv := 3) F s35 rfl (wd_of (k := k35) (T := T) (lv := 3) (⟨⟨_, _, ["_law_one", "_law_two"], e27, k27_, n27, G27.mono (by omega), rfl, fun z hz => by cases hz⟩, trivial⟩ : HasF _ _ _ _ _ k35.W (T) (3) k35.F) (trivial : HasS _ _ _ _ _ (T) (3) k35.S) (trivial : HasC _ _ (T) k35.C) (trivial : HasM _ k35.mth) X.bt) rfl c35) X.S.s35⟩
theorem a40 (X : Fx P w K mg T) : ∃ fd, mg "_law_is_odds" = some (.ref (He.fAd K ("_law_is_odds", none))) ∧ PySem.W.keepIn K (.ref (He.fAd K ("_law_is_odds", none))) = true ∧ Binds K fd ["_law_thing", "_law_wide"] [] ∧ FnG P w K mg base CX0 4 (He.fAd K ("_law_is_odds", none)) fd ["_law_thing", "_law_wide"] (spG K false 2 (T.f 50)) := by
  obtain ⟨fd, e, F⟩ := X.d40
  obtain ⟨fd26, e26, k26_, n26, G26⟩ := a26 (base := base) X
  obtain ⟨fd39, e39, k39_, n39, G39⟩ := a39 (base := base) X
  have Bn : Binds K fd ["_law_thing", "_law_wide"] [] := F.bindsN fun _ _ _ _ _ _ us hl => match us, hl with | [_, _], _ => rfl
  exact ⟨fd, e, F.kp, Bn, fn_imp (fn_def (k := k40) (b := b50) (n := 2) (lv := 3) F s40 rfl (wd_of (k := k40) (T := T) (lv := 3) (⟨⟨_, _, ["_law_row"], e26, k26_, n26, G26.mono (by omega), rfl, fun z hz => by cases hz⟩, ⟨_, _, ["_law_thing", "_law_wide"], e39, k39_, n39, G39.mono (by omega), rfl, fun z hz => by cases hz⟩, trivial⟩ : HasF _ _ _ _ _ k40.W (T) (3) k40.F) (trivial : HasS _ _ _ _ _ (T) (3) k40.S) (trivial : HasC _ _ (T) k40.C) (trivial : HasM _ k40.mth) X.bt) rfl c40) X.S.s40⟩
theorem a41 (X : Fx P w K mg T) : ∃ fd, mg "_law_is_deed" = some (.ref (He.fAd K ("_law_is_deed", none))) ∧ PySem.W.keepIn K (.ref (He.fAd K ("_law_is_deed", none))) = true ∧ Binds K fd ["_law_thing", "_law_pays", "_law_wide"] [] ∧ FnG P w K mg base CX0 4 (He.fAd K ("_law_is_deed", none)) fd ["_law_thing", "_law_pays", "_law_wide"] (spG K false 3 (T.f 51)) := by
  obtain ⟨fd, e, F⟩ := X.d41
  obtain ⟨fd24, e24, k24_, n24, G24⟩ := a24 (base := base) X
  obtain ⟨fd36, e36, k36_, n36, G36⟩ := a36 (base := base) X
  obtain ⟨fd37, e37, k37_, n37, G37⟩ := a37 (base := base) X
  obtain ⟨fd38, e38, k38_, n38, G38⟩ := a38 (base := base) X
  obtain ⟨fd39, e39, k39_, n39, G39⟩ := a39 (base := base) X
  have Bn : Binds K fd ["_law_thing", "_law_pays", "_law_wide"] [] := F.bindsN fun _ _ _ _ _ _ us hl => match us, hl with | [_, _, _], _ => rfl
  exact ⟨fd, e, F.kp, Bn, fn_imp (fn_def (k := k41) (b := b51) (n := 3) (lv := 3) F s41 rfl (wd_of (k := k41) (T := T) (lv := 3) (⟨⟨_, _, ["_law_x", "_law_y"], e24, k24_, n24, G24.mono (by omega), rfl, fun z hz => by cases hz⟩, ⟨_, _, ["_law_thing"], e36, k36_, n36, G36.mono (by omega), rfl, fun z hz => by cases hz⟩, ⟨_, _, ["_law_thing", "_law_wide"], e37, k37_, n37, G37.mono (by omega), rfl, fun z hz => by cases hz⟩, ⟨_, _, ["_law_thing"], e38, k38_, n38, G38.mono (by omega), rfl, fun z hz => by cases hz⟩, ⟨_, _, ["_law_thing", "_law_wide"], e39, k39_, n39, G39.mono (by omega), rfl, fun z hz => by cases hz⟩, trivial⟩ : HasF _ _ _ _ _ k41.W (T) (3) k41.F) (trivial : HasS _ _ _ _ _ (T) (3) k41.S) (trivial : HasC _ _ (T) k41.C) (trivial : HasM _ k41.mth) X.bt) rfl c41) X.S.s41⟩
theorem a45 (X : Fx P w K mg T) : ∃ fd, mg "_law_bent" = some (.ref (He.fAd K ("_law_bent", none))) ∧ PySem.W.keepIn K (.ref (He.fAd K ("_law_bent", none))) = true ∧ Binds K fd ["_law_spring_here", "_law_thing"] [] ∧ FnG P w K mg base CX0 16 (He.fAd K ("_law_bent", none)) fd ["_law_spring_here", "_law_thing"] (spG K true 1 (T.f 55)) := by
  obtain ⟨fd, e, F⟩ := X.d45
  obtain ⟨fd21, e21, k21_, n21, G21⟩ := a21 (base := base) X
  obtain ⟨fd43, e43, k43_, n43, G43⟩ := a43 (base := base) X
  obtain ⟨fd44, e44, k44_, n44, G44⟩ := a44 (base := base) X
  have Bn : Binds K fd ["_law_spring_here", "_law_thing"] [] := F.bindsN fun _ _ _ _ _ _ us hl => match us, hl with | [_, _], _ => rfl
  obtain ⟨B, hB0, hB, hBs⟩ := X.S.r45
  have recur : ∀ m, FnG P w K mg base CX0 (4 + m) (He.fAd K ("_law_bent", none)) fd ["_law_spring_here", "_law_thing"] (spG K true 1 (B m)) := fun m => by
    induction m with
    | zero => exact fn_none hB0
    | succ m ih => exact fn_imp (fn_def (k := k45) (b := b55) (n := 1) (lv := 4 + m) (T := T.up 55 (B m)) F s45 rfl (wd_of (k := k45) (T := T.up 55 (B m)) (lv := 4 + m) (⟨⟨_, _, ["_law_spring_here", "_law_limit"], e21, k21_, n21, G21.mono (by omega), rfl, fun z hz => by cases hz⟩, ⟨_, _, ["_law_spring_here"], e43, k43_, n43, G43.mono (by omega), rfl, fun z hz => by cases hz⟩, ⟨_, _, ["_law_thing"], e44, k44_, n44, G44.mono (by omega), rfl, fun z hz => by cases hz⟩, ⟨_, _, ["_law_spring_here", "_law_thing"], e, F.kp, Bn, ih, rfl, fun z hz => by cases hz⟩, trivial⟩ : HasF _ _ _ _ _ k45.W (T.up 55 (B m)) (4 + m) k45.F) (trivial : HasS _ _ _ _ _ (T.up 55 (B m)) (4 + m) k45.S) (trivial : HasC _ _ (T.up 55 (B m)) k45.C) (trivial : HasM _ k45.mth) X.bt) rfl c45) (hBs m)
  refine ⟨fd, e, F.kp, Bn, ?_⟩
  rw [hB]
  exact recur 12
theorem a11 (X : Fx P w K mg T) : ∃ fd, mg "is_frame" = some (.ref (He.fAd K ("is_frame", none))) ∧ PySem.W.keepIn K (.ref (He.fAd K ("is_frame", none))) = true ∧ Binds K fd ["value"] [] ∧ FnG P w K mg base CX0 5 (He.fAd K ("is_frame", none)) fd ["value"] (spG K false 1 (T.f 495)) := by
  obtain ⟨fd, e, F⟩ := X.d11
  obtain ⟨fd1, e1, k1_, n1, G1⟩ := a1 (base := base) X
  obtain ⟨fd2, e2, k2_, n2, G2⟩ := a2 (base := base) X
  obtain ⟨fd4, e4, k4_, n4, G4⟩ := a4 (base := base) X
  obtain ⟨fd12, e12, k12_, n12, G12⟩ := a12 (base := base) X
  have Bn : Binds K fd ["value"] [] := F.bindsN fun _ _ _ _ _ _ us hl => match us, hl with | [_], _ => rfl
  exact ⟨fd, e, F.kp, Bn, fn_imp (fn_def (k := k11) (b := b495) (n := 1) (lv := 4) F s11 rfl (wd_of (k := k11) (T := T) (lv := 4) (⟨⟨_, _, ["value", "least", "greatest"], e1, k1_, n1, G1.mono (by omega), rfl, fun z hz => by cases hz⟩, ⟨_, _, ["value", "many"], e2, k2_, n2, G2.mono (by omega), rfl, fun z hz => by cases hz⟩, ⟨_, _, ["value"], e4, k4_, n4, G4.mono (by omega), rfl, fun z hz => by cases hz⟩, ⟨_, _, ["value", "pays"], e12, k12_, n12, G12.mono (by omega), rfl, fun z hz => by cases hz⟩, trivial⟩ : HasF _ _ _ _ _ k11.W (T) (4) k11.F) (trivial : HasS _ _ _ _ _ (T) (4) k11.S) (trivial : HasC _ _ (T) k11.C) (trivial : HasM _ k11.mth) X.bt) rfl c11) X.S.s11⟩
theorem a34 (X : Fx P w K mg T) : ∃ fd, mg "_law_world" = some (.ref (He.fAd K ("_law_world", none))) ∧ PySem.W.keepIn K (.ref (He.fAd K ("_law_world", none))) = true ∧ Binds K fd ["_law_spring_here", "_law_most_here", "_law_deeds", "_law_pays"] [] ∧ FnG P w K mg base CX0 5 (He.fAd K ("_law_world", none)) fd ["_law_spring_here", "_law_most_here", "_law_deeds", "_law_pays"] (spG K true 3 (T.f 44)) := by
  obtain ⟨fd, e, F⟩ := X.d34
  obtain ⟨fd21, e21, k21_, n21, G21⟩ := a21 (base := base) X
  obtain ⟨fd33, e33, k33_, n33, G33⟩ := a33 (base := base) X
  have Bn : Binds K fd ["_law_spring_here", "_law_most_here", "_law_deeds", "_law_pays"] [] := F.bindsN fun _ _ _ _ _ _ us hl => match us, hl with | [_, _, _, _], _ => rfl
  exact ⟨fd, e, F.kp, Bn, fn_imp (fn_def (k := k34) (b := b44) (n := 3) (lv := 4) F s34 rfl (wd_of (k := k34) (T := T) (lv := 4) (⟨⟨_, _, ["_law_spring_here", "_law_limit"], e21, k21_, n21, G21.mono (by omega), rfl, fun z hz => by cases hz⟩, ⟨_, _, ["_law_spring_here", "_law_counts", "_law_pays"], e33, k33_, n33, G33.mono (by omega), rfl, fun z hz => by cases hz⟩, trivial⟩ : HasF _ _ _ _ _ k34.W (T) (4) k34.F) (trivial : HasS _ _ _ _ _ (T) (4) k34.S) (trivial : HasC _ _ (T) k34.C) (trivial : HasM _ k34.mth) X.bt) rfl c34) X.S.s34⟩
theorem a42 (X : Fx P w K mg T) : ∃ fd, mg "_law_is_world" = some (.ref (He.fAd K ("_law_is_world", none))) ∧ PySem.W.keepIn K (.ref (He.fAd K ("_law_is_world", none))) = true ∧ Binds K fd ["_law_thing"] [] ∧ FnG P w K mg base CX0 5 (He.fAd K ("_law_is_world", none)) fd ["_law_thing"] (spG K false 1 (T.f 52)) := by
  obtain ⟨fd, e, F⟩ := X.d42
  obtain ⟨fd36, e36, k36_, n36, G36⟩ := a36 (base := base) X
  obtain ⟨fd37, e37, k37_, n37, G37⟩ := a37 (base := base) X
  obtain ⟨fd38, e38, k38_, n38, G38⟩ := a38 (base := base) X
  obtain ⟨fd41, e41, k41_, n41, G41⟩ := a41 (base := base) X
  have Bn : Binds K fd ["_law_thing"] [] := F.bindsN fun _ _ _ _ _ _ us hl => match us, hl with | [_], _ => rfl
  exact ⟨fd, e, F.kp, Bn, fn_imp (fn_def (k := k42) (b := b52) (n := 1) (lv := 4) F s42 rfl (wd_of (k := k42) (T := T) (lv := 4) (⟨⟨_, _, ["_law_thing"], e36, k36_, n36, G36.mono (by omega), rfl, fun z hz => by cases hz⟩, ⟨_, _, ["_law_thing", "_law_wide"], e37, k37_, n37, G37.mono (by omega), rfl, fun z hz => by cases hz⟩, ⟨_, _, ["_law_thing"], e38, k38_, n38, G38.mono (by omega), rfl, fun z hz => by cases hz⟩, ⟨_, _, ["_law_thing", "_law_pays", "_law_wide"], e41, k41_, n41, G41.mono (by omega), rfl, fun z hz => by cases hz⟩, trivial⟩ : HasF _ _ _ _ _ k42.W (T) (4) k42.F) (trivial : HasS _ _ _ _ _ (T) (4) k42.S) (trivial : HasC _ _ (T) k42.C) (trivial : HasM _ k42.mth) X.bt) rfl c42) X.S.s42⟩
theorem a47 (X : Fx P w K mg T) : ∃ fd, mg "_law_edge" = some (.ref (He.fAd K ("_law_edge", none))) ∧ PySem.W.keepIn K (.ref (He.fAd K ("_law_edge", none))) = true ∧ Binds K fd ["_law_spring_here"] [] ∧ FnG P w K mg base CX0 5 (He.fAd K ("_law_edge", none)) fd ["_law_spring_here"] (spG K true 0 (T.f 57)) := by
  obtain ⟨fd, e, F⟩ := X.d47
  obtain ⟨fd21, e21, k21_, n21, G21⟩ := a21 (base := base) X
  obtain ⟨fd33, e33, k33_, n33, G33⟩ := a33 (base := base) X
  have Bn : Binds K fd ["_law_spring_here"] [] := F.bindsN fun _ _ _ _ _ _ us hl => match us, hl with | [_], _ => rfl
  exact ⟨fd, e, F.kp, Bn, fn_imp (fn_def (k := k47) (b := b57) (n := 0) (lv := 4) F s47 rfl (wd_of (k := k47) (T := T) (lv := 4) (⟨⟨_, _, ["_law_spring_here", "_law_limit"], e21, k21_, n21, G21.mono (by omega), rfl, fun z hz => by cases hz⟩, ⟨_, _, ["_law_spring_here", "_law_counts", "_law_pays"], e33, k33_, n33, G33.mono (by omega), rfl, fun z hz => by cases hz⟩, trivial⟩ : HasF _ _ _ _ _ k47.W (T) (4) k47.F) (trivial : HasS _ _ _ _ _ (T) (4) k47.S) (trivial : HasC _ _ (T) k47.C) (trivial : HasM _ k47.mth) X.bt) rfl c47) X.S.s47⟩
theorem a10 (X : Fx P w K mg T) : ∃ fd, mg "is_house" = some (.ref (He.fAd K ("is_house", none))) ∧ PySem.W.keepIn K (.ref (He.fAd K ("is_house", none))) = true ∧ Binds K fd ["value"] [] ∧ FnG P w K mg base CX0 6 (He.fAd K ("is_house", none)) fd ["value"] (spG K false 1 (T.f 497)) ∧ KwOk K fd ["value"] ["value"] [0] := by
  obtain ⟨fd, e, F⟩ := X.d10
  obtain ⟨fd11, e11, k11_, n11, G11⟩ := a11 (base := base) X
  obtain ⟨fd13, e13, k13_, n13, G13⟩ := a13 (base := base) X
  obtain ⟨fd14, e14, k14_, n14, G14⟩ := a14 (base := base) X
  have Bn : Binds K fd ["value"] [] := F.bindsN fun _ _ _ _ _ _ us hl => match us, hl with | [_], _ => rfl
  exact ⟨fd, e, F.kp, Bn, fn_imp (fn_def (k := k10) (b := b497) (n := 1) (lv := 5) F s10 rfl (wd_of (k := k10) (T := T) (lv := 5) (⟨⟨_, _, ["value"], e11, k11_, n11, G11.mono (by omega), rfl, fun z hz => by cases hz⟩, ⟨_, _, ["frame"], e13, k13_, n13, G13.mono (by omega), rfl, fun z hz => by cases hz⟩, ⟨_, _, ["value", "stands"], e14, k14_, n14, G14.mono (by omega), rfl, fun z hz => by cases hz⟩, trivial⟩ : HasF _ _ _ _ _ k10.W (T) (5) k10.F) (trivial : HasS _ _ _ _ _ (T) (5) k10.S) (trivial : HasC _ _ (T) k10.C) (trivial : HasM _ k10.mth) X.bt) rfl c10) X.S.s10, kw_of F (fun _ _ _ _ _ _ ws hl => match ws, hl with | [_], _ => rfl) rfl (by decide)⟩
theorem a18 (X : Fx P w K mg T) : ∃ fd, mg "check_house" = some (.ref (He.fAd K ("check_house", none))) ∧ PySem.W.keepIn K (.ref (He.fAd K ("check_house", none))) = true ∧ Binds K fd ["house"] [] ∧ FnG P w K mg base CX0 7 (He.fAd K ("check_house", none)) fd ["house"] (spG K false 1 (T.f 498)) := by
  obtain ⟨fd, e, F⟩ := X.d18
  obtain ⟨fd10, e10, k10_, n10, G10, w10_0⟩ := a10 (base := base) X
  have Bn : Binds K fd ["house"] [] := F.bindsN fun _ _ _ _ _ _ us hl => match us, hl with | [_], _ => rfl
  exact ⟨fd, e, F.kp, Bn, fn_imp (fn_def (k := k18) (b := b498) (n := 1) (lv := 6) F s18 rfl (wd_of (k := k18) (T := T) (lv := 6) (⟨⟨_, _, ["value"], e10, k10_, n10, G10.mono (by omega), rfl, fun z hz => by cases hz⟩, trivial⟩ : HasF _ _ _ _ _ k18.W (T) (6) k18.F) (trivial : HasS _ _ _ _ _ (T) (6) k18.S) (trivial : HasC _ _ (T) k18.C) (trivial : HasM _ k18.mth) X.bt) rfl c18) X.S.s18⟩
theorem a15 (X : Fx P w K mg T) : ∃ fd, mg "is_start" = some (.ref (He.fAd K ("is_start", none))) ∧ PySem.W.keepIn K (.ref (He.fAd K ("is_start", none))) = true ∧ Binds K fd ["house", "value"] [] ∧ FnG P w K mg base CX0 8 (He.fAd K ("is_start", none)) fd ["house", "value"] (spG K false 2 (T.f 499)) ∧ KwOk K fd ["house", "value"] ["value", "house"] [1, 0] := by
  obtain ⟨fd, e, F⟩ := X.d15
  obtain ⟨fd6, e6, k6_, n6, G6⟩ := a6 (base := base) X
  obtain ⟨fd18, e18, k18_, n18, G18⟩ := a18 (base := base) X
  have Bn : Binds K fd ["house", "value"] [] := F.bindsN fun _ _ _ _ _ _ us hl => match us, hl with | [_, _], _ => rfl
  exact ⟨fd, e, F.kp, Bn, fn_imp (fn_def (k := k15) (b := b499) (n := 2) (lv := 7) F s15 rfl (wd_of (k := k15) (T := T) (lv := 7) (⟨⟨_, _, ["value", "many"], e6, k6_, n6, G6.mono (by omega), rfl, fun z hz => by cases hz⟩, ⟨_, _, ["house"], e18, k18_, n18, G18.mono (by omega), rfl, fun z hz => by cases hz⟩, trivial⟩ : HasF _ _ _ _ _ k15.W (T) (7) k15.F) (trivial : HasS _ _ _ _ _ (T) (7) k15.S) (trivial : HasC _ _ (T) k15.C) (trivial : HasM _ k15.mth) X.bt) rfl c15) X.S.s15, kw_of F (fun _ _ _ _ _ _ ws hl => match ws, hl with | [_, _], _ => rfl) rfl (by decide)⟩
theorem a16 (X : Fx P w K mg T) : ∃ fd, mg "weighted" = some (.ref (He.fAd K ("weighted", none))) ∧ PySem.W.keepIn K (.ref (He.fAd K ("weighted", none))) = true ∧ Binds K fd ["house", "weights"] [] ∧ FnG P w K mg base CX0 8 (He.fAd K ("weighted", none)) fd ["house", "weights"] (spG K false 2 (T.f 501)) ∧ KwOk K fd ["house", "weights"] ["weights", "house"] [1, 0] := by
  obtain ⟨fd, e, F⟩ := X.d16
  obtain ⟨fd17, e17, k17_, n17, G17⟩ := a17 (base := base) X
  obtain ⟨fd18, e18, k18_, n18, G18⟩ := a18 (base := base) X
  obtain ⟨fd19, e19, k19_, n19, G19⟩ := a19 (base := base) X
  have Bn : Binds K fd ["house", "weights"] [] := F.bindsN fun _ _ _ _ _ _ us hl => match us, hl with | [_, _], _ => rfl
  exact ⟨fd, e, F.kp, Bn, fn_imp (fn_def (k := k16) (b := b501) (n := 2) (lv := 7) F s16 rfl (wd_of (k := k16) (T := T) (lv := 7) (⟨⟨_, _, ["frame", "weights"], e17, k17_, n17, G17.mono (by omega), rfl, fun z hz => by cases hz⟩, ⟨_, _, ["house"], e18, k18_, n18, G18.mono (by omega), rfl, fun z hz => by cases hz⟩, ⟨_, _, ["house", "weights"], e19, k19_, n19, G19.mono (by omega), rfl, fun z hz => by cases hz⟩, trivial⟩ : HasF _ _ _ _ _ k16.W (T) (7) k16.F) (trivial : HasS _ _ _ _ _ (T) (7) k16.S) (trivial : HasC _ _ (T) k16.C) (trivial : HasM _ k16.mth) X.bt) rfl c16) X.S.s16, kw_of F (fun _ _ _ _ _ _ ws hl => match ws, hl with | [_, _], _ => rfl) rfl (by decide)⟩
theorem a46 (X : Fx P w K mg T) : ∃ fd, mg "_law_maybe" = some (.ref (He.fAd K ("_law_maybe", none))) ∧ PySem.W.keepIn K (.ref (He.fAd K ("_law_maybe", none))) = true ∧ Binds K fd ["_law_spring_here", "_law_thing"] [] ∧ FnG P w K mg base CX0 17 (He.fAd K ("_law_maybe", none)) fd ["_law_spring_here", "_law_thing"] (spG K true 1 (T.f 56)) := by
  obtain ⟨fd, e, F⟩ := X.d46
  obtain ⟨fd21, e21, k21_, n21, G21⟩ := a21 (base := base) X
  obtain ⟨fd43, e43, k43_, n43, G43⟩ := a43 (base := base) X
  obtain ⟨fd45, e45, k45_, n45, G45⟩ := a45 (base := base) X
  have Bn : Binds K fd ["_law_spring_here", "_law_thing"] [] := F.bindsN fun _ _ _ _ _ _ us hl => match us, hl with | [_, _], _ => rfl
  exact ⟨fd, e, F.kp, Bn, fn_imp (fn_def (k := k46) (b := b56) (n := 1) (lv := 16) F s46 rfl (wd_of (k := k46) (T := T) (lv := 16) (⟨⟨_, _, ["_law_spring_here", "_law_limit"], e21, k21_, n21, G21.mono (by omega), rfl, fun z hz => by cases hz⟩, ⟨_, _, ["_law_spring_here"], e43, k43_, n43, G43.mono (by omega), rfl, fun z hz => by cases hz⟩, ⟨_, _, ["_law_spring_here", "_law_thing"], e45, k45_, n45, G45.mono (by omega), rfl, fun z hz => by cases hz⟩, trivial⟩ : HasF _ _ _ _ _ k46.W (T) (16) k46.F) (trivial : HasS _ _ _ _ _ (T) (16) k46.S) (trivial : HasC _ _ (T) k46.C) (trivial : HasM _ k46.mth) X.bt) rfl c46) X.S.s46⟩
theorem a48 (X : Fx P w K mg T) : ∃ fd, mg "_law_right" = some (.ref (He.fAd K ("_law_right", none))) ∧ PySem.W.keepIn K (.ref (He.fAd K ("_law_right", none))) = true ∧ Binds K fd ["_law_spring_here"] [] ∧ FnG P w K mg base CX0 18 (He.fAd K ("_law_right", none)) fd ["_law_spring_here"] (spG K true 0 (T.f 502)) := by
  obtain ⟨fd, e, F⟩ := X.d48
  obtain ⟨fd10, e10, k10_, n10, G10, w10_0⟩ := a10 (base := base) X
  obtain ⟨fd15, e15, k15_, n15, G15, w15_0⟩ := a15 (base := base) X
  obtain ⟨fd16, e16, k16_, n16, G16, w16_0⟩ := a16 (base := base) X
  obtain ⟨fd21, e21, k21_, n21, G21⟩ := a21 (base := base) X
  obtain ⟨fd29, e29, k29_, n29, G29⟩ := a29 (base := base) X
  obtain ⟨fd32, e32, k32_, n32, G32⟩ := a32 (base := base) X
  obtain ⟨fd34, e34, k34_, n34, G34⟩ := a34 (base := base) X
  obtain ⟨fd35, e35, k35_, n35, G35⟩ := a35 (base := base) X
  obtain ⟨fd40, e40, k40_, n40, G40⟩ := a40 (base := base) X
  obtain ⟨fd42, e42, k42_, n42, G42⟩ := a42 (base := base) X
  obtain ⟨fd46, e46, k46_, n46, G46⟩ := a46 (base := base) X
  obtain ⟨fd47, e47, k47_, n47, G47⟩ := a47 (base := base) X
  have Bn : Binds K fd ["_law_spring_here"] [] := F.bindsN fun _ _ _ _ _ _ us hl => match us, hl with | [_], _ => rfl
  exact ⟨fd, e, F.kp, Bn, fn_imp (fn_def (k := k48) (b := b502) (n := 0) (lv := 17) F s48 rfl (wd_of (k := k48) (T := T) (lv := 17) (⟨⟨_, _, ["value"], e10, k10_, n10, G10.mono (by omega), rfl, fun z hz he => by
      rcases List.mem_cons.mp hz with rfl | hz
      · exact w10_0
      rcases List.mem_cons.mp hz with rfl | hz
      · cases he
      rcases List.mem_cons.mp hz with rfl | hz
      · cases he
      cases hz⟩, ⟨_, _, ["house", "value"], e15, k15_, n15, G15.mono (by omega), rfl, fun z hz he => by
      rcases List.mem_cons.mp hz with rfl | hz
      · cases he
      rcases List.mem_cons.mp hz with rfl | hz
      · exact w15_0
      rcases List.mem_cons.mp hz with rfl | hz
      · cases he
      cases hz⟩, ⟨_, _, ["house", "weights"], e16, k16_, n16, G16.mono (by omega), rfl, fun z hz he => by
      rcases List.mem_cons.mp hz with rfl | hz
      · cases he
      rcases List.mem_cons.mp hz with rfl | hz
      · cases he
      rcases List.mem_cons.mp hz with rfl | hz
      · exact w16_0
      cases hz⟩, ⟨_, _, ["_law_spring_here", "_law_limit"], e21, k21_, n21, G21.mono (by omega), rfl, fun z hz he => by
      rcases List.mem_cons.mp hz with rfl | hz
      · cases he
      rcases List.mem_cons.mp hz with rfl | hz
      · cases he
      rcases List.mem_cons.mp hz with rfl | hz
      · cases he
      cases hz⟩, ⟨_, _, ["_law_spring_here", "_law_pays"], e29, k29_, n29, G29.mono (by omega), rfl, fun z hz he => by
      rcases List.mem_cons.mp hz with rfl | hz
      · cases he
      rcases List.mem_cons.mp hz with rfl | hz
      · cases he
      rcases List.mem_cons.mp hz with rfl | hz
      · cases he
      cases hz⟩, ⟨_, _, ["_law_spring_here", "_law_wide"], e32, k32_, n32, G32.mono (by omega), rfl, fun z hz he => by
      rcases List.mem_cons.mp hz with rfl | hz
      · cases he
      rcases List.mem_cons.mp hz with rfl | hz
      · cases he
      rcases List.mem_cons.mp hz with rfl | hz
      · cases he
      cases hz⟩, ⟨_, _, ["_law_spring_here", "_law_most_here", "_law_deeds", "_law_pays"], e34, k34_, n34, G34.mono (by omega), rfl, fun z hz he => by
      rcases List.mem_cons.mp hz with rfl | hz
      · cases he
      rcases List.mem_cons.mp hz with rfl | hz
      · cases he
      rcases List.mem_cons.mp hz with rfl | hz
      · cases he
      cases hz⟩, ⟨_, _, ["_law_world_here", "_law_by"], e35, k35_, n35, G35.mono (by omega), rfl, fun z hz he => by
      rcases List.mem_cons.mp hz with rfl | hz
      · cases he
      rcases List.mem_cons.mp hz with rfl | hz
      · cases he
      rcases List.mem_cons.mp hz with rfl | hz
      · cases he
      cases hz⟩, ⟨_, _, ["_law_thing", "_law_wide"], e40, k40_, n40, G40.mono (by omega), rfl, fun z hz he => by
      rcases List.mem_cons.mp hz with rfl | hz
      · cases he
      rcases List.mem_cons.mp hz with rfl | hz
      · cases he
      rcases List.mem_cons.mp hz with rfl | hz
      · cases he
      cases hz⟩, ⟨_, _, ["_law_thing"], e42, k42_, n42, G42.mono (by omega), rfl, fun z hz he => by
      rcases List.mem_cons.mp hz with rfl | hz
      · cases he
      rcases List.mem_cons.mp hz with rfl | hz
      · cases he
      rcases List.mem_cons.mp hz with rfl | hz
      · cases he
      cases hz⟩, ⟨_, _, ["_law_spring_here", "_law_thing"], e46, k46_, n46, G46.mono (by omega), rfl, fun z hz he => by
      rcases List.mem_cons.mp hz with rfl | hz
      · cases he
      rcases List.mem_cons.mp hz with rfl | hz
      · cases he
      rcases List.mem_cons.mp hz with rfl | hz
      · cases he
      cases hz⟩, ⟨_, _, ["_law_spring_here"], e47, k47_, n47, G47.mono (by omega), rfl, fun z hz he => by
      rcases List.mem_cons.mp hz with rfl | hz
      · cases he
      rcases List.mem_cons.mp hz with rfl | hz
      · cases he
      rcases List.mem_cons.mp hz with rfl | hz
      · cases he
      cases hz⟩, trivial⟩ : HasF _ _ _ _ _ k48.W (T) (17) k48.F) (trivial : HasS _ _ _ _ _ (T) (17) k48.S) (trivial : HasC _ _ (T) k48.C) (trivial : HasM _ k48.mth) X.bt) rfl c48) X.S.s48⟩
theorem aLaw (X : Fx P w K mg T) (base : Heap) {fd : FuncData} (F : FunD K "law" "law" (defArgs (top 58)) (defBody (top 58)) (defScope (top 58)) [] [] (He.fAd K ("law", none)) fd) : FnG P w K mg base CX0 19 (He.fAd K ("law", none)) fd ["_law_script"] (spG K false 1 (T.f 503)) := by
  obtain ⟨fd48, e48, k48_, n48, G48⟩ := a48 (base := base) X
  obtain ⟨fd20, e20, k20_, n20, G20⟩ := a20 (base := base) X
  have Bn : Binds K fd ["_law_script"] [] := F.bindsN fun _ _ _ _ _ _ us hl => match us, hl with | [_], _ => rfl
  exact fn_imp (fn_def (k := k49) (b := b503) (n := 1) (lv := 18) F s49 rfl (wd_of (k := k49) (T := T) (lv := 18) (⟨⟨_, _, ["_law_spring_here"], e48, k48_, n48, G48.mono (by omega), rfl, fun z hz => by cases hz⟩, trivial⟩ : HasF _ _ _ _ _ k49.W (T) (18) k49.F) (⟨⟨_, _, ["_law_script", "_law_lap"], e20, k20_, n20, G20.mono (by omega), rfl⟩, trivial⟩ : HasS _ _ _ _ _ (T) (18) k49.S) (trivial : HasC _ _ (T) k49.C) (trivial : HasM _ k49.mth) X.bt) rfl c49) X.S.s49
end
end Kt

/-! Ek02 -/
set_option Elab.async false
set_option linter.all false
set_option maxRecDepth 100000
set_option maxHeartbeats 0
namespace Kt
open PySem PySem.Spec PyProof.Rows L2 DH
theorem facts {P : Program} {w : World} {K : PySem.W.Frag} {h : Heap} {mg : Str → Option Value} {T : Tb} (S : Specs T) (KX : K.In h) (G : h.Ns mainGlobals mg) (c : He.SaysX fa fn [] [] ex w h K) : Fx P w K mg T := by
  have cd : He.SaysD fa fn K := congrArg Prod.fst c.t
  have m := c.more
  unfold ex at m
  obtain ⟨h0, m⟩ := an m
  have h1 := m
  refine { S := S, bt := fun x hx => He.free_ok KX G (cd.facts (List.mem_append_right _ (List.mem_map_of_mem hx))), c0 := ?k0, m_gcd := PySem.W.mg_of KX G (He.eqO_ok h1), d0 := ?d0, d1 := ?d1, d2 := ?d2, d3 := ?d3, d4 := ?d4, d5 := ?d5, d6 := ?d6, d7 := ?d7, d8 := ?d8, d9 := ?d9, d10 := ?d10, d11 := ?d11, d12 := ?d12, d13 := ?d13, d14 := ?d14, d15 := ?d15, d16 := ?d16, d17 := ?d17, d18 := ?d18, d19 := ?d19, d20 := ?d20, d21 := ?d21, d22 := ?d22, d23 := ?d23, d24 := ?d24, d25 := ?d25, d26 := ?d26, d27 := ?d27, d28 := ?d28, d29 := ?d29, d30 := ?d30, d31 := ?d31, d32 := ?d32, d33 := ?d33, d34 := ?d34, d35 := ?d35, d36 := ?d36, d37 := ?d37, d38 := ?d38, d39 := ?d39, d40 := ?d40, d41 := ?d41, d42 := ?d42, d43 := ?d43, d44 := ?d44, d45 := ?d45, d46 := ?d46, d47 := ?d47, d48 := ?d48, d49 := ?d49 }
  case k0 =>
    refine ⟨.ref (He.ga K "ONE"), .ref (He.ga K "ONE"), He.glo_ok KX G (cd.fact 50 (f := .glo "ONE") rfl), rfl, fun M H => ?_⟩
    rw [S.g0]
    exact .tup (DH.tupD_ok h0 H) (show 2 ≤ sizeLine by decide) (.cons (.int _) (.cons (.int _) (.nil)))
  case d0 =>
    obtain ⟨fd, F⟩ := cd.def_ 0 (d := D0) rfl
    exact ⟨fd, He.glo_ok KX G (cd.fact 0 (f := .glo "is_whole") rfl), F⟩
  case d1 =>
    obtain ⟨fd, F⟩ := cd.def_ 1 (d := D1) rfl
    exact ⟨fd, He.glo_ok KX G (cd.fact 1 (f := .glo "is_within") rfl), F⟩
  case d2 =>
    obtain ⟨fd, F⟩ := cd.def_ 2 (d := D2) rfl
    exact ⟨fd, He.glo_ok KX G (cd.fact 2 (f := .glo "is_tuple") rfl), F⟩
  case d3 =>
    obtain ⟨fd, F⟩ := cd.def_ 3 (d := D3) rfl
    exact ⟨fd, He.glo_ok KX G (cd.fact 3 (f := .glo "is_fraction") rfl), F⟩
  case d4 =>
    obtain ⟨fd, F⟩ := cd.def_ 4 (d := D4) rfl
    exact ⟨fd, He.glo_ok KX G (cd.fact 4 (f := .glo "is_from_nought") rfl), F⟩
  case d5 =>
    obtain ⟨fd, F⟩ := cd.def_ 5 (d := D5) rfl
    exact ⟨fd, He.glo_ok KX G (cd.fact 5 (f := .glo "is_row") rfl), F⟩
  case d6 =>
    obtain ⟨fd, F⟩ := cd.def_ 6 (d := D6) rfl
    exact ⟨fd, He.glo_ok KX G (cd.fact 6 (f := .glo "are_odds") rfl), F⟩
  case d7 =>
    obtain ⟨fd, F⟩ := cd.def_ 7 (d := D7) rfl
    exact ⟨fd, He.glo_ok KX G (cd.fact 7 (f := .glo "ratio") rfl), F⟩
  case d8 =>
    obtain ⟨fd, F⟩ := cd.def_ 8 (d := D8) rfl
    exact ⟨fd, He.glo_ok KX G (cd.fact 8 (f := .glo "dot") rfl), F⟩
  case d9 =>
    obtain ⟨fd, F⟩ := cd.def_ 9 (d := D9) rfl
    exact ⟨fd, He.glo_ok KX G (cd.fact 9 (f := .glo "total") rfl), F⟩
  case d10 =>
    obtain ⟨fd, F⟩ := cd.def_ 10 (d := D10) rfl
    exact ⟨fd, He.glo_ok KX G (cd.fact 10 (f := .glo "is_house") rfl), F⟩
  case d11 =>
    obtain ⟨fd, F⟩ := cd.def_ 11 (d := D11) rfl
    exact ⟨fd, He.glo_ok KX G (cd.fact 11 (f := .glo "is_frame") rfl), F⟩
  case d12 =>
    obtain ⟨fd, F⟩ := cd.def_ 12 (d := D12) rfl
    exact ⟨fd, He.glo_ok KX G (cd.fact 12 (f := .glo "is_stand_frame") rfl), F⟩
  case d13 =>
    obtain ⟨fd, F⟩ := cd.def_ 13 (d := D13) rfl
    exact ⟨fd, He.glo_ok KX G (cd.fact 13 (f := .glo "all_ways") rfl), F⟩
  case d14 =>
    obtain ⟨fd, F⟩ := cd.def_ 14 (d := D14) rfl
    exact ⟨fd, He.glo_ok KX G (cd.fact 14 (f := .glo "are_chances") rfl), F⟩
  case d15 =>
    obtain ⟨fd, F⟩ := cd.def_ 15 (d := D15) rfl
    exact ⟨fd, He.glo_ok KX G (cd.fact 15 (f := .glo "is_start") rfl), F⟩
  case d16 =>
    obtain ⟨fd, F⟩ := cd.def_ 16 (d := D16) rfl
    exact ⟨fd, He.glo_ok KX G (cd.fact 16 (f := .glo "weighted") rfl), F⟩
  case d17 =>
    obtain ⟨fd, F⟩ := cd.def_ 17 (d := D17) rfl
    exact ⟨fd, He.glo_ok KX G (cd.fact 17 (f := .glo "weighed") rfl), F⟩
  case d18 =>
    obtain ⟨fd, F⟩ := cd.def_ 18 (d := D18) rfl
    exact ⟨fd, He.glo_ok KX G (cd.fact 18 (f := .glo "check_house") rfl), F⟩
  case d19 =>
    obtain ⟨fd, F⟩ := cd.def_ 19 (d := D19) rfl
    exact ⟨fd, He.glo_ok KX G (cd.fact 19 (f := .glo "check_weights") rfl), F⟩
  case d20 =>
    obtain ⟨fd, F⟩ := cd.def_ 20 (d := D20) rfl
    exact ⟨fd, He.glo_ok KX G (cd.fact 20 (f := .glo "_law_spring") rfl), F⟩
  case d21 =>
    obtain ⟨fd, F⟩ := cd.def_ 21 (d := D21) rfl
    exact ⟨fd, He.glo_ok KX G (cd.fact 21 (f := .glo "_law_pick") rfl), F⟩
  case d22 =>
    obtain ⟨fd, F⟩ := cd.def_ 22 (d := D22) rfl
    exact ⟨fd, He.glo_ok KX G (cd.fact 22 (f := .glo "_law_any_of") rfl), F⟩
  case d23 =>
    obtain ⟨fd, F⟩ := cd.def_ 23 (d := D23) rfl
    exact ⟨fd, He.glo_ok KX G (cd.fact 23 (f := .glo "_law_frac") rfl), F⟩
  case d24 =>
    obtain ⟨fd, F⟩ := cd.def_ 24 (d := D24) rfl
    exact ⟨fd, He.glo_ok KX G (cd.fact 24 (f := .glo "_law_plus") rfl), F⟩
  case d25 =>
    obtain ⟨fd, F⟩ := cd.def_ 25 (d := D25) rfl
    exact ⟨fd, He.glo_ok KX G (cd.fact 25 (f := .glo "_law_times") rfl), F⟩
  case d26 =>
    obtain ⟨fd, F⟩ := cd.def_ 26 (d := D26) rfl
    exact ⟨fd, He.glo_ok KX G (cd.fact 26 (f := .glo "_law_total") rfl), F⟩
  case d27 =>
    obtain ⟨fd, F⟩ := cd.def_ 27 (d := D27) rfl
    exact ⟨fd, He.glo_ok KX G (cd.fact 27 (f := .glo "_law_dot") rfl), F⟩
  case d28 =>
    obtain ⟨fd, F⟩ := cd.def_ 28 (d := D28) rfl
    exact ⟨fd, He.glo_ok KX G (cd.fact 28 (f := .glo "_law_part") rfl), F⟩
  case d29 =>
    obtain ⟨fd, F⟩ := cd.def_ 29 (d := D29) rfl
    exact ⟨fd, He.glo_ok KX G (cd.fact 29 (f := .glo "_law_gains") rfl), F⟩
  case d30 =>
    obtain ⟨fd, F⟩ := cd.def_ 30 (d := D30) rfl
    exact ⟨fd, He.glo_ok KX G (cd.fact 30 (f := .glo "_law_parts") rfl), F⟩
  case d31 =>
    obtain ⟨fd, F⟩ := cd.def_ 31 (d := D31) rfl
    exact ⟨fd, He.glo_ok KX G (cd.fact 31 (f := .glo "_law_chances") rfl), F⟩
  case d32 =>
    obtain ⟨fd, F⟩ := cd.def_ 32 (d := D32) rfl
    exact ⟨fd, He.glo_ok KX G (cd.fact 32 (f := .glo "_law_odds") rfl), F⟩
  case d33 =>
    obtain ⟨fd, F⟩ := cd.def_ 33 (d := D33) rfl
    exact ⟨fd, He.glo_ok KX G (cd.fact 33 (f := .glo "_law_sized") rfl), F⟩
  case d34 =>
    obtain ⟨fd, F⟩ := cd.def_ 34 (d := D34) rfl
    exact ⟨fd, He.glo_ok KX G (cd.fact 34 (f := .glo "_law_world") rfl), F⟩
  case d35 =>
    obtain ⟨fd, F⟩ := cd.def_ 35 (d := D35) rfl
    exact ⟨fd, He.glo_ok KX G (cd.fact 35 (f := .glo "_law_dressed") rfl), F⟩
  case d36 =>
    obtain ⟨fd, F⟩ := cd.def_ 36 (d := D36) rfl
    exact ⟨fd, He.glo_ok KX G (cd.fact 36 (f := .glo "_law_is_whole") rfl), F⟩
  case d37 =>
    obtain ⟨fd, F⟩ := cd.def_ 37 (d := D37) rfl
    exact ⟨fd, He.glo_ok KX G (cd.fact 37 (f := .glo "_law_is_tuple") rfl), F⟩
  case d38 =>
    obtain ⟨fd, F⟩ := cd.def_ 38 (d := D38) rfl
    exact ⟨fd, He.glo_ok KX G (cd.fact 38 (f := .glo "_law_is_frac") rfl), F⟩
  case d39 =>
    obtain ⟨fd, F⟩ := cd.def_ 39 (d := D39) rfl
    exact ⟨fd, He.glo_ok KX G (cd.fact 39 (f := .glo "_law_is_row") rfl), F⟩
  case d40 =>
    obtain ⟨fd, F⟩ := cd.def_ 40 (d := D40) rfl
    exact ⟨fd, He.glo_ok KX G (cd.fact 40 (f := .glo "_law_is_odds") rfl), F⟩
  case d41 =>
    obtain ⟨fd, F⟩ := cd.def_ 41 (d := D41) rfl
    exact ⟨fd, He.glo_ok KX G (cd.fact 41 (f := .glo "_law_is_deed") rfl), F⟩
  case d42 =>
    obtain ⟨fd, F⟩ := cd.def_ 42 (d := D42) rfl
    exact ⟨fd, He.glo_ok KX G (cd.fact 42 (f := .glo "_law_is_world") rfl), F⟩
  case d43 =>
    obtain ⟨fd, F⟩ := cd.def_ 43 (d := D43) rfl
    exact ⟨fd, He.glo_ok KX G (cd.fact 43 (f := .glo "_law_odd") rfl), F⟩
  case d44 =>
    obtain ⟨fd, F⟩ := cd.def_ 44 (d := D44) rfl
    exact ⟨fd, He.glo_ok KX G (cd.fact 44 (f := .glo "_law_twice") rfl), F⟩
  case d45 =>
    obtain ⟨fd, F⟩ := cd.def_ 45 (d := D45) rfl
    exact ⟨fd, He.glo_ok KX G (cd.fact 45 (f := .glo "_law_bent") rfl), F⟩
  case d46 =>
    obtain ⟨fd, F⟩ := cd.def_ 46 (d := D46) rfl
    exact ⟨fd, He.glo_ok KX G (cd.fact 46 (f := .glo "_law_maybe") rfl), F⟩
  case d47 =>
    obtain ⟨fd, F⟩ := cd.def_ 47 (d := D47) rfl
    exact ⟨fd, He.glo_ok KX G (cd.fact 47 (f := .glo "_law_edge") rfl), F⟩
  case d48 =>
    obtain ⟨fd, F⟩ := cd.def_ 48 (d := D48) rfl
    exact ⟨fd, He.glo_ok KX G (cd.fact 48 (f := .glo "_law_right") rfl), F⟩
  case d49 =>
    obtain ⟨fd, F⟩ := cd.def_ 49 (d := D49) rfl
    exact ⟨fd, He.glo_ok KX G (cd.fact 49 (f := .glo "law") rfl), F⟩
end Kt
open PySem PySem.W PySem.Calls PyProof.Rows
theorem law_holds (T : DH.Tb) (S : Kt.Specs T) (hl : ∀ ns : List Int, ns.length ≤ 63 → T.f 503 [.list (ns.map PyData.int)] (fun d => d = .bool true)) : PySem.Challenge.rw_deedhouses_k02_houses_starts_and_weighte.Holds := by
  w_on; o_law
  refine HandSHeadRun.head_imp (r := OpenLaw.row PySem.Challenge.rw_deedhouses_k02_houses_starts_and_weighte) (q := view (OpenLaw.row PySem.Challenge.rw_deedhouses_k02_houses_starts_and_weighte).prog [0, 58]) (H := Kt.hk) (ob := Kt.ob) (M := 9000) (loose := Kt.loose) (d := HandSHeadRun.topDef (OpenLaw.row PySem.Challenge.rw_deedhouses_k02_houses_starts_and_weighte).prog 58) (kwd := []) Kt.ob_eq
    Kt.run (by kernel_rfl) (by kernel_rfl) (by kernel_rfl) (by rfl) (by first | assumption | decide +kernel) (by decide +kernel) ⟨rfl, rfl, rfl, rfl, rfl, by decide +kernel⟩ ?hw ?hc
  case hw => w_witness2
  case hc =>
    refine DH.law_g (l := PySem.Challenge.rw_deedhouses_k02_houses_starts_and_weighte) (n := 63) (k := 19) (x := "_law_script") rfl (by decide) (by kernel_rfl) ⟨rfl, by decide, by decide⟩ ?F
    intro w mg fa h Y G hmg0
    obtain ⟨K, KX, c⟩ := Y
    have hmg : mg ("law" : PySem.Str) = some (.ref fa) := by
      have e : (HandSHeadRun.topDef (OpenLaw.row PySem.Challenge.rw_deedhouses_k02_houses_starts_and_weighte).prog 58).name = ("law" : PySem.Str) := by kernel_rfl
      rw [← e]
      exact hmg0
    have X := Kt.facts (P := (PySem.Challenge.rw_deedhouses_k02_houses_starts_and_weighte).prog) (w := w) S KX G c
    obtain ⟨fd, e, F⟩ := X.d49
    cases hmg.symm.trans e
    have b := L2.FunD.bindsA (ps := ["_law_script"]) F fun _ _ _ _ _ _ us hl => match us, hl with | [_], _ => rfl
    refine ⟨K, fd, DH.spG K false 1 (T.f 503), KX, fun s v => b s [v] rfl, fun H a ns hn _ hS => ?_, fun base _ _ => Kt.aLaw X base F⟩
    have z := DH.len63 hn
    refine ⟨none, fun _ => False, [.list (ns.map PyData.int)], [.ref a], _, ⟨rfl, rfl⟩, rfl, .cons (.lsf hS z (DH.rpL_ints ns)) .nil, fun b m => m.elim, fun a e => (by cases e), hl ns hn, fun d v H' hd _ r => ?_⟩
    cases hd
    cases r
    rfl

/-! Fk02 -/
set_option Elab.async false
set_option linter.all false
set_option maxRecDepth 100000
set_option maxHeartbeats 4000000
namespace Kt
open PySem DH Bt Sp
def TTf : Nat → PSpec
  | 1 => sp1
  | 2 => sp2
  | 14 => sp14
  | 15 => sp15
  | 16 => sp16
  | 17 => sp17
  | 18 => sp18
  | 19 => sp19
  | 20 => sp20
  | 21 => spDot
  | 22 => spTotal
  | 23 => sp23
  | 24 => sp24
  | 30 => sp30
  | 32 => sp32
  | 33 => sp33
  | 34 => sp34
  | 35 => sp35
  | 36 => spTotal
  | 37 => spDot
  | 38 => sp38
  | 39 => sp39
  | 40 => sp40
  | 41 => sp41
  | 42 => sp42
  | 43 => sp43
  | 44 => sp44
  | 45 => sp501
  | 46 => sp14
  | 47 => sp16
  | 48 => sp48
  | 49 => sp49
  | 50 => sp23
  | 51 => sp51
  | 52 => sp52
  | 53 => sp53
  | 54 => sp54
  | 55 => bent 12
  | 56 => sp56
  | 57 => sp57
  | 494 => sp494
  | 495 => sp495
  | 496 => sp496
  | 497 => sp497
  | 498 => sp498
  | 499 => sp499
  | 500 => sp500
  | 501 => sp501
  | 502 => sp502
  | 503 => sp503
  | _ => fun _ _ => False
def TTc : Nat → D
  | 0 => .tuple [.int 1, .int 1]
  | 1 => .tuple [.int 0, .int 1]
  | _ => .none
def TT : Tb := ⟨TTf, TTc⟩
theorem specs : Specs TT where
  g0 := rfl
  s0 := fun ds Q _ h => ok14 (T := TT)  ds Q h
  s1 := fun ds Q _ h => ok15 (T := TT) rfl ds Q h
  s2 := fun ds Q _ h => ok16 (T := TT)  ds Q h
  s3 := fun ds Q _ h => ok17 (T := TT) rfl rfl ds Q h
  s4 := fun ds Q _ h => ok18 (T := TT) rfl ds Q h
  s5 := fun ds Q _ h => ok19 (T := TT) rfl rfl ds Q h
  s6 := fun ds Q _ h => ok23 (T := TT) rfl rfl rfl rfl ds Q h
  s7 := fun ds Q _ h => ok20 (T := TT)  ds Q h
  s8 := fun ds Q _ h => ok21 (T := TT) rfl ds Q h
  s9 := fun ds Q _ h => ok22 (T := TT) rfl rfl ds Q h
  s10 := fun ds Q _ h => ok497 (T := TT) rfl rfl rfl ds Q h
  s11 := fun ds Q _ h => ok495 (T := TT) rfl rfl rfl rfl ds Q h
  s12 := fun ds Q _ h => ok494 (T := TT) rfl rfl rfl ds Q h
  s13 := fun ds Q _ h => ok496 (T := TT)  ds Q h
  s14 := fun ds Q _ h => ok24 (T := TT) rfl rfl rfl rfl rfl ds Q h
  s15 := fun ds Q _ h => ok499 (T := TT) rfl rfl ds Q h
  s16 := fun ds Q _ h => ok501 (T := TT) rfl rfl rfl ds Q h
  s17 := fun ds Q _ h => ok500 (T := TT) rfl ds Q h
  s18 := fun ds Q _ h => ok498 (T := TT) rfl ds Q h
  s19 := fun ds Q _ h => ok30 (T := TT) rfl rfl ds Q h
  s20 := fun ds Q _ h => ok32 (T := TT)  ds Q h
  s21 := fun ds Q _ h => ok1 (T := TT)  ds Q h
  s22 := fun ds Q _ h => ok2 (T := TT) rfl ds Q h
  s23 := fun ds Q _ h => ok33 (T := TT)  ds Q h
  s24 := fun ds Q _ h => ok34 (T := TT) rfl ds Q h
  s25 := fun ds Q _ h => ok35 (T := TT) rfl ds Q h
  s26 := fun ds Q _ h => ok36 (T := TT) rfl ds Q h
  s27 := fun ds Q _ h => ok37 (T := TT) rfl rfl ds Q h
  s28 := fun ds Q _ h => ok38 (T := TT) rfl rfl ds Q h
  s29 := fun ds Q _ h => ok39 (T := TT) rfl rfl rfl ds Q h
  s30 := fun ds Q _ h => ok40 (T := TT) rfl ds Q h
  s31 := fun ds Q _ h => ok41 (T := TT) rfl rfl ds Q h
  s32 := fun ds Q _ h => ok42 (T := TT) rfl rfl ds Q h
  s33 := fun ds Q _ h => ok43 (T := TT) rfl rfl rfl rfl ds Q h
  s34 := fun ds Q _ h => ok44 (T := TT) rfl rfl ds Q h
  s35 := fun ds Q _ h => ok45 (T := TT) rfl ds Q h
  s36 := fun ds Q _ h => ok46 (T := TT)  ds Q h
  s37 := fun ds Q _ h => ok47 (T := TT)  ds Q h
  s38 := fun ds Q _ h => ok48 (T := TT) rfl rfl rfl ds Q h
  s39 := fun ds Q _ h => ok49 (T := TT) rfl rfl ds Q h
  s40 := fun ds Q _ h => ok50 (T := TT) rfl rfl ds Q h
  s41 := fun ds Q _ h => ok51 (T := TT) rfl rfl rfl rfl rfl ds Q h
  s42 := fun ds Q _ h => ok52 (T := TT) rfl rfl rfl rfl ds Q h
  s43 := fun ds Q _ h => ok53 (T := TT) rfl ds Q h
  s44 := fun ds Q _ h => ok54 (T := TT)  ds Q h
  r45 := ⟨bent, fun ds Q h => by obtain ⟨_, _, _, h, _⟩ := h; exact absurd h (Nat.not_lt_zero _), rfl, fun m ds Q _ h => ok55 (T := TT.up 55 (bent m)) rfl rfl rfl m rfl ds Q h⟩
  s46 := fun ds Q _ h => ok56 (T := TT) rfl rfl rfl ds Q h
  s47 := fun ds Q _ h => ok57 (T := TT) rfl rfl ds Q h
  s48 := fun ds Q _ h => ok502 (T := TT) rfl rfl rfl rfl rfl rfl rfl rfl rfl rfl rfl rfl ds Q h
  s49 := fun ds Q _ h => ok503 (T := TT) rfl rfl ds Q h
end Kt
set_option maxRecDepth 100000 in
theorem PySem.Challenge.cw_deedhouses_k02_houses_starts_and_weighte_holds : PySem.Challenge.rw_deedhouses_k02_houses_starts_and_weighte.Holds := by
  exact law_holds Kt.TT Kt.specs fun ns hl => ⟨ns, rfl, hl, rfl⟩
