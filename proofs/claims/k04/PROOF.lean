import PyProof.Rows.All
import Wide.All
import OpenK.AllK
import Wide.FinOn
import HandS.ForMost
import HandS.IsInst
import HandS.Small
import HandS.TupAny
import HandS.Wide
import HandS.Deep
import HandS.Records
import HandS.Flow
import HandS.More
import HandS.Conv
import HandS.Style
import HandS.WordsDict
import HandS.Iter
import HandS.DictComp
import HandS.NoneIn
import HandS.Ends
import KE.KDictPairs
import KE.KSortTupG
import PyProof.Rows.SortShellAny
import PyProof.Rows.StrRev
import PySem.Challenge.RW_firstfailing_k04_whole_at_most
set_option Elab.async false
set_option linter.all false
set_option maxRecDepth 100000
set_option maxHeartbeats 8000000
/-! Tuples that are made: their object is known, it has no dict. -/
namespace DL
open PySem PySem.Spec PyProof.Rows L2
def tupO (its : List Value) : Obj := { cls := .type "tuple", data := .seq its.toArray }
section
variable {X : Cx} {pins : List (Addr × Obj)} {σ : L2.St} {H : Hp} {s : Shared}
theorem laidT {xs : List V} {its : List Value} (I : Inv X pins σ H s) (r : Vals xs its) (hz : xs.length ≤ sizeLine) :
    Inv X pins σ (upd H s.heap.objs.size (.frz (tupO its) (.tup xs))) { s with heap := s.heap.push (tupO its) } :=
  I.laid (t' := s.toks) (fun b o e => Heap.get?_push_of_some _ e) (Nat.le_refl _) (show ObjOk X.prog X.w _ _ _ (.frz (tupO its) (.tup xs)) from ⟨Heap.get?_push_size _ rfl, hz, its, r, IsTup.new _ _⟩)
/-- what a tuple that is made is: any place, any such object -/
def NewT (H : Hp) (xs : List V) (Q : VK) : Prop := ∀ p o, H p = none → o.dict = none → Q (.ref p) (upd H p (.frz o (.tup xs)))
theorem newT_ok {xs : List V} {its : List Value} {Q : VK} (I : Inv X pins σ H s) (r : Vals xs its) (hz : xs.length ≤ sizeLine) (q : NewT H xs Q) : EP X pins σ Q (.ref s.heap.objs.size) { s with heap := s.heap.push (tupO its) } :=
  ⟨.ref s.heap.objs.size, _, laidT I r hz, rfl, q _ (tupO its) (I.hok.fresh (Nat.le_refl _)) rfl⟩
def tTupF (t : TA) : TE := fun σ H Q => t σ H fun xs H1 => xs.length ≤ sizeLine ∧ NewT H1 xs Q
theorem pe_tupF {es : List Expr} {t : TA} {pos : Pos} {x1} (h : PA X es t) : PE X (.Tuple es x1 pos) (tTupF t) where
  run := by
    intro pins s σ H Q I hq
    refine wpAny_Tuple_spliced (thn (h.run pos pins s σ H _ I hq) ?_)
    rintro us s1 ⟨xs, H1, I1, r, z, q⟩
    exact ⟨by rw [← r.length]; exact z, newT_ok I1 r z q⟩
def rTupF (K : PySem.W.Frag) : List V → Hp → VK → Prop := fun xs H Q => ∃ p ys, xs = [.ref p] ∧ ((SqL K H p ys ∧ NewT H ys Q) ∨ (SqT K H p ys ∧ Q (.ref p) H))
theorem call_tupF : CallR X (.type "tuple") (rTupF X.K) := by
  intro pins s σ H xs us Q I r ⟨p, ys, ex, h⟩
  subst ex
  obtain ⟨u, eu, rx⟩ := vals1 r
  subst eu
  cases rx
  rcases h with ⟨hq, q⟩ | ⟨hq, q⟩
  · obtain ⟨its, rv, pl, hz⟩ := I.list hq
    have hl := rv.length
    refine call_tuple_list pl.isList (fun h' kp => ?_) (by rw [List.size_toArray]; omega)
    exact newT_ok (s := { s with heap := h' }) (I.kept (t' := s.toks) kp) rv hz q
  · obtain ⟨its, rv, pl, hz⟩ := I.tuple hq
    exact call_tuple_same pl ⟨.ref p, H, I, rfl, q⟩
def rCatF (K : PySem.W.Frag) : R2 := fun x y H Q => ∃ a b xs ys, x = .ref a ∧ y = .ref b ∧ SqT K H a xs ∧ SqT K H b ys ∧ xs.length + ys.length ≤ sizeLine ∧ (xs = [] → Q (.ref b) H) ∧ (xs ≠ [] → ys = [] → Q (.ref a) H) ∧ (xs ≠ [] → ys ≠ [] → NewT H (xs ++ ys) Q)
theorem op_catF : OpR X (binaryOp .Add) (rCatF X.K) := by
  intro pins s σ H x y v u Q I rx ry ⟨a, b, xs, ys, ex, ey, ha, hb, hz, q0, q1, q2⟩
  subst ex ey
  by_cases hx : xs = []
  · exact op_catA pins s σ H _ _ v u Q I rx ry ⟨a, b, xs, ys, rfl, rfl, ha, hb, hz, q0, fun c => absurd hx c, fun c => absurd hx c⟩
  · cases rx
    cases ry
    obtain ⟨its, ra, pa, _⟩ := I.tuple ha
    obtain ⟨jts, rb, pb, _⟩ := I.tuple hb
    have hz' : its.length + jts.length ≤ sizeLine := by rw [← ra.length, ← rb.length]; exact hz
    refine HT.cat_tup pa pb (fun c => hx (ra.nil_iff.mp c)) (fun c => ⟨.ref a, H, I, rfl, q1 hx (rb.nil_iff.mp c)⟩) (fun c => ?_) hz'
    exact newT_ok I (ra.append rb) (by rw [List.length_append]; exact hz) (q2 hx fun e => c (rb.nil_iff.mpr e))
def rSlF (K : PySem.W.Frag) : V → Option Int → Option Int → Hp → VK → Prop := fun x lo hi H Q => ∃ a xs, x = .ref a ∧ SqT K H a xs ∧
  (HT.sIx xs.length 0 lo = 0 ∧ HT.sIx xs.length xs.length hi = xs.length → Q (.ref a) H) ∧ (¬ (HT.sIx xs.length 0 lo = 0 ∧ HT.sIx xs.length xs.length hi = xs.length) → NewT H (cutV xs lo hi) Q)
theorem sl_tupF : SlR X (rSlF X.K) := by
  intro pins s σ H x v vl vu lo hi sl Q I rx hs pl pu ⟨a, xs, ex, hx, q1, q2⟩
  by_cases hw : HT.sIx xs.length 0 lo = 0 ∧ HT.sIx xs.length xs.length hi = xs.length
  · exact sl_tupA pins s σ H x v vl vu lo hi sl Q I rx hs pl pu ⟨a, xs, ex, hx, q1, fun c => absurd hw c⟩
  · subst ex
    cases rx
    obtain ⟨its, r, ht, hz⟩ := I.tuple hx
    have hl : its.toArray.size = xs.length := by rw [List.size_toArray, r.length]
    refine ⟨"tuple", _, PyProof.Rows.slot_tuple_getitem.lookup, ht.typeIs, HT.getItem_tuple_cut ht hs pl pu (by rw [hl]; exact hw) ?_ (by rw [hl]; exact hz)⟩
    rw [hl]
    exact newT_ok I ((r.drop _).take _) (Nat.le_trans (cutV_length xs lo hi) hz) (q2 hw)
end
end DL
/-! Data without addresses over the hand layer: expressions and statements read as plain functions of data. -/
namespace DL
open PySem PySem.Spec PyProof.Rows L2

/-- plain data; a handle names an object of the store -/
inductive Dt where
  | non | bl (b : Bool) | int (i : Int) | str (x : Str)
  | tup (xs : List Dt) | lst (xs : List Dt) | dct (kvs : List (Key × Dt)) | ref (a : Addr) | scr (ns : List Int)

abbrev Env := List (Option Dt)
abbrev Sto := List (Addr × Dt)
abbrev Fe := Env → Sto → Option (Dt × Sto)

/-- a tuple that has no dict, or whose first item is no reference -/
def PlT (K : PySem.W.Frag) (F : Hp) (a : Addr) (xs : List V) : Prop := (∃ o, F a = some (.frz o (.tup xs)) ∧ o.dict = none) ∨ (∃ o, K.lookup a = some o ∧ o.dict = none) ∨ ∃ x r, xs = x :: r ∧ ∀ b, x ≠ .ref b
theorem PlT.mono {K : PySem.W.Frag} {F F' : Hp} {a : Addr} {xs : List V} (e : Same F F') (h : PlT K F a xs) : PlT K F' a xs := by
  rcases h with ⟨o, h1, h2⟩ | h | h
  · exact .inl ⟨o, e _ _ h1, h2⟩
  · exact .inr (.inl h)
  · exact .inr (.inr h)
mutual
/-- a value stands for data, by the frozen part F of the heap -/
inductive Rep (K : PySem.W.Frag) (F : Hp) : V → Dt → Prop
  | non : Rep K F .non .non
  | bl (b : Bool) : Rep K F (.bl b) (.bl b)
  | int (i : Int) : Rep K F (.int i) (.int i)
  | str (x : Str) : Rep K F (.str x) (.str x)
  | ref (a : Addr) : Rep K F (.ref a) (.ref a)
  | tup {a : Addr} {xs : List V} {ds : List Dt} : SqT K F a xs → PlT K F a xs → Reps K F xs ds → Rep K F (.ref a) (.tup ds)
  | lst {a : Addr} {xs : List V} {ds : List Dt} : F a = some (.lst xs) → Reps K F xs ds → Rep K F (.ref a) (.lst ds)
  | scr {a : Addr} {ns : List Int} : SqL K F a (ns.map V.int) → Rep K F (.ref a) (.scr ns)
  | dct {a : Addr} {od : Obj} {xs : List (Key × V)} {ds : List (Key × Dt)} : F a = some (.frz od (.dK xs)) → Repk K F xs ds → Rep K F (.ref a) (.dct ds)
inductive Reps (K : PySem.W.Frag) (F : Hp) : List V → List Dt → Prop
  | nil : Reps K F [] []
  | cons {v : V} {vs : List V} {d : Dt} {ds : List Dt} : Rep K F v d → Reps K F vs ds → Reps K F (v :: vs) (d :: ds)
inductive Repk (K : PySem.W.Frag) (F : Hp) : List (Key × V) → List (Key × Dt) → Prop
  | nil : Repk K F [] []
  | cons {k : Key} {v : V} {vs : List (Key × V)} {d : Dt} {ds : List (Key × Dt)} : Rep K F v d → Repk K F vs ds → Repk K F ((k, v) :: vs) ((k, d) :: ds)
end

theorem sqT_same {K : PySem.W.Frag} {H H' : Hp} {a : Addr} {xs : List V} (e : Same H H') (h : SqT K H a xs) : SqT K H' a xs := by
  rcases h with (h | ⟨o, h⟩) | h
  · exact .inl (.inl (e _ _ h))
  · exact .inl (.inr ⟨o, e _ _ h⟩)
  · exact .inr h

section
variable {K : PySem.W.Frag} {F F' : Hp}
mutual
theorem Rep.mono (e : Same F F') : ∀ (d : Dt) (v : V), Rep K F v d → Rep K F' v d
  | .non, _, h => by cases h; exact .non
  | .bl b, _, h => by cases h; exact .bl b
  | .int i, _, h => by cases h; exact .int i
  | .str x, _, h => by cases h; exact .str x
  | .ref a, _, h => by cases h; exact .ref a
  | .tup ds, _, h => by
    cases h with
    | tup h1 hp h2 => exact .tup (sqT_same e h1) (hp.mono e) (Reps.mono e ds _ h2)
  | .lst ds, _, h => by
    cases h with
    | lst h1 h2 => exact .lst (e _ _ h1) (Reps.mono e ds _ h2)
  | .scr ns, _, h => by
    cases h with
    | scr h1 => exact .scr (e.seq h1)
  | .dct ks, _, h => by
    cases h with
    | dct h1 h2 => exact .dct (e _ _ h1) (Repk.mono e ks _ h2)
theorem Reps.mono (e : Same F F') : ∀ (ds : List Dt) (vs : List V), Reps K F vs ds → Reps K F' vs ds
  | [], _, h => by cases h; exact .nil
  | d :: ds, _, h => by
    cases h with
    | cons h1 h2 => exact .cons (Rep.mono e d _ h1) (Reps.mono e ds _ h2)
theorem Repk.mono (e : Same F F') : ∀ (ds : List (Key × Dt)) (vs : List (Key × V)), Repk K F vs ds → Repk K F' vs ds
  | [], _, h => by cases h; exact .nil
  | (k, d) :: ds, _, h => by
    cases h with
    | cons h1 h2 => exact .cons (Rep.mono e d _ h1) (Repk.mono e ds _ h2)
end
theorem Reps.length : ∀ {vs : List V} {ds : List Dt}, Reps K F vs ds → vs.length = ds.length
  | [], [], _ => rfl
  | [], _ :: _, h => by cases h
  | _ :: _, [], h => by cases h
  | _ :: vs, _ :: ds, h => by
    cases h with
    | cons h1 h2 => rw [List.length_cons, List.length_cons, Reps.length h2]
theorem Reps.get : ∀ {vs : List V} {ds : List Dt} {i : Nat} {d : Dt}, Reps K F vs ds → ds[i]? = some d → ∃ v, vs[i]? = some v ∧ Rep K F v d
  | [], [], _, _, _, e => by simp at e
  | [], _ :: _, _, _, h, _ => by cases h
  | _ :: _, [], _, _, h, _ => by cases h
  | v :: vs, d :: ds, 0, d', h, e => by
    cases h with
    | cons h1 h2 =>
      have e' : d = d' := by simpa using e
      subst e'
      exact ⟨v, rfl, h1⟩
  | v :: vs, d :: ds, i + 1, d', h, e => by
    cases h with
    | cons h1 h2 =>
      obtain ⟨u, e1, r⟩ := Reps.get (i := i) h2 (by simpa using e)
      exact ⟨u, by simpa using e1, r⟩
theorem Reps.append : ∀ {vs us : List V} {ds es : List Dt}, Reps K F vs ds → Reps K F us es → Reps K F (vs ++ us) (ds ++ es)
  | [], _, [], _, _, h => h
  | [], _, _ :: _, _, h, _ => by cases h
  | _ :: _, _, [], _, h, _ => by cases h
  | _ :: _, _, _ :: _, _, h, h' => by
    cases h with
    | cons h1 h2 => exact .cons h1 (Reps.append h2 h')
theorem Reps.take : ∀ {vs : List V} {ds : List Dt} (n : Nat), Reps K F vs ds → Reps K F (vs.take n) (ds.take n)
  | _, _, 0, _ => .nil
  | [], [], _ + 1, _ => .nil
  | [], _ :: _, _, h => by cases h
  | _ :: _, [], _, h => by cases h
  | _ :: _, _ :: _, n + 1, h => by
    cases h with
    | cons h1 h2 => exact .cons h1 (Reps.take n h2)
theorem Reps.drop : ∀ {vs : List V} {ds : List Dt} (n : Nat), Reps K F vs ds → Reps K F (vs.drop n) (ds.drop n)
  | _, _, 0, h => h
  | [], [], _ + 1, _ => .nil
  | [], _ :: _, _, h => by cases h
  | _ :: _, [], _, h => by cases h
  | _ :: _, _ :: _, n + 1, h => by
    cases h with
    | cons h1 h2 => exact Reps.drop n h2
theorem Reps.snoc {vs : List V} {ds : List Dt} {v : V} {d : Dt} (h : Reps K F vs ds) (h' : Rep K F v d) : Reps K F (vs ++ [v]) (ds ++ [d]) := h.append (.cons h' .nil)
theorem Reps.reverse : ∀ {vs : List V} {ds : List Dt}, Reps K F vs ds → Reps K F vs.reverse ds.reverse
  | [], [], _ => .nil
  | [], _ :: _, h => by cases h
  | _ :: _, [], h => by cases h
  | _ :: _, _ :: _, h => by
    cases h with
    | cons h1 h2 => rw [List.reverse_cons, List.reverse_cons]; exact (Reps.reverse h2).snoc h1
theorem Reps.strs : ∀ (xs : List Str), Reps K F (xs.map V.str) (xs.map Dt.str)
  | [] => .nil
  | x :: xs => .cons (.str x) (Reps.strs xs)
theorem Reps.ints : ∀ (xs : List Int), Reps K F (xs.map V.int) (xs.map Dt.int)
  | [] => .nil
  | x :: xs => .cons (.int x) (Reps.ints xs)
theorem Reps.of_strs : ∀ {vs : List V} {xs : List Str}, Reps K F vs (xs.map Dt.str) → vs = xs.map V.str
  | [], [], _ => rfl
  | [], _ :: _, h => by cases h
  | _ :: _, [], h => by cases h
  | _ :: _, _ :: _, h => by
    cases h with
    | cons h1 h2 => cases h1; rw [Reps.of_strs h2]; rfl
theorem Reps.of_ints : ∀ {vs : List V} {xs : List Int}, Reps K F vs (xs.map Dt.int) → vs = xs.map V.int
  | [], [], _ => rfl
  | [], _ :: _, h => by cases h
  | _ :: _, [], h => by cases h
  | _ :: _, _ :: _, h => by
    cases h with
    | cons h1 h2 => cases h1; rw [Reps.of_ints h2]; rfl
theorem Reps.of_bls : ∀ {vs : List V} {xs : List Bool}, Reps K F vs (xs.map Dt.bl) → vs = xs.map V.bl
  | [], [], _ => rfl
  | [], _ :: _, h => by cases h
  | _ :: _, [], h => by cases h
  | _ :: _, _ :: _, h => by
    cases h with
    | cons h1 h2 => cases h1; rw [Reps.of_bls h2]; rfl
end

/-- an object stands for data -/
inductive ObR (K : PySem.W.Frag) (F : Hp) : HO → Dt → Prop
  | lst {vs : List V} {ds : List Dt} : Reps K F vs ds → ObR K F (.lst vs) (.lst ds)
  | dct {vs : List (Key × V)} {ds : List (Key × Dt)} : Repk K F vs ds → ObR K F (.dK vs) (.dct ds)
theorem ObR.mono {K : PySem.W.Frag} {F F' : Hp} (e : Same F F') {o : HO} {d : Dt} (h : ObR K F o d) : ObR K F' o d := by
  cases h with
  | lst h => exact .lst (Reps.mono e _ _ h)
  | dct h => exact .dct (Repk.mono e _ _ h)

/-- what holds of the frozen part, the heap, the store -/
structure Bs (K : PySem.W.Frag) (ft : List Addr) (F H : Hp) (s : Sto) : Prop where
  sub : Same F H
  ad : s.map (·.1) = ft
  nd : ft.Nodup
  st : ∀ a d, (a, d) ∈ s → ∃ o, H a = some o ∧ ObR K F o d
  fr : ∀ a, a ∈ ft → F a = none
/-- from here to there: nothing that was tracked is changed but the store -/
structure Go (ft : List Addr) (F H F' H' : Hp) : Prop where
  ext : ∀ a o, H a = some o → a ∉ ft → H' a = some o
  sam : Same F F'
  new : ∀ a o, F' a = some o → F a = some o ∨ H a = none
theorem Go.refl {ft : List Addr} {F H : Hp} : Go ft F H F H := ⟨fun _ _ e _ => e, Same.refl _, fun _ _ e => .inl e⟩
theorem Bs.has {K : PySem.W.Frag} {ft : List Addr} {F H : Hp} {s : Sto} (b : Bs K ft F H s) {a : Addr} (h : a ∈ ft) : ∃ d o, (a, d) ∈ s ∧ H a = some o ∧ ObR K F o d := by
  rw [← b.ad] at h
  obtain ⟨p, hp, e⟩ := List.mem_map.mp h
  obtain ⟨a', d⟩ := p
  have e' : a' = a := e
  subst e'
  obtain ⟨o, h1, h2⟩ := b.st _ _ hp
  exact ⟨d, o, hp, h1, h2⟩
theorem Bs.nofree {K : PySem.W.Frag} {ft : List Addr} {F H : Hp} {s : Sto} (b : Bs K ft F H s) {a : Addr} (h : H a = none) : a ∉ ft := fun hm => by
  obtain ⟨d, o, _, e, _⟩ := b.has hm
  rw [h] at e; cases e
theorem Go.trans {K : PySem.W.Frag} {ft : List Addr} {F H F1 H1 F2 H2 : Hp} {s : Sto} (a : Go ft F H F1 H1) (b : Go ft F1 H1 F2 H2) (bs : Bs K ft F1 H1 s) : Go ft F H F2 H2 :=
  ⟨fun c o e n => b.ext c o (a.ext c o e n) n, a.sam.trans b.sam, fun c o e => by
    rcases b.new c o e with e1 | e1
    · exact a.new c o e1
    · right
      cases q : H c with
      | none => rfl
      | some u =>
        have := a.ext c u q (bs.nofree e1)
        rw [e1] at this; cases this⟩
theorem Go.free {K : PySem.W.Frag} {ft : List Addr} {F H F1 H1 : Hp} {s : Sto} (a : Go ft F H F1 H1) (bs : Bs K ft F1 H1 s) {c : Addr} (e1 : H1 c = none) : H c = none := by
  cases q : H c with
  | none => rfl
  | some u =>
    have := a.ext c u q (bs.nofree e1)
    rw [e1] at this; cases this
/-- a new thing is laid and frozen -/
theorem Go.lay {K : PySem.W.Frag} {ft : List Addr} {F H : Hp} {s : Sto} {p : Addr} {o : HO} (b : Bs K ft F H s) (n : H p = none) : Go ft F H (upd F p o) (upd H p o) ∧ Bs K ft (upd F p o) (upd H p o) s := by
  have nF : F p = none := by
    cases q : F p with
    | none => rfl
    | some u => have := b.sub p u q; rw [n] at this; cases this
  have nft := b.nofree n
  have sF : Same F (upd F p o) := fun c u e => by rw [upd_ne (ne_of_none e nF)]; exact e
  refine ⟨⟨fun c u e _ => by rw [upd_ne (ne_of_none e n)]; exact e, sF, fun c u e => ?_⟩, ⟨fun c u e => ?_, b.ad, b.nd, fun a d h => ?_, fun a h => ?_⟩⟩
  · by_cases hc : c = p
    · subst hc; exact .inr n
    · rw [upd_ne hc] at e; exact .inl e
  · by_cases hc : c = p
    · subst hc; rw [upd_same] at e ⊢; exact e
    · rw [upd_ne hc] at e ⊢; exact b.sub c u e
  · obtain ⟨ob, e, r⟩ := b.st a d h
    exact ⟨ob, by rw [upd_ne (ne_of_none e n)]; exact e, r.mono sF⟩
  · rw [upd_ne (fun (z : a = p) => nft (z ▸ h))]; exact b.fr a h
/-- a new thing is laid, not frozen -/
theorem Go.made {K : PySem.W.Frag} {ft : List Addr} {F H : Hp} {s : Sto} {p : Addr} {o : HO} (b : Bs K ft F H s) (n : H p = none) : Go ft F H F (upd H p o) ∧ Bs K ft F (upd H p o) s ∧ F p = none := by
  have nF : F p = none := by
    cases q : F p with
    | none => rfl
    | some u => have := b.sub p u q; rw [n] at this; cases this
  refine ⟨⟨fun c u e _ => by rw [upd_ne (ne_of_none e n)]; exact e, Same.refl _, fun c u e => .inl e⟩, ⟨fun c u e => by rw [upd_ne (ne_of_none e nF)]; exact b.sub c u e, b.ad, b.nd, fun a d h => ?_, b.fr⟩, nF⟩
  obtain ⟨ob, e, r⟩ := b.st a d h
  exact ⟨ob, by rw [upd_ne (ne_of_none e n)]; exact e, r⟩
/-- an object that is nobody else's is frozen -/
theorem Go.frost {K : PySem.W.Frag} {ft : List Addr} {F H F1 H1 : Hp} {s : Sto} {p : Addr} {o : HO} (g : Go ft F H F1 H1) (b : Bs K ft F1 H1 s) (n : H p = none) (n1 : F1 p = none) (e : H1 p = some o) (nf : p ∉ ft) : Go ft F H (upd F1 p o) H1 ∧ Bs K ft (upd F1 p o) H1 s := by
  have sF : Same F1 (upd F1 p o) := fun c u e => by rw [upd_ne (ne_of_none e n1)]; exact e
  refine ⟨⟨g.ext, g.sam.trans sF, fun c u e' => ?_⟩, ⟨fun c u e' => ?_, b.ad, b.nd, fun a d h => ?_, fun a h => ?_⟩⟩
  · by_cases hc : c = p
    · subst hc; exact .inr n
    · rw [upd_ne hc] at e'; exact g.new c u e'
  · by_cases hc : c = p
    · subst hc; rw [upd_same] at e'; rw [e]; exact e'
    · rw [upd_ne hc] at e'; exact b.sub c u e'
  · obtain ⟨ob, e, r⟩ := b.st a d h
    exact ⟨ob, e, r.mono sF⟩
  · rw [upd_ne (fun (z : a = p) => nf (z ▸ h))]; exact b.fr a h
theorem ObR.rep {K : PySem.W.Frag} {F : Hp} {p : Addr} {xs : List V} {d : Dt} (h : ObR K F (.lst xs) d) (n : F p = none) : Rep K (upd F p (.lst xs)) (.ref p) d := by
  have sF : Same F (upd F p (.lst xs)) := fun c u e => by rw [upd_ne (ne_of_none e n)]; exact e
  cases h with
  | lst h => exact .lst upd_same (Reps.mono sF _ _ h)
theorem ObR.repL {K : PySem.W.Frag} {F : Hp} {p : Addr} {od : Obj} {xs : List (Key × V)} {d : Dt} (h : ObR K F (.dK xs) d) (n : F p = none) : Rep K (upd F p (.frz od (.dK xs))) (.ref p) d := by
  have sF : Same F (upd F p (.frz od (.dK xs))) := fun c u e => by rw [upd_ne (ne_of_none e n)]; exact e
  cases h with
  | dct h => exact .dct upd_same (Repk.mono sF _ _ h)
/-- .. a dict, which is locked -/
theorem Go.frostL {K : PySem.W.Frag} {ft : List Addr} {F H F1 H1 : Hp} {s : Sto} {p : Addr} {o o' : HO} (g : Go ft F H F1 H1) (b : Bs K ft F1 H1 s) (n : H p = none) (n1 : F1 p = none) (e : H1 p = some o) (nf : p ∉ ft) : Go ft F H (upd F1 p o') (upd H1 p o') ∧ Bs K ft (upd F1 p o') (upd H1 p o') s := by
  have sF : Same F1 (upd F1 p o') := fun c u e => by rw [upd_ne (ne_of_none e n1)]; exact e
  refine ⟨⟨fun c u e' nc => ?_, g.sam.trans sF, fun c u e' => ?_⟩, ⟨fun c u e' => ?_, b.ad, b.nd, fun a d h => ?_, fun a h => ?_⟩⟩
  · rw [upd_ne (ne_of_none e' n)]; exact g.ext c u e' nc
  · by_cases hc : c = p
    · subst hc; exact .inr n
    · rw [upd_ne hc] at e'; exact g.new c u e'
  · by_cases hc : c = p
    · subst hc; rw [upd_same] at e' ⊢; exact e'
    · rw [upd_ne hc] at e' ⊢; exact b.sub c u e'
  · obtain ⟨ob, e, r⟩ := b.st a d h
    have ha : a ∈ ft := by rw [← b.ad]; exact List.mem_map.mpr ⟨_, h, rfl⟩
    exact ⟨ob, by rw [upd_ne (fun (z : a = p) => nf (z ▸ ha))]; exact e, r.mono sF⟩
  · rw [upd_ne (fun (z : a = p) => nf (z ▸ h))]; exact b.fr a h
/-- things may be locked for good -/
inductive Lk (φ : Hp → Prop) : Hp → Prop
  | done {H : Hp} : φ H → Lk φ H
  | lock {H : Hp} {d : Addr} {u : HO} : H d = some u → Mut (some u) → (∀ od, Lk φ (upd H d (.frz od u))) → Lk φ H
theorem Lk.imp {φ ψ : Hp → Prop} {H : Hp} (h : Lk φ H) (k : ∀ H', φ H' → ψ H') : Lk ψ H := by
  induction h with
  | done h => exact .done (k _ h)
  | lock e m _ ih => exact .lock e m ih
theorem Lk.inv {X : Cx} {pins : List (Addr × Obj)} {σ : L2.St} {H : Hp} {s : Shared} {φ : Hp → Prop} (l : Lk φ H) (I : Inv X pins σ H s) : ∃ H', Inv X pins σ H' s ∧ φ H' := by
  induction l with
  | done h => exact ⟨_, I, h⟩
  | lock e m _ ih =>
    obtain ⟨od, I1⟩ := I.lock e m
    exact ih od I1

/-- what is fixed while a def runs: the store's addresses, the heap and its frozen part at the entry -/
structure Gd where
  ft : List Addr
  he : Hp
  f0 : Hp

/-- the names: those of O own their object, the others are frozen -/
structure Sl (K : PySem.W.Frag) (g : Gd) (O : List Nat) (F H : Hp) (σ : L2.St) (env : Env) : Prop where
  len : σ.length = env.length
  pu : ∀ i d, i ∉ O → env[i]? = some (some d) → ∃ v, σ[i]? = some (some v) ∧ Rep K F v d
  ow : ∀ i, i ∈ O → ∃ p o d, σ[i]? = some (some (.ref p)) ∧ env[i]? = some (some d) ∧ H p = some o ∧ ObR K F o d ∧ F p = none ∧ p ∉ g.ft ∧ g.he p = none
  di : ∀ i j p, i ∈ O → j ∈ O → σ[i]? = some (some (.ref p)) → σ[j]? = some (some (.ref p)) → i = j
structure Stt (K : PySem.W.Frag) (g : Gd) (O : List Nat) (F H : Hp) (σ : L2.St) (env : Env) (s : Sto) : Prop where
  bs : Bs K g.ft F H s
  sl : Sl K g O F H σ env
  go : Go g.ft g.f0 g.he F H

section
variable {K : PySem.W.Frag} {g : Gd} {O : List Nat} {F H F' H' : Hp} {σ : L2.St} {env : Env} {s s' : Sto}
theorem Sl.step (h : Sl K g O F H σ env) (x : Go g.ft F H F' H') : Sl K g O F' H' σ env where
  len := h.len
  pu := fun i d hi e => by
    obtain ⟨v, e1, r⟩ := h.pu i d hi e
    exact ⟨v, e1, Rep.mono x.sam _ _ r⟩
  ow := fun i hi => by
    obtain ⟨p, o, d, e1, e2, e3, r, n, nf, nh⟩ := h.ow i hi
    refine ⟨p, o, d, e1, e2, x.ext p o e3 nf, r.mono x.sam, ?_, nf, nh⟩
    cases q : F' p with
    | none => rfl
    | some u =>
      rcases x.new p u q with z | z
      · rw [n] at z; cases z
      · rw [e3] at z; cases z
  di := h.di
theorem Stt.step (h : Stt K g O F H σ env s) (x : Go g.ft F H F' H') (b : Bs K g.ft F' H' s') : Stt K g O F' H' σ env s' :=
  ⟨b, h.sl.step x, h.go.trans x h.bs⟩
end

/-! ### readings -/
/-- the expression's value is f's, frozen -/
def tD (K : PySem.W.Frag) (O : List Nat) (f : Fe) : TE := fun σ H Q => ∃ g F env s d s', Stt K g O F H σ env s ∧ f env s = some (d, s') ∧
  ∀ v F' H', Go g.ft F H F' H' → Bs K g.ft F' H' s' → Rep K F' v d → Q v H'
/-- .. frozen, or somebody's own -/
def RepB (K : PySem.W.Frag) (ft : List Addr) (F H : Hp) (v : V) (d : Dt) : Prop := Rep K F v d ∨ ∃ p o, v = .ref p ∧ H p = some o ∧ ObR K F o d ∧ p ∉ ft
def tB (K : PySem.W.Frag) (O : List Nat) (f : Fe) : TE := fun σ H Q => ∃ g F env s d s', Stt K g O F H σ env s ∧ f env s = some (d, s') ∧
  ∀ v F' H', Go g.ft F H F' H' → Bs K g.ft F' H' s' → RepB K g.ft F' H' v d → Q v H'
/-- .. a new object, nobody's yet -/
def tN (K : PySem.W.Frag) (O : List Nat) (f : Fe) : TE := fun σ H Q => ∃ g F env s d s', Stt K g O F H σ env s ∧ f env s = some (d, s') ∧
  ∀ p o F' H', Go g.ft F H F' H' → Bs K g.ft F' H' s' → H p = none → F' p = none → H' p = some o → ObR K F' o d → Q (.ref p) H'

section
variable {X : Cx} {e : Expr}
theorem pe_imp {t t' : TE} (h : PE X e t) (k : ∀ σ H Q, t' σ H Q → t σ H Q) : PE X e t' := ⟨fun pins s σ H Q I q => h.run pins s σ H Q I (k σ H Q q)⟩
variable {K : PySem.W.Frag} {O : List Nat} {f : Fe}
theorem RepB.step {ft : List Addr} {F H F' H' : Hp} {v : V} {d : Dt} (r : RepB K ft F H v d) (x : Go ft F H F' H') : RepB K ft F' H' v d := by
  rcases r with r | ⟨p, o, rfl, e, r, n⟩
  · exact .inl (Rep.mono x.sam _ _ r)
  · exact .inr ⟨p, o, rfl, x.ext p o e n, r.mono x.sam, n⟩
theorem b_of_d (h : PE X e (tD K O f)) : PE X e (tB K O f) := pe_imp h fun σ H Q ⟨g, F, env, s, d, s', st, hf, k⟩ => ⟨g, F, env, s, d, s', st, hf, fun v F' H' x b r => k v F' H' x b (.inl r)⟩
theorem b_of_n (h : PE X e (tN K O f)) : PE X e (tB K O f) := pe_imp h fun σ H Q ⟨g, F, env, s, d, s', st, hf, k⟩ =>
  ⟨g, F, env, s, d, s', st, hf, fun p o F' H' x b n _ e r => k (.ref p) F' H' x b (.inr ⟨p, o, rfl, e, r, st.bs.nofree n⟩)⟩
theorem pe_lk {t : TE} (h : PE X e t) : PE X e (fun σ H Q => t σ H fun v H1 => Lk (Q v) H1) := by
  refine ⟨fun pins s σ H Q I hw => thn (h.run pins s σ H _ I hw) fun v s1 ⟨x, H1, I2, r, q⟩ => ?_⟩
  obtain ⟨H2, I3, q2⟩ := q.inv I2
  exact ⟨x, H2, I3, r, q2⟩
theorem own_lk {ft : List Addr} {F H F' H' : Hp} {s s' : Sto} {p : Addr} {o : HO} {d : Dt} {Q : Hp → Prop} (b0 : Bs K ft F H s) (x : Go ft F H F' H') (b : Bs K ft F' H' s') (n : H p = none) (n' : F' p = none) (e : H' p = some o) (r : ObR K F' o d)
    (k : ∀ F1 H1, Go ft F H F1 H1 → Bs K ft F1 H1 s' → Rep K F1 (.ref p) d → Q H1) : Lk Q H' := by
  cases r with
  | @lst vs ds q =>
    obtain ⟨x1, b1⟩ := x.frost b n n' e (b0.nofree n)
    exact .done (k _ H' x1 b1 (ObR.rep (.lst q) n'))
  | @dct vs ds q =>
    refine .lock e trivial fun od => .done ?_
    obtain ⟨x1, b1⟩ := x.frostL (o' := .frz od (.dK vs)) b n n' e (b0.nofree n)
    exact k _ _ x1 b1 (ObR.repL (.dct q) n')
theorem d_of_n (h : PE X e (tN K O f)) : PE X e (tD K O f) := pe_imp (pe_lk h) fun σ H Q ⟨g, F, env, s, d, s', st, hf, k⟩ =>
  ⟨g, F, env, s, d, s', st, hf, fun p o F' H' x b n n' e r => own_lk st.bs x b n n' e r fun F1 H1 x1 b1 rp => k (.ref p) F1 H1 x1 b1 rp⟩

/-! ### names, constants -/
def fVar (i : Nat) : Fe := fun env s => (env[i]?.join).map fun d => (d, s)
def fC (d : Dt) : Fe := fun _ s => some (d, s)
theorem d_var {i : Nat} (hi : i ∉ O) (h : PE X e (tVar i)) : PE X e (tD K O (fVar i)) := pe_imp h fun σ H Q ⟨g, F, env, s, d, s', st, hf, k⟩ => by
  unfold fVar at hf
  cases q : env[i]? with
  | none => rw [q] at hf; cases hf
  | some y =>
    cases y with
    | none => rw [q] at hf; cases hf
    | some d' =>
      rw [q] at hf
      cases hf
      obtain ⟨v, e1, r⟩ := st.sl.pu i d hi q
      exact ⟨v, e1, k v F H Go.refl st.bs r⟩
theorem b_var {i : Nat} (h : PE X e (tVar i)) : PE X e (tB K O (fVar i)) := pe_imp h fun σ H Q ⟨g, F, env, s, d, s', st, hf, k⟩ => by
  unfold fVar at hf
  cases q : env[i]? with
  | none => rw [q] at hf; cases hf
  | some y =>
    cases y with
    | none => rw [q] at hf; cases hf
    | some d' =>
      rw [q] at hf
      cases hf
      by_cases hi : i ∈ O
      · obtain ⟨p, o, d', e1, e2, e3, r, n, nf, _⟩ := st.sl.ow i hi
        rw [q] at e2; cases e2
        exact ⟨.ref p, e1, k _ F H Go.refl st.bs (.inr ⟨p, o, rfl, e3, r, nf⟩)⟩
      · obtain ⟨v, e1, r⟩ := st.sl.pu i d hi q
        exact ⟨v, e1, k v F H Go.refl st.bs (.inl r)⟩
theorem d_c {v : V} {d : Dt} (h : PE X e (tC v)) (r : ∀ F, Rep K F v d) : PE X e (tD K O (fC d)) := pe_imp h fun σ H Q ⟨g, F, env, s, d', s', st, hf, k⟩ => by
  cases hf
  exact k v F H Go.refl st.bs (r F)
theorem d_int {i j pos} : PE X (.Constant (.int i) j pos) (tD K O (fC (.int i))) := d_c pe_int fun _ => .int i
theorem d_str {x j pos} : PE X (.Constant (.str x) j pos) (tD K O (fC (.str x))) := d_c pe_str fun _ => .str x
theorem d_bl {b j pos} : PE X (.Constant (.bool b) j pos) (tD K O (fC (.bl b))) := d_c pe_bl fun _ => .bl b
theorem d_non {j pos} : PE X (.Constant .none j pos) (tD K O (fC .non)) := d_c pe_non fun _ => .non
end

/-! ### operators by values -/
def bind2 (fa fb : Fe) (g : Sto → Dt → Dt → Option Dt) : Fe := fun env s => do
  let (x, s1) ← fa env s
  let (y, s2) ← fb env s1
  let z ← g s2 x y
  some (z, s2)
/-- an operator of values computes g of data -/
def OpD (K : PySem.W.Frag) (r : R2) (g : Sto → Dt → Dt → Option Dt) : Prop := ∀ (ft : List Addr) (F H : Hp) (s : Sto) (v w : V) (x y z : Dt) (Q : VK), Bs K ft F H s → RepB K ft F H v x → RepB K ft F H w y → g s x y = some z →
  (∀ u F' H', Go ft F H F' H' → Bs K ft F' H' s → Rep K F' u z → Q u H') → r v w H Q
/-- .. makes a new object -/
def OpN (K : PySem.W.Frag) (r : R2) (g : Sto → Dt → Dt → Option Dt) : Prop := ∀ (ft : List Addr) (F H : Hp) (s : Sto) (v w : V) (x y z : Dt) (Q : VK), Bs K ft F H s → RepB K ft F H v x → RepB K ft F H w y → g s x y = some z →
  (∀ p o, H p = none → ObR K F o z → Q (.ref p) (upd H p o)) → r v w H Q
theorem OpN.d {K : PySem.W.Frag} {r : R2} {g : Sto → Dt → Dt → Option Dt} (h : OpN K r g) (hz : ∀ s x y z, g s x y = some z → ∃ xs, z = .lst xs) : OpD K r g := fun ft F H s v w x y z Q b rx ry hg k =>
  h ft F H s v w x y z Q b rx ry hg fun p o n q => by
    obtain ⟨x1, b1⟩ := Go.lay (o := o) b n
    have nF : F p = none := (Go.made (o := o) b n).2.2
    obtain ⟨xs, rfl⟩ := hz s x y z hg
    cases q with
    | lst q => exact k (.ref p) _ _ x1 b1 (ObR.rep (.lst q) nF)
section
variable {X : Cx} {a b : Expr} {K : PySem.W.Frag} {O : List Nat} {fa fb : Fe}
theorem tOp_d {r : R2} {gg : Sto → Dt → Dt → Option Dt} (hg : OpD K r gg) (σ : L2.St) (H : Hp) (Q : VK) (h : tD K O (bind2 fa fb gg) σ H Q) : tOp r (tB K O fa) (tB K O fb) σ H Q := by
  obtain ⟨g, F, env, s, d, s', st, hf, k⟩ := h
  unfold bind2 at hf
  cases qa : fa env s with
  | none => rw [qa] at hf; cases hf
  | some pa =>
    obtain ⟨x, s1⟩ := pa
    rw [qa] at hf
    cases qb : fb env s1 with
    | none => simp [qb] at hf
    | some pb =>
      obtain ⟨y, s2⟩ := pb
      cases qg : gg s2 x y with
      | none => simp [qb, qg] at hf
      | some z =>
        simp [qb, qg] at hf
        obtain ⟨rfl, rfl⟩ := hf
        refine ⟨g, F, env, s, x, s1, st, qa, fun v F1 H1 x1 b1 r1 => ⟨g, F1, env, s1, y, s2, st.step x1 b1, qb, fun w F2 H2 x2 b2 r2 => ?_⟩⟩
        refine hg g.ft F2 H2 s2 v w x y z Q b2 (r1.step x2) r2 qg fun u F3 H3 x3 b3 r3 => ?_
        exact k u F3 H3 ((x1.trans x2 b1).trans x3 b2) b3 r3
theorem tOp_n {r : R2} {gg : Sto → Dt → Dt → Option Dt} (hg : OpN K r gg) (σ : L2.St) (H : Hp) (Q : VK) (h : tN K O (bind2 fa fb gg) σ H Q) : tOp r (tB K O fa) (tB K O fb) σ H Q := by
  obtain ⟨g, F, env, s, d, s', st, hf, k⟩ := h
  unfold bind2 at hf
  cases qa : fa env s with
  | none => rw [qa] at hf; cases hf
  | some pa =>
    obtain ⟨x, s1⟩ := pa
    rw [qa] at hf
    cases qb : fb env s1 with
    | none => simp [qb] at hf
    | some pb =>
      obtain ⟨y, s2⟩ := pb
      cases qg : gg s2 x y with
      | none => simp [qb, qg] at hf
      | some z =>
        simp [qb, qg] at hf
        obtain ⟨rfl, rfl⟩ := hf
        refine ⟨g, F, env, s, x, s1, st, qa, fun v F1 H1 x1 b1 r1 => ⟨g, F1, env, s1, y, s2, st.step x1 b1, qb, fun w F2 H2 x2 b2 r2 => ?_⟩⟩
        refine hg g.ft F2 H2 s2 v w x y z Q b2 (r1.step x2) r2 qg fun p o n q => ?_
        obtain ⟨x3, b3, n3⟩ := Go.made (o := o) b2 n
        exact k p o F2 _ ((x1.trans x2 b1).trans x3 b2) b3 ((x1.trans x2 b1).free b2 n) n3 upd_same q
end
/-- a tuple that is made is laid and frozen -/
theorem Go.layT {K : PySem.W.Frag} {ft : List Addr} {F H : Hp} {s : Sto} {p : Addr} {o : Obj} {vs : List V} {ds : List Dt} (b : Bs K ft F H s) (n : H p = none) (ho : o.dict = none) (r : Reps K F vs ds) :
    Go ft F H (upd F p (.frz o (.tup vs))) (upd H p (.frz o (.tup vs))) ∧ Bs K ft (upd F p (.frz o (.tup vs))) (upd H p (.frz o (.tup vs))) s ∧ Rep K (upd F p (.frz o (.tup vs))) (.ref p) (.tup ds) := by
  obtain ⟨x, b'⟩ := Go.lay (o := .frz o (.tup vs)) b n
  exact ⟨x, b', .tup (.inl (.inr ⟨o, upd_same⟩)) (.inl ⟨o, upd_same, ho⟩) (Reps.mono x.sam _ _ r)⟩
end DL
namespace DL
open PySem PySem.Spec PyProof.Rows L2

/-! ### plain data as the library's own -/
mutual
def py : Dt → PyData
  | .non => .none
  | .bl b => .bool b
  | .int i => .int i
  | .str x => .str x
  | .tup xs => .tuple (pys xs)
  | .lst xs => .list (pys xs)
  | .dct _ => .none
  | .ref _ => .none
  | .scr _ => .none
def pys : List Dt → List PyData
  | [] => []
  | x :: xs => py x :: pys xs
end
mutual
def plain : Dt → Bool
  | .non => true
  | .bl _ => true
  | .int _ => true
  | .str _ => true
  | .tup xs => plains xs
  | .lst xs => plains xs
  | .dct _ => false
  | .ref _ => false
  | .scr _ => false
def plains : List Dt → Bool
  | [] => true
  | x :: xs => plain x && plains xs
end
mutual
/-- data that may be compared and shown -/
def good : Dt → Bool
  | .non => true
  | .bl _ => true
  | .int i => decide (i.natAbs.log2 < 1920)
  | .str x => PyData.strOk x
  | .tup xs => goods xs
  | .lst xs => goods xs
  | .dct _ => false
  | .ref _ => false
  | .scr _ => false
def goods : List Dt → Bool
  | [] => true
  | x :: xs => good x && goods xs
end
mutual
def dep : Dt → Nat
  | .tup xs => deps xs + 1
  | .lst xs => deps xs + 1
  | _ => 0
def deps : List Dt → Nat
  | [] => 0
  | x :: xs => max (dep x) (deps xs)
end
mutual
theorem good_plain : ∀ d : Dt, good d = true → plain d = true ∧ (py d).canLay0 = true ∧ (py d).showable = true ∧ (py d).hasDict = false ∧ (py d).depth = dep d
  | .non, _ => ⟨rfl, rfl, rfl, rfl, rfl⟩
  | .bl _, _ => ⟨rfl, rfl, rfl, rfl, rfl⟩
  | .int i, h => ⟨rfl, rfl, by simpa [py, PyData.showable, good] using h, rfl, rfl⟩
  | .str x, h => ⟨rfl, by simpa [py, PyData.canLay0, good] using h, rfl, rfl, rfl⟩
  | .tup xs, h => by
    obtain ⟨h1, h2, h3, h4, h5⟩ := goods_plain xs (by simpa only [good] using h)
    exact ⟨by simpa only [plain] using h1, by simpa only [py, PyData.canLay0] using h2, by simpa only [py, PyData.showable] using h3, by simpa only [py, PyData.hasDict] using h4, by simp only [py, PyData.depth, dep, h5]⟩
  | .lst xs, h => by
    obtain ⟨h1, h2, h3, h4, h5⟩ := goods_plain xs (by simpa only [good] using h)
    exact ⟨by simpa only [plain] using h1, by simpa only [py, PyData.canLay0] using h2, by simpa only [py, PyData.showable] using h3, by simpa only [py, PyData.hasDict] using h4, by simp only [py, PyData.depth, dep, h5]⟩
  | .dct _, h => by simp only [good] at h; exact absurd h Bool.false_ne_true
  | .ref _, h => by simp only [good] at h; exact absurd h Bool.false_ne_true
  | .scr _, h => by simp only [good] at h; exact absurd h Bool.false_ne_true
theorem goods_plain : ∀ ds : List Dt, goods ds = true → plains ds = true ∧ PyData.canLayAll0 (pys ds) = true ∧ PyData.showableAll (pys ds) = true ∧ PyData.hasDictAll (pys ds) = false ∧ PyData.depthAll (pys ds) = deps ds
  | [], _ => ⟨rfl, rfl, rfl, rfl, rfl⟩
  | d :: ds, h => by
    simp only [goods, Bool.and_eq_true] at h
    obtain ⟨a1, a2, a3, a4, a5⟩ := good_plain d h.1
    obtain ⟨b1, b2, b3, b4, b5⟩ := goods_plain ds h.2
    exact ⟨by simp [plains, a1, b1], by simp [pys, PyData.canLayAll0, a2, b2], by simp [pys, PyData.showableAll, a3, b3], by simp [pys, PyData.hasDictAll, a4, b4], by simp only [pys, PyData.depthAll, deps, a5, b5]⟩
end
theorem good_shaped {d : Dt} (h : good d = true) (h' : dep d ≤ 60) : SeqAt.shaped (py d) = true := by
  obtain ⟨_, h2, _, _, h5⟩ := good_plain d h
  unfold SeqAt.shaped
  rw [h2, h5, decide_eq_true (by omega)]
  rfl
section
variable {K : PySem.W.Frag} {F H : Hp}
mutual
theorem Rep.dp (e : Same F H) : ∀ (d : Dt) (v : V), Rep K F v d → plain d = true → Dp K H v (py d)
  | .non, _, h, _ => by cases h; exact .non
  | .bl b, _, h, _ => by cases h; exact .bl b
  | .int i, _, h, _ => by cases h; exact .int i
  | .str x, _, h, _ => by cases h; exact .str x
  | .tup ds, _, h, p => by
    cases h with
    | tup h1 hp h2 => exact .tup (sqT_same e h1) (Reps.dp e ds _ h2 (by simpa only [plain] using p))
  | .lst ds, _, h, p => by
    cases h with
    | lst h1 h2 => exact .lst (SqL.of (e _ _ h1)) (Reps.dp e ds _ h2 (by simpa only [plain] using p))
  | .dct _, _, _, p => by simp only [plain] at p; exact absurd p Bool.false_ne_true
  | .ref _, _, _, p => by simp only [plain] at p; exact absurd p Bool.false_ne_true
  | .scr _, _, _, p => by simp only [plain] at p; exact absurd p Bool.false_ne_true
theorem Reps.dp (e : Same F H) : ∀ (ds : List Dt) (vs : List V), Reps K F vs ds → plains ds = true → DpAll K H vs (pys ds)
  | [], _, h, _ => by cases h; exact .nil
  | d :: ds, _, h, p => by
    cases h with
    | cons h1 h2 =>
      simp only [plains, Bool.and_eq_true] at p
      exact .cons (Rep.dp e d _ h1 p.1) (Reps.dp e ds _ h2 p.2)
end
theorem RepB.dp {ft : List Addr} {v : V} {d : Dt} (e : Same F H) (r : RepB K ft F H v d) (p : plain d = true) : Dp K H v (py d) := by
  rcases r with r | ⟨a, o, rfl, eo, r, _⟩
  · exact Rep.dp e d v r p
  · cases r with
    | lst r => exact .lst (SqL.of eo) (Reps.dp e _ _ r (by simpa only [plain] using p))
    | dct r => simp only [plain] at p; exact absurd p Bool.false_ne_true
/-- what a borrowed value of a scalar is -/
theorem RepB.str {ft : List Addr} {v : V} {x : Str} (r : RepB K ft F H v (.str x)) : v = .str x := by
  rcases r with r | ⟨a, o, rfl, eo, r, _⟩
  · cases r; rfl
  · cases r
theorem RepB.int {ft : List Addr} {v : V} {x : Int} (r : RepB K ft F H v (.int x)) : v = .int x := by
  rcases r with r | ⟨a, o, rfl, eo, r, _⟩
  · cases r; rfl
  · cases r
theorem RepB.bl {ft : List Addr} {v : V} {x : Bool} (r : RepB K ft F H v (.bl x)) : v = .bl x := by
  rcases r with r | ⟨a, o, rfl, eo, r, _⟩
  · cases r; rfl
  · cases r
theorem RepB.non {ft : List Addr} {v : V} (r : RepB K ft F H v .non) : v = .non := by
  rcases r with r | ⟨a, o, rfl, eo, r, _⟩
  · cases r; rfl
  · cases r
theorem RepB.ref {ft : List Addr} {v : V} {a : Addr} (r : RepB K ft F H v (.ref a)) : v = .ref a := by
  rcases r with r | ⟨a, o, rfl, eo, r, _⟩
  · cases r; rfl
  · cases r
theorem RepB.lst {ft : List Addr} {v : V} {ds : List Dt} {s : Sto} (b : Bs K ft F H s) (r : RepB K ft F H v (.lst ds)) : ∃ a vs, v = .ref a ∧ H a = some (.lst vs) ∧ Reps K F vs ds := by
  rcases r with r | ⟨a, o, rfl, eo, r, _⟩
  · cases r with
    | lst h1 h2 => exact ⟨_, _, rfl, b.sub _ _ h1, h2⟩
  · cases r with
    | lst r => exact ⟨_, _, rfl, eo, r⟩
theorem RepB.dct {ft : List Addr} {v : V} {ds : List (Key × Dt)} {s : Sto} (b : Bs K ft F H s) (r : RepB K ft F H v (.dct ds)) : ∃ a vs, v = .ref a ∧ Rd H a (.dK vs) ∧ Repk K F vs ds := by
  rcases r with r | ⟨a, o, rfl, eo, r, _⟩
  · cases r with
    | dct h1 h2 => exact ⟨_, _, rfl, .inr ⟨_, b.sub _ _ h1⟩, h2⟩
  · cases r with
    | dct r => exact ⟨_, _, rfl, .inl eo, r⟩
theorem RepB.tup {ft : List Addr} {v : V} {ds : List Dt} {s : Sto} (b : Bs K ft F H s) (r : RepB K ft F H v (.tup ds)) : ∃ a vs, v = .ref a ∧ SqT K H a vs ∧ Reps K F vs ds := by
  rcases r with r | ⟨a, o, rfl, eo, r, _⟩
  · cases r with
    | tup h1 hp h2 => exact ⟨_, _, rfl, sqT_same b.sub h1, h2⟩
  · cases r
theorem RepB.scr {ft : List Addr} {v : V} {ns : List Int} {s : Sto} (b : Bs K ft F H s) (r : RepB K ft F H v (.scr ns)) : ∃ a, v = .ref a ∧ SqL K H a (ns.map V.int) := by
  rcases r with r | ⟨a, o, rfl, eo, r, _⟩
  · cases r with
    | scr h1 => exact ⟨_, rfl, b.sub.seq h1⟩
  · cases r
end

/-! ### arithmetic -/
def addG (_ : Sto) : Dt → Dt → Option Dt
  | .int i, .int j => some (.int (i + j))
  | .str a, .str b => if a.length + b.length ≤ sizeLine then some (.str (a ++ b)) else none
  | .tup a, .tup b => if a.length + b.length ≤ sizeLine then some (.tup (a ++ b)) else none
  | _, _ => none
def catG (_ : Sto) : Dt → Dt → Option Dt
  | .lst a, .lst b => if a.length + b.length ≤ sizeLine then some (.lst (a ++ b)) else none
  | _, _ => none
def subG (_ : Sto) : Dt → Dt → Option Dt
  | .int i, .int j => some (.int (i - j))
  | _, _ => none
def mulG (_ : Sto) : Dt → Dt → Option Dt
  | .int i, .int j => if i.natAbs.log2 + j.natAbs.log2 < 1000000 then some (.int (i * j)) else none
  | _, _ => none
def modG (_ : Sto) : Dt → Dt → Option Dt
  | .int i, .int j => if 0 < j then some (.int (i % j)) else none
  | _, _ => none
def divG (_ : Sto) : Dt → Dt → Option Dt
  | .int i, .int j => if 0 < j ∧ j < 1073741824 then some (.int (i / j)) else none
  | _, _ => none
def powG (_ : Sto) : Dt → Dt → Option Dt
  | .int i, .int j => if 0 ≤ j ∧ j ≤ 1000000 ∧ i.natAbs < 2 ^ 64 then some (.int (i ^ j.toNat)) else none
  | _, _ => none

section
variable {X : Cx}
def rAddA (K : PySem.W.Frag) : R2 := fun x y H Q => (rI0 fun i j => .int (i + j)) x y H Q ∨ (∃ i j, x = .str i ∧ y = .str j ∧ i.length + j.length ≤ sizeLine ∧ Q (.str (i ++ j)) H) ∨ rCatF K x y H Q
theorem op_addA : OpR X (binaryOp .Add) (rAddA X.K) := op_add.or (op_add_str.or op_catF)
theorem opd_add {K : PySem.W.Frag} : OpD K (rAddA K) addG := by
  intro ft F H s v w x y z Q b rx ry hg k
  cases x <;> cases y <;> simp only [addG] at hg <;> try (cases hg; done)
  · cases hg
    exact .inl ⟨_, _, rx.int, ry.int, k _ F H Go.refl b (.int _)⟩
  · split at hg <;> cases hg
    rename_i hl
    exact .inr (.inl ⟨_, _, rx.str, ry.str, hl, k _ F H Go.refl b (.str _)⟩)
  · split at hg <;> cases hg
    rename_i xs ys hl
    obtain ⟨a1, v1, rfl, e1, r1⟩ := rx.tup b
    obtain ⟨a2, v2, rfl, e2, r2⟩ := ry.tup b
    refine .inr (.inr ⟨a1, a2, v1, v2, rfl, rfl, e1, e2, by rw [r1.length, r2.length]; exact hl, fun z => ?_, fun _ z => ?_, fun _ _ p o np ho => ?_⟩)
    · subst z
      cases r1
      rcases ry with r | ⟨_, _, _, _, r, _⟩
      · exact k _ F H Go.refl b r
      · cases r
    · subst z
      cases r2
      rw [List.append_nil] at k
      rcases rx with r | ⟨_, _, _, _, r, _⟩
      · exact k _ F H Go.refl b r
      · cases r
    · obtain ⟨x1, b1, r3⟩ := Go.layT b np ho (r1.append r2)
      exact k (.ref p) _ _ x1 b1 r3
theorem opn_cat {K : PySem.W.Frag} : OpN K rCat catG := by
  intro ft F H s v w x y z Q b rx ry hg k
  cases x <;> cases y <;> simp only [catG] at hg <;> try (cases hg; done)
  split at hg <;> cases hg
  rename_i xs ys hl
  obtain ⟨a1, v1, rfl, e1, r1⟩ := rx.lst b
  obtain ⟨a2, v2, rfl, e2, r2⟩ := ry.lst b
  exact ⟨a1, a2, v1, v2, rfl, rfl, e1, e2, by rw [r1.length, r2.length]; exact hl, fun p np => k p _ np (.lst (r1.append r2))⟩
theorem opd_int0 {K : PySem.W.Frag} {gg : Sto → Dt → Dt → Option Dt} {C : Int → Int → Prop} {f : Int → Int → V} {fd : Int → Int → Dt} (hf : ∀ F i j, Rep K F (f i j) (fd i j))
    (hgg : ∀ s x y z, gg s x y = some z → ∃ i j, x = .int i ∧ y = .int j ∧ C i j ∧ z = fd i j) : OpD K (rI C f) gg := by
  intro ft F H s v w x y z Q b rx ry hg k
  obtain ⟨i, j, rfl, rfl, c, rfl⟩ := hgg _ _ _ _ hg
  exact ⟨i, j, rx.int, ry.int, c, k _ F H Go.refl b (hf F i j)⟩
theorem opd_sub {K : PySem.W.Frag} : OpD K (rI0 fun i j => .int (i - j)) subG := by
  intro ft F H s v w x y z Q b rx ry hg k
  cases x <;> cases y <;> simp only [subG] at hg <;> try (cases hg; done)
  cases hg
  exact ⟨_, _, rx.int, ry.int, k _ F H Go.refl b (.int _)⟩
theorem opd_mul {K : PySem.W.Frag} : OpD K (rI CMulW fun i j => .int (i * j)) mulG := opd_int0 (fd := fun i j => .int (i * j)) (fun F i j => .int _) fun s x y z h => by
  cases x <;> cases y <;> simp only [mulG] at h <;> try (cases h; done)
  split at h <;> cases h
  rename_i c
  exact ⟨_, _, rfl, rfl, c, rfl⟩
theorem opd_mod {K : PySem.W.Frag} : OpD K (rI (fun _ j => 0 < j) fun i j => .int (i % j)) modG := opd_int0 (fd := fun i j => .int (i % j)) (fun F i j => .int _) fun s x y z h => by
  cases x <;> cases y <;> simp only [modG] at h <;> try (cases h; done)
  split at h <;> cases h
  rename_i c
  exact ⟨_, _, rfl, rfl, c, rfl⟩
theorem opd_div {K : PySem.W.Frag} : OpD K (rI CDiv fun i j => .int (i / j)) divG := opd_int0 (fd := fun i j => .int (i / j)) (fun F i j => .int _) fun s x y z h => by
  cases x <;> cases y <;> simp only [divG] at h <;> try (cases h; done)
  split at h <;> cases h
  rename_i c
  exact ⟨_, _, rfl, rfl, c, rfl⟩
theorem opd_pow {K : PySem.W.Frag} : OpD K (rI CPow fun i j => .int (i ^ j.toNat)) powG := opd_int0 (fd := fun i j => .int (i ^ j.toNat)) (fun F i j => .int _) fun s x y z h => by
  cases x <;> cases y <;> simp only [powG] at h <;> try (cases h; done)
  split at h <;> cases h
  rename_i c
  exact ⟨_, _, rfl, rfl, c, rfl⟩
variable {O : List Nat} {a b : Expr} {fa fb : Fe} {pos : Pos}
theorem d_bin {op : Operator} {r : R2} {gg : Sto → Dt → Dt → Option Dt} (ho : OpR X (binaryOp op) r) (hg : OpD X.K r gg) (ha : PE X a (tB X.K O fa)) (hb : PE X b (tB X.K O fb)) : PE X (.BinOp a op b pos) (tD X.K O (bind2 fa fb gg)) :=
  pe_imp (pe_op ho ha hb) (tOp_d hg)
theorem d_add (ha : PE X a (tB X.K O fa)) (hb : PE X b (tB X.K O fb)) : PE X (.BinOp a .Add b pos) (tD X.K O (bind2 fa fb addG)) := d_bin op_addA opd_add ha hb
theorem d_sub (ha : PE X a (tB X.K O fa)) (hb : PE X b (tB X.K O fb)) : PE X (.BinOp a .Sub b pos) (tD X.K O (bind2 fa fb subG)) := d_bin op_sub opd_sub ha hb
theorem d_mul (ha : PE X a (tB X.K O fa)) (hb : PE X b (tB X.K O fb)) : PE X (.BinOp a .Mult b pos) (tD X.K O (bind2 fa fb mulG)) := d_bin op_mulW opd_mul ha hb
theorem d_mod (ha : PE X a (tB X.K O fa)) (hb : PE X b (tB X.K O fb)) : PE X (.BinOp a .Mod b pos) (tD X.K O (bind2 fa fb modG)) := d_bin op_mod opd_mod ha hb
theorem d_div (ha : PE X a (tB X.K O fa)) (hb : PE X b (tB X.K O fb)) : PE X (.BinOp a .FloorDiv b pos) (tD X.K O (bind2 fa fb divG)) := d_bin op_fdiv opd_div ha hb
theorem d_pow (ha : PE X a (tB X.K O fa)) (hb : PE X b (tB X.K O fb)) : PE X (.BinOp a .Pow b pos) (tD X.K O (bind2 fa fb powG)) := d_bin op_pow opd_pow ha hb
theorem n_cat (ha : PE X a (tB X.K O fa)) (hb : PE X b (tB X.K O fb)) : PE X (.BinOp a .Add b pos) (tN X.K O (bind2 fa fb catG)) := pe_imp (pe_op op_cat ha hb) (tOp_n opn_cat)
/-- -e of an int -/
def bind1 (fa : Fe) (g : Sto → Dt → Option Dt) : Fe := fun env s => do
  let (x, s1) ← fa env s
  let z ← g s1 x
  some (z, s1)
def negG (_ : Sto) : Dt → Option Dt
  | .int i => some (.int (-i))
  | _ => none
def OneD (K : PySem.W.Frag) (r : V → Hp → VK → Prop) (g : Sto → Dt → Option Dt) : Prop := ∀ (ft : List Addr) (F H : Hp) (s : Sto) (v : V) (x z : Dt) (Q : VK), Bs K ft F H s → RepB K ft F H v x → g s x = some z →
  (∀ u F' H', Go ft F H F' H' → Bs K ft F' H' s → Rep K F' u z → Q u H') → r v H Q
theorem bind1_some {f : Fe} {g : Sto → Dt → Option Dt} {env : Env} {s s' : Sto} {d : Dt} (h : bind1 f g env s = some (d, s')) : ∃ x, f env s = some (x, s') ∧ g s' x = some d := by
  unfold bind1 at h
  cases q : f env s with
  | none => rw [q] at h; cases h
  | some p =>
    obtain ⟨x, s1⟩ := p
    cases qg : g s1 x with
    | none => simp [q, qg] at h
    | some z =>
      simp [q, qg] at h
      obtain ⟨rfl, rfl⟩ := h
      exact ⟨x, rfl, qg⟩
theorem tUn_d {r : V → Hp → VK → Prop} {gg : Sto → Dt → Option Dt} {K : PySem.W.Frag} (hg : OneD K r gg) (σ : L2.St) (H : Hp) (Q : VK) (h : tD K O (bind1 fa gg) σ H Q) : tUn r (tB K O fa) σ H Q := by
  obtain ⟨g, F, env, s, d, s', st, hf, k⟩ := h
  obtain ⟨x, q1, q2⟩ := bind1_some hf
  exact ⟨g, F, env, s, x, s', st, q1, fun v F1 H1 x1 b1 r1 => hg g.ft F1 H1 s' v x d Q b1 r1 q2 fun u F2 H2 x2 b2 r2 => k u F2 H2 (x1.trans x2 b1) b2 r2⟩
theorem d_neg (ha : PE X a (tB X.K O fa)) : PE X (.UnaryOp .USub a pos) (tD X.K O (bind1 fa negG)) := pe_imp (pe_un un_neg ha) (tUn_d fun ft F H s v x z Q b rx hg k => by
  cases x <;> simp only [negG] at hg <;> try (cases hg; done)
  cases hg
  exact ⟨_, rx.int, k _ F H Go.refl b (.int _)⟩)
end

/-! ### comparisons -/
def eqG (_ : Sto) : Dt → Dt → Option Dt
  | .str a, .str b => some (.bl (decide (a = b)))
  | .int a, .int b => some (.bl (decide (a = b)))
  | x, y => if plain x = true ∧ plain y = true ∧ SeqAt.shaped (py x) = true ∧ SeqAt.shaped (py y) = true then some (.bl (PyData.eqv (py x) (py y))) else none
def neG (s : Sto) (x y : Dt) : Option Dt := match eqG s x y with
  | some (.bl b) => some (.bl (!b))
  | _ => none
def ltG (_ : Sto) : Dt → Dt → Option Dt
  | .int i, .int j => some (.bl (decide (i < j)))
  | .str a, .str b => some (.bl (decide (a.cps.toList < b.cps.toList)))
  | _, _ => none
def gtG (_ : Sto) : Dt → Dt → Option Dt
  | .int i, .int j => some (.bl (decide (j < i)))
  | .str a, .str b => some (.bl (decide (b.cps.toList < a.cps.toList)))
  | _, _ => none
def leG (_ : Sto) : Dt → Dt → Option Dt
  | .int i, .int j => some (.bl (decide (i ≤ j)))
  | .str a, .str b => some (.bl (!decide (b.cps.toList < a.cps.toList)))
  | _, _ => none
def geG (_ : Sto) : Dt → Dt → Option Dt
  | .int i, .int j => some (.bl (decide (j ≤ i)))
  | .str a, .str b => some (.bl (!decide (a.cps.toList < b.cps.toList)))
  | _, _ => none
def isNon : Dt → Bool
  | .non => true
  | _ => false
def isNG (_ : Sto) : Dt → Dt → Option Dt
  | x, .non => some (.bl (isNon x))
  | _, _ => none
def notNG (_ : Sto) : Dt → Dt → Option Dt
  | x, .non => some (.bl (!isNon x))
  | _, _ => none
section
variable {K : PySem.W.Frag}
theorem eq_cases {s : Sto} {x y z : Dt} (h : eqG s x y = some z) : (∃ a b, x = .str a ∧ y = .str b ∧ z = .bl (decide (a = b))) ∨ (∃ a b, x = .int a ∧ y = .int b ∧ z = .bl (decide (a = b))) ∨
    (plain x = true ∧ plain y = true ∧ SeqAt.shaped (py x) = true ∧ SeqAt.shaped (py y) = true ∧ z = .bl (PyData.eqv (py x) (py y))) := by
  unfold eqG at h
  split at h
  · cases h; exact .inl ⟨_, _, rfl, rfl, rfl⟩
  · cases h; exact .inr (.inl ⟨_, _, rfl, rfl, rfl⟩)
  · split at h
    · rename_i c
      cases h
      exact .inr (.inr ⟨c.1, c.2.1, c.2.2.1, c.2.2.2, rfl⟩)
    · cases h
def rEqA (K : PySem.W.Frag) : R2 := fun x y H Q => rEq x y H Q ∨ rEqD K x y H Q
def rNeA (K : PySem.W.Frag) : R2 := fun x y H Q => rNe x y H Q ∨ rNeD K x y H Q
theorem op_eqA {X : Cx} (hu : X.A.units + 64 < cLine) : OpR X (compareOp .Eq) (rEqA X.K) := op_eq.or (op_eqD hu)
theorem op_neA {X : Cx} (hu : X.A.units + 64 < cLine) : OpR X (compareOp .NotEq) (rNeA X.K) := op_ne.or (op_neD hu)
theorem dec_V_str {a b : Str} : decide (V.str a = V.str b) = decide (a = b) := by
  by_cases h : a = b
  · subst h; simp
  · rw [decide_eq_false h, decide_eq_false (fun q => h (V.str.inj q))]
theorem dec_V_int {a b : Int} : decide (V.int a = V.int b) = decide (a = b) := by
  by_cases h : a = b
  · subst h; simp
  · rw [decide_eq_false h, decide_eq_false (fun q => h (V.int.inj q))]
theorem opd_eq : OpD K (rEqA K) eqG := by
  intro ft F H s v w x y z Q b rx ry hg k
  rcases eq_cases hg with ⟨a, c, rfl, rfl, rfl⟩ | ⟨a, c, rfl, rfl, rfl⟩ | ⟨p1, p2, s1, s2, rfl⟩
  · obtain rfl := rx.str
    obtain rfl := ry.str
    exact .inl ⟨rfl, by rw [dec_V_str]; exact k _ F H Go.refl b (.bl _)⟩
  · obtain rfl := rx.int
    obtain rfl := ry.int
    exact .inl ⟨rfl, by rw [dec_V_int]; exact k _ F H Go.refl b (.bl _)⟩
  · exact .inr ⟨_, _, rx.dp b.sub p1, ry.dp b.sub p2, s1, s2, k _ F H Go.refl b (.bl _)⟩
theorem opd_ne : OpD K (rNeA K) neG := by
  intro ft F H s v w x y z Q b rx ry hg k
  unfold neG at hg
  split at hg
  · rename_i e hq
    cases hg
    rcases eq_cases hq with ⟨a, c, rfl, rfl, hz⟩ | ⟨a, c, rfl, rfl, hz⟩ | ⟨p1, p2, s1, s2, hz⟩
    · cases hz
      obtain rfl := rx.str
      obtain rfl := ry.str
      exact .inl ⟨rfl, by rw [dec_V_str]; exact k _ F H Go.refl b (.bl _)⟩
    · cases hz
      obtain rfl := rx.int
      obtain rfl := ry.int
      exact .inl ⟨rfl, by rw [dec_V_int]; exact k _ F H Go.refl b (.bl _)⟩
    · cases hz
      exact .inr ⟨_, _, rx.dp b.sub p1, ry.dp b.sub p2, s1, s2, k _ F H Go.refl b (.bl _)⟩
  · cases hg
def rLtA : R2 := fun x y H Q => (rI0 fun i j => .bl (decide (i < j))) x y H Q ∨ ∃ i j, x = .str i ∧ y = .str j ∧ Q (.bl (decide (i.cps.toList < j.cps.toList))) H
def rLeA : R2 := fun x y H Q => (rI0 fun i j => .bl (decide (i ≤ j))) x y H Q ∨ ∃ i j, x = .str i ∧ y = .str j ∧ Q (.bl (!decide (j.cps.toList < i.cps.toList))) H
def rGtA : R2 := fun x y H Q => (rI0 fun i j => .bl (decide (j < i))) x y H Q ∨ ∃ i j, x = .str i ∧ y = .str j ∧ Q (.bl (decide (j.cps.toList < i.cps.toList))) H
def rGeA : R2 := fun x y H Q => (rI0 fun i j => .bl (decide (j ≤ i))) x y H Q ∨ ∃ i j, x = .str i ∧ y = .str j ∧ Q (.bl (!decide (i.cps.toList < j.cps.toList))) H
theorem op_ltA {X : Cx} : OpR X (compareOp .Lt) rLtA := op_lt.or op_lt_str
theorem op_leA {X : Cx} : OpR X (compareOp .LtE) rLeA := op_le.or op_le_str
theorem op_gtA {X : Cx} : OpR X (compareOp .Gt) rGtA := op_gt.or op_gt_str
theorem op_geA {X : Cx} : OpR X (compareOp .GtE) rGeA := op_ge.or op_ge_str
theorem opd_lt : OpD K rLtA ltG := by
  intro ft F H s v w x y z Q b rx ry hg k
  cases x <;> cases y <;> simp only [ltG] at hg <;> try (cases hg; done)
  · cases hg; exact .inl ⟨_, _, rx.int, ry.int, k _ F H Go.refl b (.bl _)⟩
  · cases hg; exact .inr ⟨_, _, rx.str, ry.str, k _ F H Go.refl b (.bl _)⟩
theorem opd_le : OpD K rLeA leG := by
  intro ft F H s v w x y z Q b rx ry hg k
  cases x <;> cases y <;> simp only [leG] at hg <;> try (cases hg; done)
  · cases hg; exact .inl ⟨_, _, rx.int, ry.int, k _ F H Go.refl b (.bl _)⟩
  · cases hg; exact .inr ⟨_, _, rx.str, ry.str, k _ F H Go.refl b (.bl _)⟩
theorem opd_gt : OpD K rGtA gtG := by
  intro ft F H s v w x y z Q b rx ry hg k
  cases x <;> cases y <;> simp only [gtG] at hg <;> try (cases hg; done)
  · cases hg; exact .inl ⟨_, _, rx.int, ry.int, k _ F H Go.refl b (.bl _)⟩
  · cases hg; exact .inr ⟨_, _, rx.str, ry.str, k _ F H Go.refl b (.bl _)⟩
theorem opd_ge : OpD K rGeA geG := by
  intro ft F H s v w x y z Q b rx ry hg k
  cases x <;> cases y <;> simp only [geG] at hg <;> try (cases hg; done)
  · cases hg; exact .inl ⟨_, _, rx.int, ry.int, k _ F H Go.refl b (.bl _)⟩
  · cases hg; exact .inr ⟨_, _, rx.str, ry.str, k _ F H Go.refl b (.bl _)⟩
theorem isN_V {ft : List Addr} {F H : Hp} {v : V} {x : Dt} (r : RepB K ft F H v x) : decide (v = .non) = isNon x := by
  rcases r with r | ⟨p, o, rfl, _, r, _⟩
  · cases r <;> rfl
  · cases r <;> rfl
theorem opd_isN : OpD K (fun x y H Q => y = .non ∧ Q (.bl (decide (x = .non))) H) isNG := by
  intro ft F H s v w x y z Q b rx ry hg k
  cases y <;> simp only [isNG] at hg <;> try (cases hg; done)
  cases hg
  refine ⟨ry.non, ?_⟩
  rw [isN_V rx]
  exact k _ F H Go.refl b (.bl _)
theorem opd_notN : OpD K (fun x y H Q => y = .non ∧ Q (.bl (!decide (x = .non))) H) notNG := by
  intro ft F H s v w x y z Q b rx ry hg k
  cases y <;> simp only [notNG] at hg <;> try (cases hg; done)
  cases hg
  refine ⟨ry.non, ?_⟩
  rw [isN_V rx]
  exact k _ F H Go.refl b (.bl _)
end

/-! ### x in y -/
def flatD : Dt → Bool
  | .non => true
  | .bl _ => true
  | .int _ => true
  | .str _ => true
  | _ => false
def eqF : Dt → Dt → Bool
  | .non, .non => true
  | .bl a, .bl b => a == b
  | .bl a, .int b => (if a then 1 else 0) == b
  | .int a, .bl b => a == (if b then 1 else 0)
  | .int a, .int b => a == b
  | .str a, .str b => a == b
  | _, _ => false
def occ (j i : Str) : Bool := !(Builtin.Str.occurrences j i 0 j.length 1).isEmpty
def inB (_ : Sto) : Dt → Dt → Option Bool
  | .str i, .str j => some (occ j i)
  | x, .lst ys => if flatD x = true ∧ ys.all flatD = true then some (ys.any fun y => eqF y x) else none
  | x, .tup ys => if flatD x = true ∧ ys.all flatD = true then some (ys.any fun y => eqF y x) else none
  | _, _ => none
def inG (s : Sto) (x y : Dt) : Option Dt := (inB s x y).map Dt.bl
def notInG (s : Sto) (x y : Dt) : Option Dt := (inB s x y).map fun b => Dt.bl (!b)
section
variable {K : PySem.W.Frag}
theorem flat_V {F : Hp} {v : V} {x : Dt} (r : Rep K F v x) (h : flatD x = true) : flatV v = true := by
  cases r <;> first | rfl | (simp only [flatD] at h; exact absurd h Bool.false_ne_true)
theorem eqF_V {F : Hp} {v w : V} {x y : Dt} (r : Rep K F v x) (q : Rep K F w y) (h : flatD x = true) (h' : flatD y = true) : eqV v w = eqF x y := by
  cases r <;> cases q <;> first | rfl | (simp only [flatD] at h h'; first | exact absurd h Bool.false_ne_true | exact absurd h' Bool.false_ne_true)
theorem flats_V {F : Hp} : ∀ {vs : List V} {ds : List Dt}, Reps K F vs ds → ds.all flatD = true → vs.all flatV = true
  | [], [], _, _ => rfl
  | [], _ :: _, h, _ => by cases h
  | _ :: _, [], h, _ => by cases h
  | _ :: _, _ :: _, h, p => by
    cases h with
    | cons h1 h2 =>
      rw [List.all_cons, Bool.and_eq_true] at p ⊢
      exact ⟨flat_V h1 p.1, flats_V h2 p.2⟩
theorem inV_D {F : Hp} {v : V} {x : Dt} (r : Rep K F v x) (h : flatD x = true) : ∀ {vs : List V} {ds : List Dt}, Reps K F vs ds → ds.all flatD = true → inV v vs = ds.any fun y => eqF y x
  | [], [], _, _ => rfl
  | [], _ :: _, h, _ => by cases h
  | _ :: _, [], h, _ => by cases h
  | _ :: vs, _ :: ds, q, p => by
    cases q with
    | cons h1 h2 =>
      rw [List.all_cons, Bool.and_eq_true] at p
      have ih := inV_D r h h2 p.2
      unfold inV at ih ⊢
      rw [List.any_cons, List.any_cons, ih, eqF_V h1 r p.1 h]
theorem RepB.flat {ft : List Addr} {F H : Hp} {v : V} {d : Dt} (r : RepB K ft F H v d) (h : flatD d = true) : Rep K F v d := by
  rcases r with r | ⟨a, o, rfl, eo, r, _⟩
  · exact r
  · cases r <;> (simp only [flatD] at h; exact absurd h Bool.false_ne_true)
def rInA (K : PySem.W.Frag) (n : Bool) : R2 := fun x y H Q => (∃ i j, x = .str i ∧ y = .str j ∧ Q (.bl (if n then !occ j i else occ j i)) H) ∨ rIn K n x y H Q
theorem op_inA {X : Cx} : OpR X (compareOp .In) (rInA X.K false) := OpR.or op_in_str op_in_seq
theorem op_notInA {X : Cx} : OpR X (compareOp .NotIn) (rInA X.K true) := OpR.or op_notin_str op_notIn_seq
theorem opd_inA {n : Bool} : OpD K (rInA K n) (fun s x y => (inB s x y).map fun b => Dt.bl (if n then !b else b)) := by
  intro ft F H s v w x y z Q b rx ry hg k
  dsimp only at hg
  cases q : inB s x y with
  | none => rw [q] at hg; cases hg
  | some c =>
    rw [q] at hg
    cases hg
    have hk : Q (.bl (if n then !c else c)) H := k _ F H Go.refl b (.bl _)
    unfold inB at q
    split at q
    · cases q
      exact .inl ⟨_, _, rx.str, ry.str, hk⟩
    · split at q
      · rename_i c
        cases q
        obtain ⟨a, vs, rfl, e, r⟩ := ry.lst b
        have rx' := rx.flat c.1
        refine .inr ⟨a, vs, rfl, .inl (SqL.of e), flat_V rx' c.1, flats_V r c.2, ?_⟩
        rw [inV_D rx' c.1 r c.2]
        exact hk
      · cases q
    · split at q
      · rename_i c
        cases q
        obtain ⟨a, vs, rfl, e, r⟩ := ry.tup b
        have rx' := rx.flat c.1
        refine .inr ⟨a, vs, rfl, .inr e, flat_V rx' c.1, flats_V r c.2, ?_⟩
        rw [inV_D rx' c.1 r c.2]
        exact hk
      · cases q
    · cases q
theorem opd_in : OpD K (rInA K false) inG := fun ft F H s v w x y z Q b rx ry hg k => opd_inA (n := false) ft F H s v w x y z Q b rx ry hg k
theorem opd_notIn : OpD K (rInA K true) notInG := fun ft F H s v w x y z Q b rx ry hg k => opd_inA (n := true) ft F H s v w x y z Q b rx ry hg k
end

section
variable {X : Cx} {O : List Nat} {a b c : Expr} {fa fb fc : Fe} {pos : Pos}
theorem d_cmp {op : CmpOp} {r : R2} {gg : Sto → Dt → Dt → Option Dt} (ho : OpR X (compareOp op) r) (hg : OpD X.K r gg) (ha : PE X a (tB X.K O fa)) (hb : PE X b (tB X.K O fb))
    (hm : behindInMarks op b = false := by first | exact nobehind _ (by decide) (by decide) | rfl) : PE X (.Compare a [op] [b] pos) (tD X.K O (bind2 fa fb gg)) := pe_imp (pe_cmpR ho ha hb hm) (tOp_d hg)
theorem d_eq (hu : X.A.units + 64 < cLine) (ha : PE X a (tB X.K O fa)) (hb : PE X b (tB X.K O fb)) : PE X (.Compare a [.Eq] [b] pos) (tD X.K O (bind2 fa fb eqG)) := d_cmp (op_eqA hu) opd_eq ha hb
theorem d_ne (hu : X.A.units + 64 < cLine) (ha : PE X a (tB X.K O fa)) (hb : PE X b (tB X.K O fb)) : PE X (.Compare a [.NotEq] [b] pos) (tD X.K O (bind2 fa fb neG)) := d_cmp (op_neA hu) opd_ne ha hb
theorem d_lt (ha : PE X a (tB X.K O fa)) (hb : PE X b (tB X.K O fb)) : PE X (.Compare a [.Lt] [b] pos) (tD X.K O (bind2 fa fb ltG)) := d_cmp op_ltA opd_lt ha hb
theorem d_le (ha : PE X a (tB X.K O fa)) (hb : PE X b (tB X.K O fb)) : PE X (.Compare a [.LtE] [b] pos) (tD X.K O (bind2 fa fb leG)) := d_cmp op_leA opd_le ha hb
theorem d_gt (ha : PE X a (tB X.K O fa)) (hb : PE X b (tB X.K O fb)) : PE X (.Compare a [.Gt] [b] pos) (tD X.K O (bind2 fa fb gtG)) := d_cmp op_gtA opd_gt ha hb
theorem d_ge (ha : PE X a (tB X.K O fa)) (hb : PE X b (tB X.K O fb)) : PE X (.Compare a [.GtE] [b] pos) (tD X.K O (bind2 fa fb geG)) := d_cmp op_geA opd_ge ha hb
theorem d_isN (ha : PE X a (tB X.K O fa)) (hb : PE X b (tB X.K O fb)) : PE X (.Compare a [.Is] [b] pos) (tD X.K O (bind2 fa fb isNG)) := d_cmp op_isN opd_isN ha hb
theorem d_notN (ha : PE X a (tB X.K O fa)) (hb : PE X b (tB X.K O fb)) : PE X (.Compare a [.IsNot] [b] pos) (tD X.K O (bind2 fa fb notNG)) := d_cmp op_notN opd_notN ha hb
theorem d_in (ha : PE X a (tB X.K O fa)) (hb : PE X b (tB X.K O fb)) (hm : behindInMarks .In b = false := by rfl) : PE X (.Compare a [.In] [b] pos) (tD X.K O (bind2 fa fb inG)) := d_cmp op_inA opd_in ha hb hm
theorem d_notIn (ha : PE X a (tB X.K O fa)) (hb : PE X b (tB X.K O fb)) (hm : behindInMarks .NotIn b = false := by rfl) : PE X (.Compare a [.NotIn] [b] pos) (tD X.K O (bind2 fa fb notInG)) := d_cmp op_notInA opd_notIn ha hb hm
/-- a op b op' c -/
def chain3 (fa fb fc : Fe) (g g' : Sto → Dt → Dt → Option Dt) : Fe := fun env s => do
  let (x, s1) ← fa env s
  let (y, s2) ← fb env s1
  match g s2 x y with
  | some (.bl true) => do
    let (w, s3) ← fc env s2
    let z ← g' s3 y w
    some (z, s3)
  | some (.bl false) => some (.bl false, s2)
  | _ => none
theorem d_chain {op op' : CmpOp} {r r' : R2} {g g' : Sto → Dt → Dt → Option Dt} (ho : OpR X (compareOp op) r) (ho' : OpR X (compareOp op') r') (hg : OpD X.K r g) (hg' : OpD X.K r' g') (ha : PE X a (tB X.K O fa)) (hb : PE X b (tB X.K O fb)) (hc : PE X c (tB X.K O fc))
    (hm : lastMarks [op, op'] [b, c] = false := by with_unfolding_all rfl) : PE X (.Compare a [op, op'] [b, c] pos) (tD X.K O (chain3 fa fb fc g g')) := pe_imp (pe_chain ho ho' ha hb hc hm) fun σ H Q h => by
  obtain ⟨gd, F, env, s, d, s', st, hf, k⟩ := h
  unfold chain3 at hf
  cases qa : fa env s with
  | none => rw [qa] at hf; cases hf
  | some pa =>
    obtain ⟨x, s1⟩ := pa
    rw [qa] at hf
    cases qb : fb env s1 with
    | none => simp [qb] at hf
    | some pb =>
      obtain ⟨y, s2⟩ := pb
      simp only [qb, Option.bind_eq_bind, Option.bind_some] at hf
      refine ⟨gd, F, env, s, x, s1, st, qa, fun v F1 H1 x1 b1 r1 => ⟨gd, F1, env, s1, y, s2, st.step x1 b1, qb, fun w F2 H2 x2 b2 r2 => ?_⟩⟩
      have st2 := (st.step x1 b1).step x2 b2
      split at hf
      · rename_i qg
        cases qc : fc env s2 with
        | none => simp [qc] at hf
        | some pc =>
          obtain ⟨w', s3⟩ := pc
          cases qg' : g' s3 y w' with
          | none => simp [qc, qg'] at hf
          | some z =>
            simp [qc, qg'] at hf
            obtain ⟨rfl, rfl⟩ := hf
            refine hg gd.ft F2 H2 s2 v w x y _ _ b2 (r1.step x2) r2 qg fun u F3 H3 x3 b3 r3 => ?_
            cases r3
            refine ⟨true, rfl, ?_⟩
            rw [if_pos rfl]
            refine ⟨gd, F3, env, s2, w', s3, st2.step x3 b3, qc, fun u4 F4 H4 x4 b4 r4 => ?_⟩
            exact hg' gd.ft F4 H4 s3 w u4 y w' z Q b4 ((r2.step x3).step x4) r4 qg' fun u5 F5 H5 x5 b5 r5 => k u5 F5 H5 ((((x1.trans x2 b1).trans x3 b2).trans x4 b3).trans x5 b4) b5 r5
      · rename_i qg
        cases hf
        refine hg gd.ft F2 H2 _ v w x y _ _ b2 (r1.step x2) r2 qg fun u F3 H3 x3 b3 r3 => ?_
        cases r3
        refine ⟨false, rfl, ?_⟩
        rw [if_neg Bool.false_ne_true]
        exact k _ F3 H3 ((x1.trans x2 b1).trans x3 b2) b3 (.bl false)
      · cases hf
theorem d_le_le (ha : PE X a (tB X.K O fa)) (hb : PE X b (tB X.K O fb)) (hc : PE X c (tB X.K O fc)) (hm : lastMarks [.LtE, .LtE] [b, c] = false := by with_unfolding_all rfl) : PE X (.Compare a [.LtE, .LtE] [b, c] pos) (tD X.K O (chain3 fa fb fc leG leG)) :=
  d_chain op_leA op_leA opd_le opd_le ha hb hc hm
end
end DL
namespace DL
open PySem PySem.Spec PyProof.Rows L2

/-! ### tests -/
abbrev Ft := Env → Sto → Option (Bool × Sto)
def tT (K : PySem.W.Frag) (O : List Nat) (f : Ft) : TT := fun σ H Q => ∃ g F env s b s', Stt K g O F H σ env s ∧ f env s = some (b, s') ∧ ∀ F' H', Go g.ft F H F' H' → Bs K g.ft F' H' s' → Q b H'
def asB (f : Fe) : Ft := fun env s => match f env s with
  | some (.bl b, s') => some (b, s')
  | _ => none
theorem asB_some {f : Fe} {env : Env} {s s' : Sto} {b : Bool} (h : asB f env s = some (b, s')) : f env s = some (.bl b, s') := by
  unfold asB at h
  split at h
  · rename_i q; cases h; exact q
  · cases h
def truB (_ : Sto) : Dt → Option Bool
  | .non => some false
  | .bl b => some b
  | .int i => some (i != 0)
  | .str x => if x.length ≤ sizeLine then some ((x.length : Int) != 0) else none
  | .lst xs => some (!xs.isEmpty)
  | .tup xs => some (!xs.isEmpty)
  | _ => none
/-- .. of a dict, too -/
def truA (s : Sto) : Dt → Option Bool
  | .dct xs => some (!xs.isEmpty)
  | x => truB s x
def truF (f : Fe) : Ft := fun env s => do
  let (x, s1) ← f env s
  let b ← truA s1 x
  some (b, s1)
theorem truF_some {f : Fe} {env : Env} {s s' : Sto} {b : Bool} (h : truF f env s = some (b, s')) : ∃ x, f env s = some (x, s') ∧ truA s' x = some b := by
  unfold truF at h
  cases q : f env s with
  | none => rw [q] at h; cases h
  | some p =>
    obtain ⟨x, s1⟩ := p
    cases qg : truA s1 x with
    | none => simp [q, qg] at h
    | some z =>
      simp [q, qg] at h
      obtain ⟨rfl, rfl⟩ := h
      exact ⟨x, rfl, qg⟩
theorem Reps.emp {K : PySem.W.Frag} {F : Hp} {vs : List V} {ds : List Dt} (r : Reps K F vs ds) : vs.isEmpty = ds.isEmpty := by cases r <;> rfl
theorem Repk.emp {K : PySem.W.Frag} {F : Hp} {vs : List (Key × V)} {ds : List (Key × Dt)} (r : Repk K F vs ds) : vs.isEmpty = ds.isEmpty := by cases r <;> rfl
theorem tru_V {K : PySem.W.Frag} {ft : List Addr} {F H : Hp} {s : Sto} {v : V} {x : Dt} {b : Bool} (B : Bs K ft F H s) (r : RepB K ft F H v x) (h : truB s x = some b) : TruV K v H b := by
  cases x <;> simp only [truB] at h <;> try (cases h; done)
  · cases h; obtain rfl := r.non; exact rfl
  · cases h; obtain rfl := r.bl; exact rfl
  · cases h; obtain rfl := r.int; exact rfl
  · split at h <;> cases h
    obtain rfl := r.str
    exact ⟨by assumption, rfl⟩
  · cases h
    obtain ⟨a, vs, rfl, e, q⟩ := r.tup B
    exact .inr (.inl ⟨vs, e, by rw [q.emp]⟩)
  · cases h
    obtain ⟨a, vs, rfl, e, q⟩ := r.lst B
    exact .inl ⟨vs, SqL.of e, by rw [q.emp]⟩
section
variable {X : Cx} {O : List Nat} {a b c e : Expr} {rest : List Expr} {fa fb : Fe} {ta tb : Ft} {pos : Pos}
theorem pt_imp {t t' : TT} (h : PT X e t) (k : ∀ σ H Q, t' σ H Q → t σ H Q) : PT X e t' := ⟨fun pins s σ H Q I q => h.run pins s σ H Q I (k σ H Q q)⟩
theorem pw_imp {t t' : TT} (h : PW X e t) (k : ∀ σ H Q, t' σ H Q → t σ H Q) : PW X e t' := ⟨fun w pins s σ H Q I q => h.run w pins s σ H Q I (k σ H Q q)⟩
def rTruA (K : PySem.W.Frag) : V → Hp → (Bool → Hp → Prop) → Prop := fun x H Q => (∃ k, TruV K x H k ∧ Q k H) ∨ ∃ p kvs, x = .ref p ∧ Rd H p (.dK kvs) ∧ Q (!kvs.isEmpty) H
theorem tru_okA : TruR X (rTruA X.K) := by
  intro pins s σ H x v Q I rx h
  rcases h with h | ⟨p, kvs, rfl, e, q⟩
  · exact tru_ok pins s σ H x v Q I rx h
  · cases rx
    exact d_truth I e fun s' I' => ⟨H, I', q⟩
theorem tru_A {K : PySem.W.Frag} {ft : List Addr} {F H : Hp} {s : Sto} {v : V} {x : Dt} {b : Bool} (B : Bs K ft F H s) (r : RepB K ft F H v x) (h : truA s x = some b) {Q : Bool → Hp → Prop} (q : Q b H) : rTruA K v H Q := by
  unfold truA at h
  split at h
  · cases h
    obtain ⟨a, vs, rfl, e, z⟩ := r.dct B
    exact .inr ⟨a, vs, rfl, e, by rw [z.emp]; exact q⟩
  · exact .inl ⟨b, tru_V B r h, q⟩
theorem t_tru (ha : PE X a (tB X.K O fa)) (he : ∀ whole, isTrue a X.env whole = (do let v ← whole; standAt a.pos; holding [v] (truthy v)) := by intro _; rfl) : PT X a (tT X.K O (truF fa)) :=
  pt_imp (pt_truthR ha tru_okA he) fun σ H Q ⟨g, F, env, s, b, s', st, hf, k⟩ => by
    obtain ⟨x, q1, q2⟩ := truF_some hf
    exact ⟨g, F, env, s, x, s', st, q1, fun v F1 H1 x1 b1 r1 => tru_A b1 r1 q2 (k F1 H1 x1 b1)⟩
theorem tTest_t {K : PySem.W.Frag} {t : TE} {f : Fe} (h : ∀ σ H Q, tD K O f σ H Q → t σ H Q) (σ : L2.St) (H : Hp) (Q : Bool → Hp → Prop) (q : tT K O (asB f) σ H Q) : tTest t σ H Q := by
  obtain ⟨g, F, env, s, b, s', st, hf, k⟩ := q
  refine h σ H _ ⟨g, F, env, s, .bl b, s', st, asB_some hf, fun v F' H' x1 b1 r1 => ?_⟩
  cases r1
  exact ⟨b, rfl, k F' H' x1 b1⟩
theorem t_cmp {op : CmpOp} {r : R2} {gg : Sto → Dt → Dt → Option Dt} (ho : OpR X (compareOp op) r) (hg : OpD X.K r gg) (ha : PE X a (tB X.K O fa)) (hb : PE X b (tB X.K O fb))
    (hm : behindInMarks op b = false := by first | exact nobehind _ (by decide) (by decide) | rfl) : PT X (.Compare a [op] [b] pos) (tT X.K O (asB (bind2 fa fb gg))) := pt_imp (pt_cmpR ho ha hb hm) (tTest_t (tOp_d hg))
theorem t_eq (hu : X.A.units + 64 < cLine) (ha : PE X a (tB X.K O fa)) (hb : PE X b (tB X.K O fb)) : PT X (.Compare a [.Eq] [b] pos) (tT X.K O (asB (bind2 fa fb eqG))) := t_cmp (op_eqA hu) opd_eq ha hb
theorem t_ne (hu : X.A.units + 64 < cLine) (ha : PE X a (tB X.K O fa)) (hb : PE X b (tB X.K O fb)) : PT X (.Compare a [.NotEq] [b] pos) (tT X.K O (asB (bind2 fa fb neG))) := t_cmp (op_neA hu) opd_ne ha hb
theorem t_lt (ha : PE X a (tB X.K O fa)) (hb : PE X b (tB X.K O fb)) : PT X (.Compare a [.Lt] [b] pos) (tT X.K O (asB (bind2 fa fb ltG))) := t_cmp op_ltA opd_lt ha hb
theorem t_le (ha : PE X a (tB X.K O fa)) (hb : PE X b (tB X.K O fb)) : PT X (.Compare a [.LtE] [b] pos) (tT X.K O (asB (bind2 fa fb leG))) := t_cmp op_leA opd_le ha hb
theorem t_gt (ha : PE X a (tB X.K O fa)) (hb : PE X b (tB X.K O fb)) : PT X (.Compare a [.Gt] [b] pos) (tT X.K O (asB (bind2 fa fb gtG))) := t_cmp op_gtA opd_gt ha hb
theorem t_ge (ha : PE X a (tB X.K O fa)) (hb : PE X b (tB X.K O fb)) : PT X (.Compare a [.GtE] [b] pos) (tT X.K O (asB (bind2 fa fb geG))) := t_cmp op_geA opd_ge ha hb
theorem t_isN (ha : PE X a (tB X.K O fa)) (hb : PE X b (tB X.K O fb)) : PT X (.Compare a [.Is] [b] pos) (tT X.K O (asB (bind2 fa fb isNG))) := t_cmp op_isN opd_isN ha hb
theorem t_notN (ha : PE X a (tB X.K O fa)) (hb : PE X b (tB X.K O fb)) : PT X (.Compare a [.IsNot] [b] pos) (tT X.K O (asB (bind2 fa fb notNG))) := t_cmp op_notN opd_notN ha hb
theorem t_in (ha : PE X a (tB X.K O fa)) (hb : PE X b (tB X.K O fb)) (hm : behindInMarks .In b = false := by rfl) : PT X (.Compare a [.In] [b] pos) (tT X.K O (asB (bind2 fa fb inG))) := t_cmp op_inA opd_in ha hb hm
theorem t_notIn (ha : PE X a (tB X.K O fa)) (hb : PE X b (tB X.K O fb)) (hm : behindInMarks .NotIn b = false := by rfl) : PT X (.Compare a [.NotIn] [b] pos) (tT X.K O (asB (bind2 fa fb notInG))) := t_cmp op_notInA opd_notIn ha hb hm
/-! and, or, not -/
def andT (f g : Ft) : Ft := fun env s => do
  let (b, s1) ← f env s
  if b then g env s1 else some (false, s1)
def orT (f g : Ft) : Ft := fun env s => do
  let (b, s1) ← f env s
  if b then some (true, s1) else g env s1
def notT (f : Ft) : Ft := fun env s => (f env s).map fun p => (!p.1, p.2)
theorem w_and1 (ha : PT X a (tT X.K O ta)) : PW X (.BoolOp .And [a] pos) (tT X.K O ta) := pw_and1 ha
theorem w_or1 (ha : PT X a (tT X.K O ta)) : PW X (.BoolOp .Or [a] pos) (tT X.K O ta) := pw_or1 ha
theorem w_and (ha : PT X a (tT X.K O ta)) (hb : PW X (.BoolOp .And (b :: rest) pos) (tT X.K O tb)) : PW X (.BoolOp .And (a :: b :: rest) pos) (tT X.K O (andT ta tb)) := pw_imp (pw_and ha hb) fun σ H Q ⟨g, F, env, s, z, s', st, hf, k⟩ => by
  unfold andT at hf
  cases q : ta env s with
  | none => rw [q] at hf; cases hf
  | some p =>
    obtain ⟨c, s1⟩ := p
    simp only [q, Option.bind_eq_bind, Option.bind_some] at hf
    refine ⟨g, F, env, s, c, s1, st, q, fun F1 H1 x1 b1 => ?_⟩
    cases c with
    | true =>
      rw [if_pos rfl] at hf ⊢
      exact ⟨g, F1, env, s1, z, s', st.step x1 b1, hf, fun F2 H2 x2 b2 => k F2 H2 (x1.trans x2 b1) b2⟩
    | false =>
      rw [if_neg Bool.false_ne_true] at hf ⊢
      cases hf
      exact k F1 H1 x1 b1
theorem w_or (ha : PT X a (tT X.K O ta)) (hb : PW X (.BoolOp .Or (b :: rest) pos) (tT X.K O tb)) : PW X (.BoolOp .Or (a :: b :: rest) pos) (tT X.K O (orT ta tb)) := pw_imp (pw_or ha hb) fun σ H Q ⟨g, F, env, s, z, s', st, hf, k⟩ => by
  unfold orT at hf
  cases q : ta env s with
  | none => rw [q] at hf; cases hf
  | some p =>
    obtain ⟨c, s1⟩ := p
    simp only [q, Option.bind_eq_bind, Option.bind_some] at hf
    refine ⟨g, F, env, s, c, s1, st, q, fun F1 H1 x1 b1 => ?_⟩
    cases c with
    | false =>
      rw [if_neg Bool.false_ne_true] at hf ⊢
      exact ⟨g, F1, env, s1, z, s', st.step x1 b1, hf, fun F2 H2 x2 b2 => k F2 H2 (x1.trans x2 b1) b2⟩
    | true =>
      rw [if_pos rfl] at hf ⊢
      cases hf
      exact k F1 H1 x1 b1
theorem t_not (ha : PT X a (tT X.K O ta)) : PT X (.UnaryOp .Not a pos) (tT X.K O (notT ta)) := pt_imp (pt_not ha) fun σ H Q ⟨g, F, env, s, z, s', st, hf, k⟩ => by
  unfold notT at hf
  cases q : ta env s with
  | none => rw [q] at hf; cases hf
  | some p =>
    obtain ⟨c, s1⟩ := p
    rw [q] at hf
    cases hf
    exact ⟨g, F, env, s, c, s1, st, q, k⟩
theorem t_bool {op : BoolOp} {vs : List Expr} {f : Ft} (h : PW X (.BoolOp op vs pos) (tT X.K O f)) : PT X (.BoolOp op vs pos) (tT X.K O f) := h.pt
/-! .. as values -/
def andV (f g : Fe) : Fe := fun env s => do
  let (x, s1) ← f env s
  let b ← truB s1 x
  if b then g env s1 else some (x, s1)
def orV (f g : Fe) : Fe := fun env s => do
  let (x, s1) ← f env s
  let b ← truB s1 x
  if b then some (x, s1) else g env s1
def notV (f : Fe) : Fe := bind1 f fun s x => (truB s x).map fun b => .bl (!b)
theorem d_one {op} {fa : Fe} (ha : PE X a (tD X.K O fa)) : PE X (.BoolOp op [a] pos) (tD X.K O fa) := pe_one ha
theorem d_and (ha : PE X a (tD X.K O fa)) (hb : PE X (.BoolOp .And (b :: rest) pos) (tD X.K O fb)) : PE X (.BoolOp .And (a :: b :: rest) pos) (tD X.K O (andV fa fb)) := pe_imp (pe_andT ha hb) fun σ H Q ⟨g, F, env, s, z, s', st, hf, k⟩ => by
  unfold andV at hf
  cases q : fa env s with
  | none => rw [q] at hf; cases hf
  | some p =>
    obtain ⟨x, s1⟩ := p
    cases qb : truB s1 x with
    | none => simp [q, qb] at hf
    | some c =>
      simp only [q, qb, Option.bind_eq_bind, Option.bind_some] at hf
      refine ⟨g, F, env, s, x, s1, st, q, fun v F1 H1 x1 b1 r1 => ⟨c, tru_V b1 (.inl r1) qb, ?_⟩⟩
      cases c with
      | true =>
        rw [if_pos rfl] at hf ⊢
        exact ⟨g, F1, env, s1, z, s', st.step x1 b1, hf, fun w F2 H2 x2 b2 r2 => k w F2 H2 (x1.trans x2 b1) b2 r2⟩
      | false =>
        rw [if_neg Bool.false_ne_true] at hf ⊢
        cases hf
        exact k v F1 H1 x1 b1 r1
theorem d_or (ha : PE X a (tD X.K O fa)) (hb : PE X (.BoolOp .Or (b :: rest) pos) (tD X.K O fb)) : PE X (.BoolOp .Or (a :: b :: rest) pos) (tD X.K O (orV fa fb)) := pe_imp (pe_orT ha hb) fun σ H Q ⟨g, F, env, s, z, s', st, hf, k⟩ => by
  unfold orV at hf
  cases q : fa env s with
  | none => rw [q] at hf; cases hf
  | some p =>
    obtain ⟨x, s1⟩ := p
    cases qb : truB s1 x with
    | none => simp [q, qb] at hf
    | some c =>
      simp only [q, qb, Option.bind_eq_bind, Option.bind_some] at hf
      refine ⟨g, F, env, s, x, s1, st, q, fun v F1 H1 x1 b1 r1 => ⟨c, tru_V b1 (.inl r1) qb, ?_⟩⟩
      cases c with
      | false =>
        rw [if_neg Bool.false_ne_true] at hf ⊢
        exact ⟨g, F1, env, s1, z, s', st.step x1 b1, hf, fun w F2 H2 x2 b2 r2 => k w F2 H2 (x1.trans x2 b1) b2 r2⟩
      | true =>
        rw [if_pos rfl] at hf ⊢
        cases hf
        exact k v F1 H1 x1 b1 r1
theorem d_not (ha : PE X a (tB X.K O fa)) : PE X (.UnaryOp .Not a pos) (tD X.K O (notV fa)) := pe_imp (pe_notT ha) fun σ H Q ⟨g, F, env, s, z, s', st, hf, k⟩ => by
  obtain ⟨x, q1, q2⟩ := bind1_some hf
  refine ⟨g, F, env, s, x, s', st, q1, fun v F1 H1 x1 b1 r1 => ?_⟩
  cases qb : truB s' x with
  | none => rw [qb] at q2; cases q2
  | some c =>
    rw [qb] at q2
    cases q2
    exact ⟨c, tru_V b1 r1 qb, k _ F1 H1 x1 b1 (.bl _)⟩
/-- a if c else b -/
def ifV (c : Ft) (f g : Fe) : Fe := fun env s => do
  let (b, s1) ← c env s
  if b then f env s1 else g env s1
theorem if_some {c : Ft} {f g : Fe} {env : Env} {s s' : Sto} {z : Dt} (h : ifV c f g env s = some (z, s')) : ∃ b s1, c env s = some (b, s1) ∧ (if b = true then f env s1 else g env s1) = some (z, s') := by
  unfold ifV at h
  cases q : c env s with
  | none => rw [q] at h; cases h
  | some p =>
    obtain ⟨b, s1⟩ := p
    simp only [q, Option.bind_eq_bind, Option.bind_some] at h
    exact ⟨b, s1, rfl, h⟩
theorem d_if (hc : PT X c (tT X.K O ta)) (ha : PE X a (tD X.K O fa)) (hb : PE X b (tD X.K O fb)) : PE X (.IfExp c a b pos) (tD X.K O (ifV ta fa fb)) := pe_imp (pe_ifExp hc ha hb) fun σ H Q ⟨g, F, env, s, z, s', st, hf, k⟩ => by
  obtain ⟨b, s1, q, hf⟩ := if_some hf
  refine ⟨g, F, env, s, b, s1, st, q, fun F1 H1 x1 b1 => ?_⟩
  cases b with
  | true =>
    rw [if_pos rfl] at hf ⊢
    exact ⟨g, F1, env, s1, z, s', st.step x1 b1, hf, fun w F2 H2 x2 b2 r2 => k w F2 H2 (x1.trans x2 b1) b2 r2⟩
  | false =>
    rw [if_neg Bool.false_ne_true] at hf ⊢
    exact ⟨g, F1, env, s1, z, s', st.step x1 b1, hf, fun w F2 H2 x2 b2 r2 => k w F2 H2 (x1.trans x2 b1) b2 r2⟩
theorem n_if (hc : PT X c (tT X.K O ta)) (ha : PE X a (tN X.K O fa)) (hb : PE X b (tN X.K O fb)) : PE X (.IfExp c a b pos) (tN X.K O (ifV ta fa fb)) := pe_imp (pe_ifExp hc ha hb) fun σ H Q ⟨g, F, env, s, z, s', st, hf, k⟩ => by
  obtain ⟨b, s1, q, hf⟩ := if_some hf
  refine ⟨g, F, env, s, b, s1, st, q, fun F1 H1 x1 b1 => ?_⟩
  cases b with
  | true =>
    rw [if_pos rfl] at hf ⊢
    exact ⟨g, F1, env, s1, z, s', st.step x1 b1, hf, fun p o F2 H2 x2 b2 n2 n' e r2 => k p o F2 H2 (x1.trans x2 b1) b2 (x1.free b1 n2) n' e r2⟩
  | false =>
    rw [if_neg Bool.false_ne_true] at hf ⊢
    exact ⟨g, F1, env, s1, z, s', st.step x1 b1, hf, fun p o F2 H2 x2 b2 n2 n' e r2 => k p o F2 H2 (x1.trans x2 b1) b2 (x1.free b1 n2) n' e r2⟩
end

/-! ### arguments, displays -/
abbrev Fa := Env → Sto → Option (List Dt × Sto)
def tAB (K : PySem.W.Frag) (O : List Nat) (f : Fa) : TA := fun σ H Q => ∃ g F env s ds s', Stt K g O F H σ env s ∧ f env s = some (ds, s') ∧ ∀ vs F' H', Go g.ft F H F' H' → Bs K g.ft F' H' s' → Paired (RepB K g.ft F' H') vs ds → Q vs H'
def tAD (K : PySem.W.Frag) (O : List Nat) (f : Fa) : TA := fun σ H Q => ∃ g F env s ds s', Stt K g O F H σ env s ∧ f env s = some (ds, s') ∧ ∀ vs F' H', Go g.ft F H F' H' → Bs K g.ft F' H' s' → Reps K F' vs ds → Q vs H'
def aNil : Fa := fun _ s => some ([], s)
def aCons (f : Fe) (r : Fa) : Fa := fun env s => do
  let (x, s1) ← f env s
  let (xs, s2) ← r env s1
  some (x :: xs, s2)
theorem aCons_some {f : Fe} {r : Fa} {env : Env} {s s' : Sto} {ds : List Dt} (h : aCons f r env s = some (ds, s')) : ∃ x s1 xs, f env s = some (x, s1) ∧ r env s1 = some (xs, s') ∧ ds = x :: xs := by
  unfold aCons at h
  cases q : f env s with
  | none => rw [q] at h; cases h
  | some p =>
    obtain ⟨x, s1⟩ := p
    cases q2 : r env s1 with
    | none => simp [q, q2] at h
    | some p2 =>
      obtain ⟨xs, s2⟩ := p2
      simp [q, q2] at h
      obtain ⟨rfl, rfl⟩ := h
      exact ⟨x, s1, xs, rfl, q2, rfl⟩
theorem pairB_step {K : PySem.W.Frag} {ft : List Addr} {F H F' H' : Hp} {vs : List V} {ds : List Dt} (h : Paired (RepB K ft F H) vs ds) (x : Go ft F H F' H') : Paired (RepB K ft F' H') vs ds := Paired.mapP h fun _ _ r => r.step x
section
variable {X : Cx} {O : List Nat} {e : Expr} {es : List Expr} {f : Fe} {r : Fa} {pos : Pos}
theorem pa_imp {t t' : TA} (h : PA X es t) (k : ∀ σ H Q, t' σ H Q → t σ H Q) : PA X es t' := ⟨fun pos pins s σ H Q I q => h.run pos pins s σ H Q I (k σ H Q q)⟩
theorem ab_nil : PA X [] (tAB X.K O aNil) := pa_imp pa_nil fun σ H Q ⟨g, F, env, s, ds, s', st, hf, k⟩ => by
  cases hf
  exact k [] F H Go.refl st.bs .nil
theorem ad_nil : PA X [] (tAD X.K O aNil) := pa_imp pa_nil fun σ H Q ⟨g, F, env, s, ds, s', st, hf, k⟩ => by
  cases hf
  exact k [] F H Go.refl st.bs .nil
theorem ab_cons (he : PE X e (tB X.K O f)) (hr : PA X es (tAB X.K O r)) (hs : starEach (e :: es) X.env = (false, eval e X.env) :: starEach es X.env := by rfl) : PA X (e :: es) (tAB X.K O (aCons f r)) :=
  pa_imp (pa_cons he hr hs) fun σ H Q ⟨g, F, env, s, ds, s', st, hf, k⟩ => by
    obtain ⟨x, s1, xs, q1, q2, rfl⟩ := aCons_some hf
    exact ⟨g, F, env, s, x, s1, st, q1, fun v F1 H1 x1 b1 r1 => ⟨g, F1, env, s1, xs, s', st.step x1 b1, q2, fun vs F2 H2 x2 b2 r2 => k (v :: vs) F2 H2 (x1.trans x2 b1) b2 (.cons (r1.step x2) r2)⟩⟩
theorem ad_cons (he : PE X e (tD X.K O f)) (hr : PA X es (tAD X.K O r)) (hs : starEach (e :: es) X.env = (false, eval e X.env) :: starEach es X.env := by rfl) : PA X (e :: es) (tAD X.K O (aCons f r)) :=
  pa_imp (pa_cons he hr hs) fun σ H Q ⟨g, F, env, s, ds, s', st, hf, k⟩ => by
    obtain ⟨x, s1, xs, q1, q2, rfl⟩ := aCons_some hf
    exact ⟨g, F, env, s, x, s1, st, q1, fun v F1 H1 x1 b1 r1 => ⟨g, F1, env, s1, xs, s', st.step x1 b1, q2, fun vs F2 H2 x2 b2 r2 => k (v :: vs) F2 H2 (x1.trans x2 b1) b2 (.cons (Rep.mono x2.sam _ _ r1) r2)⟩⟩
def bindA (r : Fa) (g : Sto → List Dt → Option Dt) : Fe := fun env s => do
  let (xs, s1) ← r env s
  let z ← g s1 xs
  some (z, s1)
theorem bindA_some {f : Fa} {g : Sto → List Dt → Option Dt} {env : Env} {s s' : Sto} {d : Dt} (h : bindA f g env s = some (d, s')) : ∃ x, f env s = some (x, s') ∧ g s' x = some d := by
  unfold bindA at h
  cases q : f env s with
  | none => rw [q] at h; cases h
  | some p =>
    obtain ⟨x, s1⟩ := p
    cases qg : g s1 x with
    | none => simp [q, qg] at h
    | some z =>
      simp [q, qg] at h
      obtain ⟨rfl, rfl⟩ := h
      exact ⟨x, rfl, qg⟩
def tupG (_ : Sto) (xs : List Dt) : Option Dt := if xs.length ≤ sizeLine then some (.tup xs) else none
def lstG (_ : Sto) (xs : List Dt) : Option Dt := if xs.length ≤ sizeLine then some (.lst xs) else none
theorem d_tup {x1} (h : PA X es (tAD X.K O r)) : PE X (.Tuple es x1 pos) (tD X.K O (bindA r tupG)) := pe_imp (pe_tupF h) fun σ H Q ⟨g, F, env, s, d, s', st, hf, k⟩ => by
  obtain ⟨xs, q1, q2⟩ := bindA_some hf
  unfold tupG at q2
  split at q2 <;> cases q2
  rename_i hl
  refine ⟨g, F, env, s, xs, s', st, q1, fun vs F1 H1 x1 b1 r1 => ⟨by rw [r1.length]; exact hl, fun p o np ho => ?_⟩⟩
  obtain ⟨x2, b2, r2⟩ := Go.layT b1 np ho r1
  exact k (.ref p) _ _ (x1.trans x2 b1) b2 r2
theorem n_lst (h : PA X es (tAD X.K O r)) : PE X (.List es pos) (tN X.K O (bindA r lstG)) := pe_imp (pe_lst h) fun σ H Q ⟨g, F, env, s, d, s', st, hf, k⟩ => by
  obtain ⟨xs, q1, q2⟩ := bindA_some hf
  unfold lstG at q2
  split at q2 <;> cases q2
  rename_i hl
  refine ⟨g, F, env, s, xs, s', st, q1, fun vs F1 H1 x1 b1 r1 => ⟨by rw [r1.length]; exact hl, fun p np => ?_⟩⟩
  obtain ⟨x2, b2, n2⟩ := Go.made (o := .lst vs) b1 np
  exact k p (.lst vs) F1 _ (x1.trans x2 b1) b2 (x1.free b1 np) n2 upd_same (.lst r1)
theorem d_lst (h : PA X es (tAD X.K O r)) : PE X (.List es pos) (tD X.K O (bindA r lstG)) := d_of_n (n_lst h)
end

/-! ### calls of built-ins by values -/
def CallD (K : PySem.W.Frag) (r : List V → Hp → VK → Prop) (g : Sto → List Dt → Option Dt) : Prop := ∀ (ft : List Addr) (F H : Hp) (s : Sto) (vs : List V) (xs : List Dt) (z : Dt) (Q : VK), Bs K ft F H s → Paired (RepB K ft F H) vs xs → g s xs = some z →
  (∀ u F' H', Go ft F H F' H' → Bs K ft F' H' s → Rep K F' u z → Q u H') → r vs H Q
def CallN (K : PySem.W.Frag) (r : List V → Hp → VK → Prop) (g : Sto → List Dt → Option Dt) : Prop := ∀ (ft : List Addr) (F H : Hp) (s : Sto) (vs : List V) (xs : List Dt) (z : Dt) (Q : VK), Bs K ft F H s → Paired (RepB K ft F H) vs xs → g s xs = some z →
  (∀ p o, H p = none → ObR K F o z → Q (.ref p) (upd H p o)) → r vs H Q
section
variable {X : Cx} {O : List Nat} {e : Expr} {es : List Expr} {fa : Fa} {pos p : Pos} {x : Str} {id T : String} {r : List V → Hp → VK → Prop} {gg : Sto → List Dt → Option Dt}
theorem tCB_d {K : PySem.W.Frag} (hg : CallD K r gg) (σ : L2.St) (H : Hp) (Q : VK) (h : tD K O (bindA fa gg) σ H Q) : tCB r (tAB K O fa) σ H Q := by
  obtain ⟨g, F, env, s, d, s', st, hf, k⟩ := h
  obtain ⟨xs, q1, q2⟩ := bindA_some hf
  exact ⟨g, F, env, s, xs, s', st, q1, fun vs F1 H1 x1 b1 r1 => hg g.ft F1 H1 s' vs xs d Q b1 r1 q2 fun u F2 H2 x2 b2 r2 => k u F2 H2 (x1.trans x2 b1) b2 r2⟩
theorem tCB_n {K : PySem.W.Frag} (hg : CallN K r gg) (σ : L2.St) (H : Hp) (Q : VK) (h : tN K O (bindA fa gg) σ H Q) : tCB r (tAB K O fa) σ H Q := by
  obtain ⟨g, F, env, s, d, s', st, hf, k⟩ := h
  obtain ⟨xs, q1, q2⟩ := bindA_some hf
  refine ⟨g, F, env, s, xs, s', st, q1, fun vs F1 H1 x1 b1 r1 => hg g.ft F1 H1 s' vs xs d Q b1 r1 q2 fun p o n q => ?_⟩
  obtain ⟨x2, b2, n2⟩ := Go.made (o := o) b1 n
  exact k p o F1 _ (x1.trans x2 b1) b2 (x1.free b1 n) n2 upd_same q
theorem d_callB (hc : CallR X (.builtin id) r) (hd : CallD X.K r gg) (hg : Gl X x) (hm : X.mg x = none) (hv : bootBuiltins x = some (.builtin id)) (ha : PA X (e :: es) (tAB X.K O fa)) (hn : x ≠ "__name__" := by decide)
    (hdb : (x == ("__debug__" : Str)) = false := by decide) (he : starEach (e :: es) X.env = (false, eval e X.env) :: starEach es X.env := by rfl) (hpl : (backTo pos (starEach es X.env)).any (·.1) = false := by rfl) : PE X (.Call (.Name x p) (e :: es) [] pos) (tD X.K O (bindA fa gg)) := pe_imp (pe_callB hc hg hm hv ha hn hdb he hpl) (tCB_d hd)
theorem d_callT (hc : CallR X (.type T) r) (hd : CallD X.K r gg) (hg : Gl X x) (hm : X.mg x = none) (hv : bootBuiltins x = some (.type T)) (ha : PA X (e :: es) (tAB X.K O fa)) (hn : x ≠ "__name__" := by decide)
    (hdb : (x == ("__debug__" : Str)) = false := by decide) (he : starEach (e :: es) X.env = (false, eval e X.env) :: starEach es X.env := by rfl) (hpl : (backTo pos (starEach es X.env)).any (·.1) = false := by rfl) : PE X (.Call (.Name x p) (e :: es) [] pos) (tD X.K O (bindA fa gg)) := pe_imp (pe_callTy hc hg hm hv ha hn hdb he hpl) (tCB_d hd)
theorem n_callB (hc : CallR X (.builtin id) r) (hd : CallN X.K r gg) (hg : Gl X x) (hm : X.mg x = none) (hv : bootBuiltins x = some (.builtin id)) (ha : PA X (e :: es) (tAB X.K O fa)) (hn : x ≠ "__name__" := by decide)
    (hdb : (x == ("__debug__" : Str)) = false := by decide) (he : starEach (e :: es) X.env = (false, eval e X.env) :: starEach es X.env := by rfl) (hpl : (backTo pos (starEach es X.env)).any (·.1) = false := by rfl) : PE X (.Call (.Name x p) (e :: es) [] pos) (tN X.K O (bindA fa gg)) := pe_imp (pe_callB hc hg hm hv ha hn hdb he hpl) (tCB_n hd)
theorem n_callT (hc : CallR X (.type T) r) (hd : CallN X.K r gg) (hg : Gl X x) (hm : X.mg x = none) (hv : bootBuiltins x = some (.type T)) (ha : PA X (e :: es) (tAB X.K O fa)) (hn : x ≠ "__name__" := by decide)
    (hdb : (x == ("__debug__" : Str)) = false := by decide) (he : starEach (e :: es) X.env = (false, eval e X.env) :: starEach es X.env := by rfl) (hpl : (backTo pos (starEach es X.env)).any (·.1) = false := by rfl) : PE X (.Call (.Name x p) (e :: es) [] pos) (tN X.K O (bindA fa gg)) := pe_imp (pe_callTy hc hg hm hv ha hn hdb he hpl) (tCB_n hd)
end
section
variable {K : PySem.W.Frag} {ft : List Addr} {F H : Hp}
theorem pair1 {vs : List V} {x : Dt} (h : Paired (RepB K ft F H) vs [x]) : ∃ v, vs = [v] ∧ RepB K ft F H v x := by
  cases h with
  | cons r t => cases t; exact ⟨_, rfl, r⟩
theorem pair2 {vs : List V} {x y : Dt} (h : Paired (RepB K ft F H) vs [x, y]) : ∃ v w, vs = [v, w] ∧ RepB K ft F H v x ∧ RepB K ft F H w y := by
  cases h with
  | cons r t =>
    cases t with
    | cons r' t' => cases t'; exact ⟨_, _, rfl, r, r'⟩
/-- len -/
def lenG (_ : Sto) : List Dt → Option Dt
  | [.str x] => if x.length ≤ sizeLine then some (.int x.length) else none
  | [.lst xs] => some (.int xs.length)
  | [.tup xs] => some (.int xs.length)
  | [.dct xs] => some (.int xs.length)
  | _ => none
def rLenA (K : PySem.W.Frag) : List V → Hp → VK → Prop := fun xs H Q => (∃ x n, xs = [x] ∧ LenV K x H n ∧ Q (.int n) H) ∨ ∃ a kvs, xs = [V.ref a] ∧ Rd H a (.dK kvs) ∧ Q (.int kvs.length) H
theorem call_lenR {X : Cx} : CallR X (.builtin "len") (fun xs H Q => ∃ a kvs, xs = [V.ref a] ∧ Rd H a (.dK kvs) ∧ Q (.int kvs.length) H) := by
  intro pins s σ H xs us Q I r h
  obtain ⟨a, kvs, rfl, ha, q⟩ := h
  obtain ⟨u, rfl, ru⟩ := vals1 r
  cases ru
  exact d_len I ha fun t s' I' => ⟨.int kvs.length, H, I', ⟨t, rfl⟩, q⟩
theorem call_lenA {X : Cx} : CallR X (.builtin "len") (rLenA X.K) := CallR.or call_len call_lenR
theorem Repk.length : ∀ {vs : List (Key × V)} {ds : List (Key × Dt)}, Repk K F vs ds → vs.length = ds.length
  | [], [], _ => rfl
  | [], _ :: _, h => by cases h
  | _ :: _, [], h => by cases h
  | _ :: vs, _ :: ds, h => by
    cases h with
    | cons h1 h2 => rw [List.length_cons, List.length_cons, Repk.length h2]
theorem cd_len : CallD K (rLenA K) lenG := by
  intro ft F H s vs xs z Q b rx hg k
  unfold lenG at hg
  split at hg
  · split at hg <;> cases hg
    rename_i hl
    obtain ⟨v, rfl, r⟩ := pair1 rx
    obtain rfl := r.str
    exact .inl ⟨_, _, rfl, ⟨hl, rfl⟩, k _ F H Go.refl b (.int _)⟩
  · cases hg
    obtain ⟨v, rfl, r⟩ := pair1 rx
    obtain ⟨a, vs, rfl, e, q⟩ := r.lst b
    exact .inl ⟨_, _, rfl, .inl ⟨vs, SqL.of e, rfl⟩, by rw [q.length]; exact k _ F H Go.refl b (.int _)⟩
  · cases hg
    obtain ⟨v, rfl, r⟩ := pair1 rx
    obtain ⟨a, vs, rfl, e, q⟩ := r.tup b
    exact .inl ⟨_, _, rfl, .inr ⟨vs, e, rfl⟩, by rw [q.length]; exact k _ F H Go.refl b (.int _)⟩
  · cases hg
    obtain ⟨v, rfl, r⟩ := pair1 rx
    obtain ⟨a, vs, rfl, e, q⟩ := r.dct b
    exact .inr ⟨a, vs, rfl, e, by rw [q.length]; exact k _ F H Go.refl b (.int _)⟩
  · cases hg
/-- int(i) -/
def intG (_ : Sto) : List Dt → Option Dt
  | [.int i] => some (.int i)
  | [.str a] => match PySem.intText? a with
    | some n => if a.length ≤ 640 then some (.int n) else none
    | none => none
  | _ => none
def rIntA : List V → Hp → VK → Prop := fun xs H Q => ((∃ i, xs = [.int i] ∧ Q (.int i) H) ∨ ∃ k, xs = [.bl k] ∧ Q (.int (if k then 1 else 0)) H) ∨ ∃ a n, xs = [.str a] ∧ PySem.intText? a = some n ∧ a.length ≤ 640 ∧ Q (.int n) H
theorem call_intA {X : Cx} : CallR X (.type "int") rIntA := CallR.or call_int1 call_int_str
theorem cd_int : CallD K rIntA intG := by
  intro ft F H s vs xs z Q b rx hg k
  unfold intG at hg
  split at hg
  · cases hg
    obtain ⟨v, rfl, r⟩ := pair1 rx
    obtain rfl := r.int
    exact .inl (.inl ⟨_, rfl, k _ F H Go.refl b (.int _)⟩)
  · split at hg
    · rename_i q
      split at hg <;> cases hg
      obtain ⟨v, rfl, r⟩ := pair1 rx
      obtain rfl := r.str
      exact .inr ⟨_, _, rfl, q, by assumption, k _ F H Go.refl b (.int _)⟩
    · cases hg
  · cases hg
/-- all, any of a list of bools -/
def bools : List Dt → Option (List Bool)
  | [] => some []
  | .bl b :: r => (bools r).map (b :: ·)
  | _ => none
theorem bools_map : ∀ {ds : List Dt} {bs : List Bool}, bools ds = some bs → ds = bs.map Dt.bl
  | [], _, h => by cases h; rfl
  | d :: r, bs, h => by
    cases d <;> simp only [bools] at h <;> try (cases h; done)
    rename_i b
    cases q : bools r with
    | none => rw [q] at h; cases h
    | some cs =>
      rw [q] at h
      cases h
      rw [bools_map q]
      rfl
def allG (_ : Sto) : List Dt → Option Dt
  | [.lst xs] => (bools xs).map fun bs => .bl (bs.all id)
  | _ => none
def anyG (_ : Sto) : List Dt → Option Dt
  | [.lst xs] => (bools xs).map fun bs => .bl (bs.any id)
  | _ => none
theorem cd_all : CallD K (rAll K) allG := by
  intro ft F H s vs xs z Q b rx hg k
  unfold allG at hg
  split at hg
  · rename_i ds
    cases q : bools ds with
    | none => rw [q] at hg; cases hg
    | some bs =>
      rw [q] at hg
      cases hg
      obtain ⟨v, rfl, r⟩ := pair1 rx
      obtain ⟨a, vs, rfl, e, rs⟩ := r.lst b
      rw [bools_map q] at rs
      rw [rs.of_bls] at e
      exact ⟨a, bs, rfl, SqL.of e, k _ F H Go.refl b (.bl _)⟩
  · cases hg
theorem cd_any : CallD K (rAny K) anyG := by
  intro ft F H s vs xs z Q b rx hg k
  unfold anyG at hg
  split at hg
  · rename_i ds
    cases q : bools ds with
    | none => rw [q] at hg; cases hg
    | some bs =>
      rw [q] at hg
      cases hg
      obtain ⟨v, rfl, r⟩ := pair1 rx
      obtain ⟨a, vs, rfl, e, rs⟩ := r.lst b
      rw [bools_map q] at rs
      rw [rs.of_bls] at e
      exact ⟨a, bs, rfl, SqL.of e, k _ F H Go.refl b (.bl _)⟩
  · cases hg
/-- tuple(x), list(x) -/
def toTupG (_ : Sto) : List Dt → Option Dt
  | [.lst xs] => some (.tup xs)
  | [.tup xs] => some (.tup xs)
  | _ => none
theorem cd_toTup : CallD K (rTupF K) toTupG := by
  intro ft F H s vs xs z Q b rx hg k
  unfold toTupG at hg
  split at hg
  · cases hg
    obtain ⟨v, rfl, r⟩ := pair1 rx
    obtain ⟨a, vs, rfl, e, q⟩ := r.lst b
    refine ⟨a, vs, rfl, .inl ⟨SqL.of e, fun l o nl ho => ?_⟩⟩
    obtain ⟨x1, b1, r1⟩ := Go.layT b nl ho q
    exact k (.ref l) _ _ x1 b1 r1
  · cases hg
    obtain ⟨v, rfl, r⟩ := pair1 rx
    obtain ⟨a, vs, rfl, e, q⟩ := r.tup b
    refine ⟨a, vs, rfl, .inr ⟨e, ?_⟩⟩
    rcases r with r | ⟨_, _, _, _, r, _⟩
    · exact k _ F H Go.refl b r
    · cases r
  · cases hg
def keyD : Key → Dt
  | .inl i => .int i
  | .inr x => .str x
theorem rep_key {F : Hp} (k : Key) : Rep K F (kV k) (keyD k) := by cases k <;> constructor
theorem reps_keys {F : Hp} : ∀ {vs : List (Key × V)} {ds : List (Key × Dt)}, Repk K F vs ds → Reps K F (vs.map fun kv => kV kv.1) (ds.map fun kv => keyD kv.1)
  | [], [], _ => .nil
  | [], _ :: _, h => by cases h
  | _ :: _, [], h => by cases h
  | (k, v) :: vs, (k', d) :: ds, h => by
    cases h with
    | cons h1 h2 => exact .cons (rep_key _) (reps_keys h2)
def toLstG (_ : Sto) : List Dt → Option Dt
  | [.lst xs] => some (.lst xs)
  | [.tup xs] => some (.lst xs)
  | [.dct xs] => some (.lst (xs.map fun kv => keyD kv.1))
  | _ => none
def rLstA (K : PySem.W.Frag) : List V → Hp → VK → Prop := fun xs H Q => (∃ p ys, xs = [.ref p] ∧ (SqL K H p ys ∨ SqT K H p ys) ∧ ∀ l, H l = none → Q (.ref l) (upd H l (.lst ys))) ∨
  ∃ (a : Addr) (kvs : List (Key × V)), xs = [.ref a] ∧ Rd H a (.dK kvs) ∧ ∀ p, H p = none → Q (.ref p) (upd H p (.lst (kvs.map fun kv => kV kv.1)))
theorem call_lstA {X : Cx} (hc : X.calm = true) : CallR X (.type "list") (rLstA X.K) := CallR.or call_list_of (call_listD hc)
theorem cn_toLst : CallN K (rLstA K) toLstG := by
  intro ft F H s vs xs z Q b rx hg k
  unfold toLstG at hg
  split at hg
  · cases hg
    obtain ⟨v, rfl, r⟩ := pair1 rx
    obtain ⟨a, vs, rfl, e, q⟩ := r.lst b
    exact .inl ⟨a, vs, rfl, .inl (SqL.of e), fun l nl => k l _ nl (.lst q)⟩
  · cases hg
    obtain ⟨v, rfl, r⟩ := pair1 rx
    obtain ⟨a, vs, rfl, e, q⟩ := r.tup b
    exact .inl ⟨a, vs, rfl, .inr e, fun l nl => k l _ nl (.lst q)⟩
  · cases hg
    obtain ⟨v, rfl, r⟩ := pair1 rx
    obtain ⟨a, vs, rfl, e, q⟩ := r.dct b
    exact .inr ⟨a, vs, rfl, e, fun l nl => k l _ nl (.lst (reps_keys q))⟩
  · cases hg
end
end DL
namespace DL
open PySem PySem.Spec PyProof.Rows L2

/-! ### xs[i] -/
theorem lookup_mem : ∀ {l : List (Addr × Dt)} {a : Addr} {d : Dt}, l.lookup a = some d → (a, d) ∈ l
  | [], _, _, h => by simp at h
  | (b, e) :: l, a, d, h => by
    by_cases c : a = b
    · subst c
      rw [List.lookup_cons_self] at h
      cases h
      exact List.mem_cons_self
    · have c' : (a == b) = false := by simpa using c
      rw [List.lookup_cons, c'] at h
      exact List.mem_cons_of_mem _ (lookup_mem h)
def ixG (s : Sto) : Dt → Dt → Option Dt
  | .lst xs, .int i => atI xs i
  | .tup xs, .int i => atI xs i
  | .str z, .int i => if z.length ≤ sizeLine then (atI z.cps.toList i).map fun c => .str ⟨#[c]⟩ else none
  | .ref a, .int i => match s.lookup a with
    | some (.lst xs) => atI xs i
    | _ => none
  | _, _ => none
section
variable {K : PySem.W.Frag}
theorem Reps.at_ {F : Hp} {vs : List V} {ds : List Dt} {i : Int} {d : Dt} (r : Reps K F vs ds) (h : atI ds i = some d) : ∃ v, atI vs i = some v ∧ Rep K F v d := by
  unfold atI at h ⊢
  rw [r.length]
  cases q : ixN ds.length i with
  | none => rw [q] at h; cases h
  | some j =>
    rw [q] at h
    exact r.get h
theorem opd_ix : OpD K (rIx K) ixG := by
  intro ft F H s v w x y z Q b rx ry hg k
  unfold ixG at hg
  split at hg
  · obtain ⟨a, vs, rfl, e, r⟩ := rx.lst b
    obtain ⟨u, e1, r1⟩ := r.at_ hg
    exact .inl ⟨a, vs, _, u, rfl, ry.int, SqL.of e, e1, k u F H Go.refl b r1⟩
  · obtain ⟨a, vs, rfl, e, r⟩ := rx.tup b
    obtain ⟨u, e1, r1⟩ := r.at_ hg
    exact .inr (.inl ⟨a, vs, _, u, rfl, ry.int, e, e1, k u F H Go.refl b r1⟩)
  · split at hg
    · rename_i zz i hl
      cases q : atI zz.cps.toList i with
      | none => rw [q] at hg; cases hg
      | some c =>
        rw [q] at hg
        cases hg
        exact .inr (.inr ⟨zz, i, c, rx.str, ry.int, hl, q, k _ F H Go.refl b (.str _)⟩)
    · cases hg
  · rename_i a i
    split at hg
    · rename_i xs q
      obtain ⟨o, e, r⟩ := b.st _ _ (lookup_mem q)
      cases r with
      | lst r =>
        obtain ⟨u, e1, r1⟩ := r.at_ hg
        exact .inl ⟨a, _, _, u, rx.ref, ry.int, SqL.of e, e1, k u F H Go.refl b r1⟩
    · cases hg
  · cases hg
end
/-! ### d[k], k in d -/
def keyOf : Dt → Option Key
  | .int i => some (.inl i)
  | .str x => some (.inr x)
  | _ => none
def valD (ks : List (Key × Dt)) (k : Key) : Option Dt := (ks.find? fun kv => decide (kv.1 = k)).map (·.2)
def putD (ks : List (Key × Dt)) (k : Key) (d : Dt) : List (Key × Dt) := if (ks.any fun kv => decide (kv.1 = k)) = true then ks.map (fun kv => if kv.1 = k then (kv.1, d) else kv) else ks ++ [(k, d)]
def dctOf (s : Sto) : Dt → Option (List (Key × Dt))
  | .dct ks => some ks
  | .ref a => match s.lookup a with
    | some (.dct ks) => some ks
    | _ => none
  | _ => none
def dgetG (s : Sto) (x y : Dt) : Option Dt := do
  let ks ← dctOf s x
  let k ← keyOf y
  valD ks k
def dinB (s : Sto) (y x : Dt) : Option Bool := do
  let ks ← dctOf s x
  let k ← keyOf y
  some (valD ks k).isSome
def dinG (s : Sto) (y x : Dt) : Option Dt := (dinB s y x).map Dt.bl
def dnotinG (s : Sto) (y x : Dt) : Option Dt := (dinB s y x).map fun b => Dt.bl (!b)
section
variable {K : PySem.W.Frag}
theorem keyOf_V {ft : List Addr} {F H : Hp} {v : V} {y : Dt} {k : Key} (r : RepB K ft F H v y) (h : keyOf y = some k) : v = kV k := by
  cases y <;> simp only [keyOf] at h <;> try (cases h; done)
  · cases h; exact r.int
  · cases h; exact r.str
theorem dget_rd {H : Hp} {a : Addr} {kvs : List (Key × V)} {k : Key} (e : Rd H a (.dK kvs)) : DGet H a (kV k) (valV kvs k) := .inl ⟨kvs, k, e, rfl, rfl⟩
theorem dctOf_V {ft : List Addr} {F H : Hp} {s : Sto} {v : V} {x : Dt} {ks : List (Key × Dt)} (b : Bs K ft F H s) (r : RepB K ft F H v x) (h : dctOf s x = some ks) : ∃ a vs, v = .ref a ∧ Rd H a (.dK vs) ∧ Repk K F vs ks := by
  unfold dctOf at h
  split at h
  · cases h
    exact r.dct b
  · split at h
    · rename_i q
      cases h
      obtain ⟨o, e, r'⟩ := b.st _ _ (lookup_mem q)
      cases r' with
      | dct r' => exact ⟨_, _, r.ref, .inl e, r'⟩
    · cases h
  · cases h
theorem Repk.val {F : Hp} : ∀ {vs : List (Key × V)} {ds : List (Key × Dt)} (k : Key), Repk K F vs ds → (∀ d, valD ds k = some d → ∃ v, valV vs k = some v ∧ Rep K F v d) ∧ (valV vs k).isSome = (valD ds k).isSome
  | [], [], k, _ => ⟨fun d h => by simp [valD] at h, rfl⟩
  | [], _ :: _, _, h => by cases h
  | _ :: _, [], _, h => by cases h
  | (j, v) :: vs, (j', d) :: ds, k, h => by
    cases h with
    | cons h1 h2 =>
      by_cases c : j = k
      · subst c
        refine ⟨fun d' e => ⟨v, valV_pos rfl, ?_⟩, ?_⟩
        · simp [valD, List.find?_cons] at e
          subst e
          exact h1
        · rw [valV_pos rfl]
          simp [valD, List.find?_cons]
      · obtain ⟨i1, i2⟩ := Repk.val k h2
        have e2 : valD ((j, d) :: ds) k = valD ds k := by simp [valD, List.find?_cons, c]
        rw [e2, valV_neg c]
        exact ⟨i1, i2⟩
theorem Repk.put {F : Hp} {v : V} {d : Dt} (k : Key) (r : Rep K F v d) {vs : List (Key × V)} {ds : List (Key × Dt)} (h : Repk K F vs ds) : Repk K F (putK vs k v) (putD ds k d) := by
  have hany : ∀ {vs : List (Key × V)} {ds : List (Key × Dt)}, Repk K F vs ds → (vs.any fun kv => decide (kv.1 = k)) = (ds.any fun kv => decide (kv.1 = k)) := by
    intro vs ds h
    induction ds generalizing vs with
    | nil => cases h; rfl
    | cons e ds ih =>
      cases h with
      | cons h1 h2 => rw [List.any_cons, List.any_cons, ih h2]
  have hmap : ∀ {vs : List (Key × V)} {ds : List (Key × Dt)}, Repk K F vs ds → Repk K F (vs.map fun kv => if kv.1 = k then (kv.1, v) else kv) (ds.map fun kv => if kv.1 = k then (kv.1, d) else kv) := by
    intro vs ds h
    induction ds generalizing vs with
    | nil => cases h; exact .nil
    | cons e ds ih =>
      cases h with
      | cons h1 h2 =>
        rename_i j v0 vs0 d0
        simp only [List.map_cons]
        by_cases c : j = k
        · rw [if_pos c, if_pos c]; exact .cons r (ih h2)
        · rw [if_neg c, if_neg c]; exact .cons h1 (ih h2)
  have happ : ∀ {vs : List (Key × V)} {ds : List (Key × Dt)}, Repk K F vs ds → Repk K F (vs ++ [(k, v)]) (ds ++ [(k, d)]) := by
    intro vs ds h
    induction ds generalizing vs with
    | nil => cases h; exact .cons r .nil
    | cons e ds ih =>
      cases h with
      | cons h1 h2 => exact .cons h1 (ih h2)
  unfold putK putD
  rw [hany h]
  split
  · exact hmap h
  · exact happ h
variable {X : Cx} {O : List Nat} {a i o : Expr} {fa fb : Fe} {pos : Pos}
theorem d_ix (ha : PE X a (tB X.K O fa)) (hb : PE X i (tB X.K O fb)) (hs : PlainIx i := by intro _ _; rfl) : PE X (.Subscript a i pos) (tD X.K O (bind2 fa fb ixG)) := pe_imp (pe_ix ix_seq ha hb hs) (tOp_d opd_ix)
theorem bind2_some {fa fb : Fe} {gg : Sto → Dt → Dt → Option Dt} {env : Env} {s s' : Sto} {d : Dt} (hf : bind2 fa fb gg env s = some (d, s')) : ∃ x s1 y, fa env s = some (x, s1) ∧ fb env s1 = some (y, s') ∧ gg s' x y = some d := by
  unfold bind2 at hf
  cases qa : fa env s with
  | none => rw [qa] at hf; cases hf
  | some pa =>
    obtain ⟨x, s1⟩ := pa
    rw [qa] at hf
    cases qb : fb env s1 with
    | none => simp [qb] at hf
    | some pb =>
      obtain ⟨y, s2⟩ := pb
      cases qg : gg s2 x y with
      | none => simp [qb, qg] at hf
      | some z =>
        simp [qb, qg] at hf
        obtain ⟨rfl, rfl⟩ := hf
        exact ⟨x, s1, y, rfl, qb, qg⟩
theorem d_dget (hu : X.A.units + 1 < cLine) (ha : PE X o (tB X.K O fa)) (hb : PE X i (tB X.K O fb)) (hs : NoSl i := by intro _ _; rfl) : PE X (.Subscript o i pos) (tD X.K O (bind2 fa fb dgetG)) := pe_imp (pe_dget hu ha hb hs) fun σ H Q ⟨g, F, env, s, d, s', st, hf, k⟩ => by
  obtain ⟨x, s1, y, q1, q2, q3⟩ := bind2_some hf
  refine ⟨g, F, env, s, x, s1, st, q1, fun v F1 H1 x1 b1 r1 => ⟨g, F1, env, s1, y, s', st.step x1 b1, q2, fun w F2 H2 x2 b2 r2 => ?_⟩⟩
  unfold dgetG at q3
  cases qd : dctOf s' x with
  | none => rw [qd] at q3; cases q3
  | some ks =>
    cases qk : keyOf y with
    | none => simp [qd, qk] at q3
    | some key =>
      simp only [qd, qk, Option.bind_eq_bind, Option.bind_some] at q3
      obtain ⟨a, vs, rfl, e, r⟩ := dctOf_V b2 (r1.step x2) qd
      obtain ⟨u, e1, r1'⟩ := (r.val key).1 d q3
      obtain rfl := keyOf_V r2 qk
      exact ⟨a, u, rfl, by rw [← e1]; exact dget_rd e, k u F2 H2 (x1.trans x2 b1) b2 r1'⟩
theorem tDIn_d {K : PySem.W.Frag} (n : Bool) (σ : L2.St) (H : Hp) (Q : VK) (h : tD K O (bind2 fb fa fun s y x => (dinB s y x).map fun b => Dt.bl (if n then !b else b)) σ H Q) : (if n then tDNotIn (tB K O fb) (tB K O fa) σ H Q else tDIn (tB K O fb) (tB K O fa) σ H Q) := by
  obtain ⟨g, F, env, s, d, s', st, hf, k⟩ := h
  obtain ⟨y, s1, x, q1, q2, q3⟩ := bind2_some hf
  cases qb : dinB s' y x with
  | none => simp [qb] at q3
  | some c =>
    simp only [qb, Option.map_some, Option.some.injEq] at q3
    subst q3
    unfold dinB at qb
    cases qd : dctOf s' x with
    | none => rw [qd] at qb; cases qb
    | some ks =>
      cases qk : keyOf y with
      | none => simp [qd, qk] at qb
      | some key =>
        simp only [qd, qk, Option.bind_eq_bind, Option.bind_some, Option.some.injEq] at qb
        subst qb
        have main : tB K O fb σ H fun y' H1 => tB K O fa σ H1 fun x' H2 => ∃ a o, x' = .ref a ∧ DGet H2 a y' o ∧ Q (.bl (if n then !o.isSome else o.isSome)) H2 :=
          ⟨g, F, env, s, y, s1, st, q1, fun w F1 H1 x1 b1 r1 => ⟨g, F1, env, s1, x, s', st.step x1 b1, q2, fun v F2 H2 x2 b2 r2 => by
            obtain ⟨a, vs, rfl, e, r⟩ := dctOf_V b2 r2 qd
            obtain rfl := keyOf_V r1 qk
            exact ⟨a, _, rfl, dget_rd e, by rw [(r.val key).2]; exact k _ F2 H2 (x1.trans x2 b1) b2 (.bl _)⟩⟩⟩
        cases n with
        | true => exact main
        | false => exact main
theorem d_din (hu : X.A.units + 1 < cLine) (hb : PE X i (tB X.K O fb)) (ha : PE X o (tB X.K O fa)) (hm : behindInMarks .In o = false := by rfl) : PE X (.Compare i [.In] [o] pos) (tD X.K O (bind2 fb fa dinG)) := pe_imp (pe_cmp (pc_din hu hb ha) hm) (tDIn_d false)
theorem d_dnotin (hu : X.A.units + 1 < cLine) (hb : PE X i (tB X.K O fb)) (ha : PE X o (tB X.K O fa)) (hm : behindInMarks .NotIn o = false := by rfl) : PE X (.Compare i [.NotIn] [o] pos) (tD X.K O (bind2 fb fa dnotinG)) := pe_imp (pe_cmp (pc_dnotin hu hb ha) hm) (tDIn_d true)
theorem t_din (hu : X.A.units + 1 < cLine) (hb : PE X i (tB X.K O fb)) (ha : PE X o (tB X.K O fa)) (hm : behindInMarks .In o = false := by rfl) : PT X (.Compare i [.In] [o] pos) (tT X.K O (asB (bind2 fb fa dinG))) := pt_imp (pt_cmp (pc_din hu hb ha) hm) (tTest_t (tDIn_d false))
theorem t_dnotin (hu : X.A.units + 1 < cLine) (hb : PE X i (tB X.K O fb)) (ha : PE X o (tB X.K O fa)) (hm : behindInMarks .NotIn o = false := by rfl) : PT X (.Compare i [.NotIn] [o] pos) (tT X.K O (asB (bind2 fb fa dnotinG))) := pt_imp (pt_cmp (pc_dnotin hu hb ha) hm) (tTest_t (tDIn_d true))
end

/-! ### slices -/
abbrev Fo := Env → Sto → Option (Option Int × Sto)
def tO (K : PySem.W.Frag) (O : List Nat) (f : Fo) : TO := fun σ H Q => ∃ g F env s o s', Stt K g O F H σ env s ∧ f env s = some (o, s') ∧ ∀ F' H', Go g.ft F H F' H' → Bs K g.ft F' H' s' → Q o H'
def oNone : Fo := fun _ s => some (none, s)
def oSome (f : Fe) : Fo := fun env s => match f env s with
  | some (.int i, s') => some (some i, s')
  | _ => none
def cutD {α : Type} (xs : List α) (lo hi : Option Int) : List α := (xs.drop (HT.sIx xs.length 0 lo)).take (HT.sIx xs.length xs.length hi - HT.sIx xs.length 0 lo)
def sliceG (_ : Sto) (x : Dt) (lo hi : Option Int) : Option Dt := match x with
  | .str z => if z.length ≤ sizeLine then some (.str (cutS z lo hi)) else none
  | .tup xs => some (.tup (cutD xs lo hi))
  | .lst xs => some (.lst (cutD xs lo hi))
  | .scr ns => some (.lst ((cutD ns lo hi).map .int))
  | _ => none
def sliceLG (_ : Sto) (x : Dt) (lo hi : Option Int) : Option Dt := match x with
  | .lst xs => some (.lst (cutD xs lo hi))
  | .scr ns => some (.lst ((cutD ns lo hi).map .int))
  | _ => none
def bindS (f : Fe) (l h : Fo) (g : Sto → Dt → Option Int → Option Int → Option Dt) : Fe := fun env s => do
  let (x, s1) ← f env s
  let (lo, s2) ← l env s1
  let (hi, s3) ← h env s2
  let z ← g s3 x lo hi
  some (z, s3)
theorem bindS_some {f : Fe} {l h : Fo} {g : Sto → Dt → Option Int → Option Int → Option Dt} {env : Env} {s s' : Sto} {d : Dt} (hf : bindS f l h g env s = some (d, s')) :
    ∃ x s1 lo s2 hi, f env s = some (x, s1) ∧ l env s1 = some (lo, s2) ∧ h env s2 = some (hi, s') ∧ g s' x lo hi = some d := by
  unfold bindS at hf
  cases qa : f env s with
  | none => rw [qa] at hf; cases hf
  | some pa =>
    obtain ⟨x, s1⟩ := pa
    rw [qa] at hf
    cases qb : l env s1 with
    | none => simp [qb] at hf
    | some pb =>
      obtain ⟨lo, s2⟩ := pb
      cases qc : h env s2 with
      | none => simp [qb, qc] at hf
      | some pc =>
        obtain ⟨hi, s3⟩ := pc
        cases qg : g s3 x lo hi with
        | none => simp [qb, qc, qg] at hf
        | some z =>
          simp [qb, qc, qg] at hf
          obtain ⟨rfl, rfl⟩ := hf
          exact ⟨x, s1, lo, s2, hi, rfl, qb, qc, qg⟩
section
variable {X : Cx} {O : List Nat} {e : Expr} {lo hi : Option Expr} {f : Fe} {fl fh : Fo} {pos p2 : Pos}
theorem po_imp {t t' : TO} {x : Option Expr} (h : PO X x t) (k : ∀ σ H Q, t' σ H Q → t σ H Q) : PO X x t' := ⟨fun pins s σ H Q I q => h.run pins s σ H Q I (k σ H Q q)⟩
theorem o_none : PO X none (tO X.K O oNone) := po_imp po_none fun σ H Q ⟨g, F, env, s, o, s', st, hf, k⟩ => by
  cases hf
  exact k F H Go.refl st.bs
theorem o_some (he : PE X e (tB X.K O f)) : PO X (some e) (tO X.K O (oSome f)) := po_imp (po_some he) fun σ H Q ⟨g, F, env, s, o, s', st, hf, k⟩ => by
  unfold oSome at hf
  split at hf
  · rename_i i s1 q
    cases hf
    exact ⟨g, F, env, s, _, _, st, q, fun v F1 H1 x1 b1 r1 => ⟨i, r1.int, k F1 H1 x1 b1⟩⟩
  · cases hf
def rSlAll (K : PySem.W.Frag) : V → Option Int → Option Int → Hp → VK → Prop := fun x lo hi H Q => rSlS x lo hi H Q ∨ rSlF K x lo hi H Q ∨ rSlL K x lo hi H Q
theorem sl_all : SlR X (rSlAll X.K) := SlR.or sl_str (SlR.or sl_tupF sl_list)
theorem Reps.cut {K : PySem.W.Frag} {F : Hp} {vs : List V} {ds : List Dt} (r : Reps K F vs ds) (lo hi : Option Int) : Reps K F (cutV vs lo hi) (cutD ds lo hi) := by
  unfold cutV cutD
  rw [r.length]
  exact (r.drop _).take _
theorem cut_map {α β : Type} (f : α → β) (xs : List α) (lo hi : Option Int) : cutD (xs.map f) lo hi = (cutD xs lo hi).map f := by
  unfold cutD
  rw [List.length_map, List.map_take, List.map_drop]
theorem d_slice (he : PE X e (tB X.K O f)) (hl : PO X lo (tO X.K O fl)) (hh : PO X hi (tO X.K O fh)) : PE X (.Subscript e (.Slice lo hi none p2) pos) (tD X.K O (bindS f fl fh sliceG)) := pe_imp (pe_slice sl_all he hl hh) fun σ H Q ⟨g, F, env, s, d, s', st, hf, k⟩ => by
  obtain ⟨x, s1, lo, s2, hi, q1, q2, q3, q4⟩ := bindS_some hf
  refine ⟨g, F, env, s, x, s1, st, q1, fun v F1 H1 x1 b1 r1 => ⟨g, F1, env, s1, lo, s2, st.step x1 b1, q2, fun F2 H2 x2 b2 => ⟨g, F2, env, s2, hi, s', (st.step x1 b1).step x2 b2, q3, fun F3 H3 x3 b3 => ?_⟩⟩⟩
  have r := (r1.step x2).step x3
  have go := (x1.trans x2 b1).trans x3 b2
  have kl : ∀ vs ds, Reps X.K F3 vs ds → ∀ p, H3 p = none → d = .lst ds → Q (.ref p) (upd H3 p (.lst vs)) := fun vs ds rs p np e => by
    subst e
    obtain ⟨x4, b4⟩ := Go.lay (o := .lst vs) b3 np
    exact k (.ref p) _ _ (go.trans x4 b3) b4 ((ObR.lst rs).rep (Go.made (o := .lst vs) b3 np).2.2)
  cases x <;> simp only [sliceG] at q4 <;> try (cases q4; done)
  · split at q4 <;> cases q4
    exact .inl ⟨_, r.str, by assumption, k _ F3 H3 go b3 (.str _)⟩
  · cases q4
    rename_i xs0
    obtain ⟨a, vs, rfl, e, q⟩ := r.tup b3
    refine .inr (.inl ⟨a, vs, rfl, e, fun hw => ?_, fun _ p o np ho => ?_⟩)
    · have e1 : cutD xs0 lo hi = xs0 := by
        unfold cutD
        rw [← q.length, hw.1, hw.2, List.drop_zero, Nat.sub_zero, q.length, List.take_length]
      rw [e1] at k
      rcases r with r | ⟨_, _, _, _, r, _⟩
      · exact k _ F3 H3 go b3 r
      · cases r
    · obtain ⟨x4, b4, r4⟩ := Go.layT b3 np ho (q.cut lo hi)
      exact k (.ref p) _ _ (go.trans x4 b3) b4 r4
  · cases q4
    obtain ⟨a, vs, rfl, e, q⟩ := r.lst b3
    exact .inr (.inr ⟨a, vs, rfl, SqL.of e, fun p np => kl _ _ (q.cut lo hi) p np rfl⟩)
  · cases q4
    obtain ⟨a, rfl, e⟩ := r.scr b3
    refine .inr (.inr ⟨a, _, rfl, e, fun p np => kl _ _ ?_ p np rfl⟩)
    rw [← cut_map]
    exact (Reps.ints _).cut lo hi
theorem n_slice (he : PE X e (tB X.K O f)) (hl : PO X lo (tO X.K O fl)) (hh : PO X hi (tO X.K O fh)) : PE X (.Subscript e (.Slice lo hi none p2) pos) (tN X.K O (bindS f fl fh sliceLG)) := pe_imp (pe_slice sl_all he hl hh) fun σ H Q ⟨g, F, env, s, d, s', st, hf, k⟩ => by
  obtain ⟨x, s1, lo, s2, hi, q1, q2, q3, q4⟩ := bindS_some hf
  refine ⟨g, F, env, s, x, s1, st, q1, fun v F1 H1 x1 b1 r1 => ⟨g, F1, env, s1, lo, s2, st.step x1 b1, q2, fun F2 H2 x2 b2 => ⟨g, F2, env, s2, hi, s', (st.step x1 b1).step x2 b2, q3, fun F3 H3 x3 b3 => ?_⟩⟩⟩
  have r := (r1.step x2).step x3
  have go := (x1.trans x2 b1).trans x3 b2
  have kl : ∀ vs ds, Reps X.K F3 vs ds → ∀ p, H3 p = none → d = .lst ds → Q (.ref p) (upd H3 p (.lst vs)) := fun vs ds rs p np e => by
    subst e
    obtain ⟨x4, b4, n4⟩ := Go.made (o := .lst vs) b3 np
    exact k p _ _ _ (go.trans x4 b3) b4 (go.free b3 np) n4 upd_same (.lst rs)
  cases x <;> simp only [sliceLG] at q4 <;> try (cases q4; done)
  · cases q4
    obtain ⟨a, vs, rfl, e, q⟩ := r.lst b3
    exact .inr (.inr ⟨a, vs, rfl, SqL.of e, fun p np => kl _ _ (q.cut lo hi) p np rfl⟩)
  · cases q4
    obtain ⟨a, rfl, e⟩ := r.scr b3
    refine .inr (.inr ⟨a, _, rfl, e, fun p np => kl _ _ ?_ p np rfl⟩)
    rw [← cut_map]
    exact (Reps.ints _).cut lo hi
/-- xs[::-1] of a list -/
def revG (_ : Sto) : Dt → Option Dt
  | .lst xs => some (.lst xs.reverse)
  | _ => none
theorem n_rev {k : Nat} {p1 p2 p3 : Pos} (he : PE X e (tB X.K O f)) : PE X (.Subscript e (.Slice none none (some (.UnaryOp .USub (.Constant (.int 1) k p1) p2)) p3) pos) (tN X.K O (bind1 f revG)) := pe_imp (pe_revL he) fun σ H Q ⟨g, F, env, s, d, s', st, hf, k⟩ => by
  obtain ⟨x, q1, q2⟩ := bind1_some hf
  refine ⟨g, F, env, s, x, s', st, q1, fun v F1 H1 x1 b1 r1 => ?_⟩
  cases x <;> simp only [revG] at q2 <;> try (cases q2; done)
  cases q2
  obtain ⟨a, vs, rfl, e, q⟩ := r1.lst b1
  refine ⟨a, vs, rfl, SqL.of e, fun p np => ?_⟩
  obtain ⟨x4, b4, n4⟩ := Go.made (o := .lst vs.reverse) b1 np
  exact k p _ _ _ (x1.trans x4 b1) b4 (x1.free b1 np) n4 upd_same (.lst q.reverse)

/-! ### list(range(..)), range's bounds -/
def rgD (a b : Int) : List Dt := (List.range (b - a).toNat).map fun i => Dt.int (a + (i : Nat))
theorem reps_rg {K : PySem.W.Frag} {F : Hp} (a b : Int) : Reps K F (rgV a b) (rgD a b) := by
  unfold rgV rgD
  have : ∀ l : List Nat, Reps K F (l.map fun i => V.int (a + (i : Nat))) (l.map fun i => Dt.int (a + (i : Nat))) := by
    intro l
    induction l with
    | nil => exact .nil
    | cons x l ih => exact .cons (.int _) ih
  exact this _
def rgOk (a b : Int) : Bool := decide (-(2 ^ 62) ≤ a ∧ a < 2 ^ 62 ∧ -(2 ^ 62) ≤ b ∧ b < 2 ^ 62 ∧ (b - a).toNat ≤ 2 ^ 24)
def rg1G (_ : Sto) : Dt → Option Dt
  | .int n => if rgOk 0 n = true then some (.lst (rgD 0 n)) else none
  | _ => none
def rg2G (_ : Sto) : Dt → Dt → Option Dt
  | .int a, .int b => if rgOk a b = true then some (.lst (rgD a b)) else none
  | _, _ => none
theorem n_range1 {a : Expr} {fa : Fe} {p p1 pos1 : Pos} (hc : X.calm = true) (hg : Gl X "list") (hm : X.mg "list" = none) (hg2 : Gl X "range") (hm2 : X.mg "range" = none) (ha : PE X a (tB X.K O fa))
    (na : starEach [a] X.env = (false, eval a X.env) :: starEach [] X.env := by rfl)
    (na2 : starEach [.Call (.Name "range" p1) [a] [] pos1] X.env = (false, eval (.Call (.Name "range" p1) [a] [] pos1) X.env) :: starEach [] X.env := by rfl) :
    PE X (.Call (.Name "list" p) [.Call (.Name "range" p1) [a] [] pos1] [] pos) (tN X.K O (bind1 fa rg1G)) := pe_imp (pe_listRg hc hg hm (prg_1 hg2 hm2 ha na) na2) fun σ H Q ⟨g, F, env, s, d, s', st, hf, k⟩ => by
  obtain ⟨x, q1, q2⟩ := bind1_some hf
  refine ⟨g, F, env, s, x, s', st, q1, fun v F1 H1 x1 b1 r1 => ?_⟩
  cases x <;> simp only [rg1G] at q2 <;> try (cases q2; done)
  split at q2 <;> cases q2
  rename_i n hr
  have hr' : RgOk 0 n := by
    have z := of_decide_eq_true hr
    exact z
  refine ⟨n, r1.int, hr', fun p np => ?_⟩
  obtain ⟨x4, b4, n4⟩ := Go.made (o := .lst (rgV 0 n)) b1 np
  exact k p _ _ _ (x1.trans x4 b1) b4 (x1.free b1 np) n4 upd_same (.lst (reps_rg 0 n))
theorem n_range2 {a b : Expr} {fa fb : Fe} {p p1 pos1 : Pos} (hc : X.calm = true) (hg : Gl X "list") (hm : X.mg "list" = none) (hg2 : Gl X "range") (hm2 : X.mg "range" = none) (ha : PE X a (tB X.K O fa)) (hb : PE X b (tB X.K O fb))
    (h2 : PRg X (.Call (.Name "range" p1) [a, b] [] pos1) (tRg2 (tB X.K O fa) (tB X.K O fb)))
    (na2 : starEach [.Call (.Name "range" p1) [a, b] [] pos1] X.env = (false, eval (.Call (.Name "range" p1) [a, b] [] pos1) X.env) :: starEach [] X.env := by rfl) :
    PE X (.Call (.Name "list" p) [.Call (.Name "range" p1) [a, b] [] pos1] [] pos) (tN X.K O (bind2 fa fb rg2G)) := pe_imp (pe_listRg hc hg hm h2 na2) fun σ H Q ⟨g, F, env, s, d, s', st, hf, k⟩ => by
  obtain ⟨x, s1, y, q1, q2, q3⟩ := bind2_some hf
  refine ⟨g, F, env, s, x, s1, st, q1, fun v F1 H1 x1 b1 r1 => ⟨g, F1, env, s1, y, s', st.step x1 b1, q2, fun w F2 H2 x2 b2 r2 => ?_⟩⟩
  cases x <;> cases y <;> simp only [rg2G] at q3 <;> try (cases q3; done)
  split at q3 <;> cases q3
  rename_i a' b' hr
  have hr' : RgOk a' b' := by
    have z := of_decide_eq_true hr
    exact z
  refine ⟨a', b', (r1.step x2).int, r2.int, hr', fun p np => ?_⟩
  obtain ⟨x4, b4, n4⟩ := Go.made (o := .lst (rgV a' b')) b2 np
  exact k p _ _ _ ((x1.trans x2 b1).trans x4 b2) b4 ((x1.trans x2 b1).free b2 np) n4 upd_same (.lst (reps_rg a' b'))
end

/-! ### methods of texts -/
def strsOf : List Dt → Option (List Str)
  | [] => some []
  | .str x :: r => (strsOf r).map (x :: ·)
  | _ => none
theorem strs_map : ∀ {ds : List Dt} {bs : List Str}, strsOf ds = some bs → ds = bs.map Dt.str
  | [], _, h => by cases h; rfl
  | d :: r, bs, h => by
    cases d <;> simp only [strsOf] at h <;> try (cases h; done)
    rename_i b
    cases q : strsOf r with
    | none => rw [q] at h; cases h
    | some cs =>
      rw [q] at h
      cases h
      rw [strs_map q]
      rfl
def joinG (_ : Sto) : Dt → Dt → Option Dt
  | .str a, .lst xs => match strsOf xs with
    | some ys => if (ys.map (·.length)).sum + ys.length * a.length ≤ 16777216 then some (.str (Txt.join a ys)) else none
    | none => none
  | _, _ => none
def splitG (_ : Sto) : Dt → Dt → Option Dt
  | .str a, .str b => if (b.length == 0) = false ∧ a.length + 2 ≤ sizeLine then some (.lst ((Txt.split a b).map .str)) else none
  | _, _ => none
section
variable {X : Cx} {O : List Nat} {o e : Expr} {fa fb : Fe} {apos cpos : Pos}
def toStrOnly (f : Fe) : Fe := fun env s => match f env s with
  | some (.str z, s') => some (.str z, s')
  | _ => none
theorem toStr_some {f : Fe} {env : Env} {s s' : Sto} {d : Dt} (h : toStrOnly f env s = some (d, s')) : ∃ z, d = .str z ∧ f env s = some (.str z, s') := by
  unfold toStrOnly at h
  split at h
  · rename_i q; cases h; exact ⟨_, rfl, q⟩
  · cases h
theorem d_join (ha : PE X o (tB X.K O fa)) (hb : PE X e (tB X.K O fb))
    (hbase : attributeBase o "join" X.env (eval o X.env) = eval o X.env := by rfl)
    (hfew : ((backTo cpos (starEach [e] X.env)).all (fun x => !x.1) && (backToKw cpos (keywordEach [] X.env)).all (fun x => x.1.isSome)
      && decide ([e].length + ([] : List Keyword).length + (if ([] : List Keyword).isEmpty then 0 else 1) < 30)) = true := by rfl)
    (hline : (apos.endLine == cpos.line) = true := by rfl) (hs : starEach [e] X.env = (false, eval e X.env) :: starEach [] X.env := by rfl) (hplain : (backTo cpos (starEach [] X.env)).any (·.1) = false := by rfl) :
    PE X (.Call (.Attribute o "join" apos) [e] [] cpos) (tD X.K O (bind2 (toStrOnly fa) fb joinG)) :=
  pe_imp (pe_bm PySem.F.plainAttrs_str PySem.F.slot_str_join PySem.F.type_str_join mt_join ha (pa_cons hb pa_nil hs) hbase hfew hline hs hplain) fun σ H Q ⟨g, F, env, s, d, s', st, hf, k⟩ => by
  obtain ⟨x, s1, y, q1, q2, q3⟩ := bind2_some hf
  obtain ⟨z, rfl, qz⟩ := toStr_some q1
  refine ⟨g, F, env, s, _, s1, st, qz, fun v F1 H1 x1 b1 r1 => ?_⟩
  obtain rfl := r1.str
  refine ⟨rfl, g, F1, env, s1, y, s', st.step x1 b1, q2, fun w F2 H2 x2 b2 r2 => ?_⟩
  cases y <;> simp only [joinG] at q3 <;> try (cases q3; done)
  split at q3
  · rename_i ys qs
    split at q3 <;> cases q3
    rename_i hl
    obtain ⟨a, vs, rfl, e, q⟩ := r2.lst b2
    rw [strs_map qs] at q
    rw [q.of_strs] at e
    exact ⟨_, a, ys, rfl, rfl, .inl (SqL.of e), hl, k _ F2 H2 (x1.trans x2 b1) b2 (.str _)⟩
  · cases q3
theorem n_split (ha : PE X o (tB X.K O fa)) (hb : PE X e (tB X.K O fb))
    (hbase : attributeBase o "split" X.env (eval o X.env) = eval o X.env := by rfl)
    (hfew : ((backTo cpos (starEach [e] X.env)).all (fun x => !x.1) && (backToKw cpos (keywordEach [] X.env)).all (fun x => x.1.isSome)
      && decide ([e].length + ([] : List Keyword).length + (if ([] : List Keyword).isEmpty then 0 else 1) < 30)) = true := by rfl)
    (hline : (apos.endLine == cpos.line) = true := by rfl) (hs : starEach [e] X.env = (false, eval e X.env) :: starEach [] X.env := by rfl) (hplain : (backTo cpos (starEach [] X.env)).any (·.1) = false := by rfl) :
    PE X (.Call (.Attribute o "split" apos) [e] [] cpos) (tN X.K O (bind2 (toStrOnly fa) fb splitG)) :=
  pe_imp (pe_bm PySem.F.plainAttrs_str PySem.F.slot_str_split PySem.F.type_str_split mt_split ha (pa_cons hb pa_nil hs) hbase hfew hline hs hplain) fun σ H Q ⟨g, F, env, s, d, s', st, hf, k⟩ => by
  obtain ⟨x, s1, y, q1, q2, q3⟩ := bind2_some hf
  obtain ⟨z, rfl, qz⟩ := toStr_some q1
  refine ⟨g, F, env, s, _, s1, st, qz, fun v F1 H1 x1 b1 r1 => ?_⟩
  obtain rfl := r1.str
  refine ⟨rfl, g, F1, env, s1, y, s', st.step x1 b1, q2, fun w F2 H2 x2 b2 r2 => ?_⟩
  cases y <;> simp only [splitG] at q3 <;> try (cases q3; done)
  split at q3 <;> cases q3
  rename_i hl
  obtain rfl := r2.str
  refine ⟨_, _, rfl, rfl, hl.1, hl.2, fun p np => ?_⟩
  obtain ⟨x4, b4, n4⟩ := Go.made (o := .lst ((Txt.split z _).map V.str)) b2 np
  exact k p _ _ _ ((x1.trans x2 b1).trans x4 b2) b4 ((x1.trans x2 b1).free b2 np) n4 upd_same (.lst (Reps.strs _))
end
end DL
namespace DL
open PySem PySem.Spec PyProof.Rows L2

/-! ### names that give up their objects -/
section
variable {K : PySem.W.Frag} {g : Gd} {O O' : List Nat} {F H : Hp} {σ : L2.St} {env : Env} {s : Sto}
theorem Stt.mem (h : Stt K g O F H σ env s) (e : ∀ i, i ∈ O' ↔ i ∈ O) : Stt K g O' F H σ env s :=
  ⟨h.bs, ⟨h.sl.len, fun i d hi => h.sl.pu i d fun z => hi ((e i).mpr z), fun i hi => h.sl.ow i ((e i).mp hi), fun i j p hi hj => h.sl.di i j p ((e i).mp hi) ((e j).mp hj)⟩, h.go⟩
theorem Stt.frost1 {i : Nat} (h : Stt K g (i :: O') F H σ env s) (hi : i ∉ O') {φ : Hp → Prop} (k : ∀ F' H', Same F F' → Stt K g O' F' H' σ env s → Lk φ H') : Lk φ H := by
  obtain ⟨p, o, d, e1, e2, e3, r, n, nf, nh⟩ := h.sl.ow i List.mem_cons_self
  have fin : ∀ (o' : HO) (H' : Hp), Go g.ft g.f0 g.he (upd F p o') H' → Bs K g.ft (upd F p o') H' s → Rep K (upd F p o') (.ref p) d → (∀ q, q ≠ p → H' q = H q) → Lk φ H' := fun o' H' x1 b1 rp hq => by
    have sF : Same F (upd F p o') := fun c u e => by rw [upd_ne (ne_of_none e n)]; exact e
    refine k (upd F p o') H' sF ⟨b1, ⟨h.sl.len, fun j d' hj e => ?_, fun j hj => ?_, fun a b q ha hb => h.sl.di a b q (List.mem_cons_of_mem _ ha) (List.mem_cons_of_mem _ hb)⟩, x1⟩
    · by_cases c : j = i
      · subst c
        rw [e2] at e; cases e
        exact ⟨_, e1, rp⟩
      · obtain ⟨v, e4, r4⟩ := h.sl.pu j d' (fun z => (List.mem_cons.mp z).elim c hj) e
        exact ⟨v, e4, Rep.mono sF _ _ r4⟩
    · obtain ⟨p', o2, d', f1, f2, f3, r', n', nf', nh'⟩ := h.sl.ow j (List.mem_cons_of_mem _ hj)
      have np : p' ≠ p := fun z => by
        subst z
        have := h.sl.di i j p' List.mem_cons_self (List.mem_cons_of_mem _ hj) e1 f1
        subst this
        exact hi hj
      exact ⟨p', o2, d', f1, f2, by rw [hq _ np]; exact f3, r'.mono sF, by rw [upd_ne np]; exact n', nf', nh'⟩
  cases r with
  | @lst vs ds q =>
    obtain ⟨x1, b1⟩ := h.go.frost h.bs nh n e3 nf
    exact fin _ H x1 b1 (ObR.rep (.lst q) n) fun _ _ => rfl
  | @dct vs ds q =>
    refine .lock e3 trivial fun od => ?_
    obtain ⟨x1, b1⟩ := h.go.frostL (o' := .frz od (.dK vs)) h.bs nh n e3 nf
    exact fin _ _ x1 b1 (ObR.repL (.dct q) n) fun q hq => upd_ne hq
theorem Stt.frosts {φ : Hp → Prop} : ∀ (L : List Nat) {F H : Hp}, Stt K g (L ++ O') F H σ env s → (∀ F' H', Same F F' → Stt K g O' F' H' σ env s → φ H') → Lk φ H
  | [], F, H, h, k => .done (k F H (Same.refl _) h)
  | i :: L, F, H, h, k => by
    by_cases c : i ∈ L ++ O'
    · exact Stt.frosts L (h.mem (O' := L ++ O') fun j => ⟨fun z => List.mem_cons_of_mem _ z, fun z => (List.mem_cons.mp z).elim (fun e => e ▸ c) fun z => z⟩) k
    · exact Stt.frost1 (O' := L ++ O') h c fun F1 H1 e1 h1 => Stt.frosts L h1 fun F2 H2 e2 h2 => k F2 H2 (e1.trans e2) h2
/-- fewer owners -/
theorem Stt.weak {φ : Hp → Prop} (h : Stt K g O F H σ env s) (e : ∀ i, i ∈ O' → i ∈ O) (k : ∀ F' H', Same F F' → Stt K g O' F' H' σ env s → φ H') : Lk φ H :=
  Stt.frosts O (h.mem fun i => ⟨fun z => (List.mem_append.mp z).elim (fun z => z) fun z => e i z, fun z => List.mem_append_left _ z⟩) k
/-- a name is stored, its value frozen -/
theorem Stt.setD {i : Nat} {v : V} {d : Dt} (h : Stt K g O F H σ env s) (r : Rep K F v d) (e : ∀ j, j ∈ O' → j ∈ O ∧ j ≠ i) (e' : ∀ j, j ∈ O → j ≠ i → j ∈ O') : Stt K g O' F H (σ.set i (some v)) (env.set i (some d)) s := by
  refine ⟨h.bs, ⟨by rw [List.length_set, List.length_set]; exact h.sl.len, fun j d' hj q => ?_, fun j hj => ?_, fun a b p ha hb qa qb => ?_⟩, h.go⟩
  · by_cases c : j = i
    · subst c
      have hl : j < env.length := by
        have := (List.getElem?_eq_some_iff.mp q).1
        rwa [List.length_set] at this
      rw [List.getElem?_set_self hl] at q
      cases q
      exact ⟨v, List.getElem?_set_self (by rw [h.sl.len]; exact hl), r⟩
    · rw [List.getElem?_set_ne (Ne.symm c)] at q
      obtain ⟨u, e1, r1⟩ := h.sl.pu j d' (fun z => hj (e' j z c)) q
      exact ⟨u, by rw [List.getElem?_set_ne (Ne.symm c)]; exact e1, r1⟩
  · obtain ⟨hO, c⟩ := e j hj
    rw [List.getElem?_set_ne (Ne.symm c), List.getElem?_set_ne (Ne.symm c)]
    exact h.sl.ow j hO
  · obtain ⟨hA, ca⟩ := e a ha
    obtain ⟨hB, cb⟩ := e b hb
    rw [List.getElem?_set_ne (Ne.symm ca)] at qa
    rw [List.getElem?_set_ne (Ne.symm cb)] at qb
    exact h.sl.di a b p hA hB qa qb
/-- a name is stored, it owns a new object -/
theorem Stt.setN {i : Nat} {p : Addr} {o : HO} {d : Dt} (h : Stt K g O F H σ env s) (hi : i < env.length) (eo : H p = some o) (r : ObR K F o d) (n : F p = none) (nf : p ∉ g.ft) (nh : g.he p = none) (hd : ∀ j, j ∈ O → j ≠ i → σ[j]? ≠ some (some (.ref p)))
    (e : ∀ j, j ∈ O' → j = i ∨ j ∈ O) (e' : ∀ j, j ∈ O → j ∈ O') (e2 : i ∈ O') : Stt K g O' F H (σ.set i (some (.ref p))) (env.set i (some d)) s := by
  refine ⟨h.bs, ⟨by rw [List.length_set, List.length_set]; exact h.sl.len, fun j d' hj q => ?_, fun j hj => ?_, fun a b q ha hb qa qb => ?_⟩, h.go⟩
  · have c : j ≠ i := fun z => hj (z ▸ e2)
    rw [List.getElem?_set_ne (Ne.symm c)] at q
    obtain ⟨u, e1, r1⟩ := h.sl.pu j d' (fun z => hj (e' j z)) q
    exact ⟨u, by rw [List.getElem?_set_ne (Ne.symm c)]; exact e1, r1⟩
  · by_cases c : j = i
    · subst c
      exact ⟨p, o, d, List.getElem?_set_self (by rw [h.sl.len]; exact hi), List.getElem?_set_self hi, eo, r, n, nf, nh⟩
    · rw [List.getElem?_set_ne (Ne.symm c), List.getElem?_set_ne (Ne.symm c)]
      exact h.sl.ow j ((e j hj).elim (fun z => absurd z c) fun z => z)
  · have key : ∀ j, j ∈ O' → (σ.set i (some (.ref p)))[j]? = some (some (.ref q)) → (j = i ∧ q = p) ∨ (j ≠ i ∧ j ∈ O ∧ σ[j]? = some (some (.ref q))) := fun j hj z => by
      by_cases c : j = i
      · subst c
        rw [List.getElem?_set_self (by rw [h.sl.len]; exact hi)] at z
        cases z
        exact .inl ⟨rfl, rfl⟩
      · rw [List.getElem?_set_ne (Ne.symm c)] at z
        exact .inr ⟨c, (e j hj).elim (fun z => absurd z c) fun z => z, z⟩
    rcases key a ha qa with ⟨rfl, rfl⟩ | ⟨ca, hA, za⟩
    · rcases key b hb qb with ⟨rfl, _⟩ | ⟨cb, hB, zb⟩
      · rfl
      · exact absurd zb (hd b hB cb)
    · rcases key b hb qb with ⟨rfl, rfl⟩ | ⟨cb, hB, zb⟩
      · exact absurd za (hd a hA ca)
      · exact h.sl.di a b q hA hB za zb
/-- an owner's object is changed -/
theorem Stt.change {i : Nat} {p : Addr} {o o' : HO} {d : Dt} (h : Stt K g O F H σ env s) (hi : i ∈ O) (es : σ[i]? = some (some (.ref p))) (eo : H p = some o) (r : ObR K F o' d) : Stt K g O F (upd H p o') σ (env.set i (some d)) s := by
  obtain ⟨p', o1, d1, f1, f2, f3, r', n', nf', nh'⟩ := h.sl.ow i hi
  rw [es] at f1
  cases f1
  have hl : i < env.length := (List.getElem?_eq_some_iff.mp f2).1
  refine ⟨⟨fun c u e => ?_, h.bs.ad, h.bs.nd, fun a d' hm => ?_, h.bs.fr⟩, ⟨by rw [List.length_set]; exact h.sl.len, fun j d' hj q => ?_, fun j hj => ?_, h.sl.di⟩, ⟨fun c u e nc => ?_, h.go.sam, h.go.new⟩⟩
  · rw [upd_ne (ne_of_none e n')]; exact h.bs.sub c u e
  · obtain ⟨ob, e, rr⟩ := h.bs.st a d' hm
    have na : a ≠ p := fun z => nf' (by rw [← z, ← h.bs.ad]; exact List.mem_map_of_mem hm)
    exact ⟨ob, by rw [upd_ne na]; exact e, rr⟩
  · have c : j ≠ i := fun z => hj (z ▸ hi)
    rw [List.getElem?_set_ne (Ne.symm c)] at q
    exact h.sl.pu j d' hj q
  · by_cases c : j = i
    · subst c
      exact ⟨p, o', d, es, List.getElem?_set_self hl, upd_same, r, n', nf', nh'⟩
    · obtain ⟨p2, o2, d2, g1, g2, g3, r2, n2, nf2, nh2⟩ := h.sl.ow j hj
      have np : p2 ≠ p := fun z => by
        subst z
        exact c (h.sl.di j i p2 hj hi g1 es)
      exact ⟨p2, o2, d2, g1, by rw [List.getElem?_set_ne (Ne.symm c)]; exact g2, by rw [upd_ne np]; exact g3, r2, n2, nf2, nh2⟩
  · have nc' : c ≠ p := fun z => by subst z; rw [nh'] at e; cases e
    rw [upd_ne nc']; exact h.go.ext c u e nc
/-- an object of the store is changed -/
theorem Bs.put {ft : List Addr} {a : Addr} {o' : HO} {d : Dt} (b : Bs K ft F H s) (ha : a ∈ ft) (r : ObR K F o' d) : Bs K ft F (upd H a o') (s.map fun q => if q.1 = a then (a, d) else q) := by
  have e1 : (s.map fun q => if q.1 = a then (a, d) else q).map (·.1) = s.map (·.1) := by
    rw [List.map_map]
    refine List.map_congr_left fun q _ => ?_
    show (if q.1 = a then (a, d) else q).1 = q.1
    split
    · rename_i c; exact c.symm
    · rfl
  refine ⟨fun c u e => ?_, by rw [e1]; exact b.ad, b.nd, fun c d' hm => ?_, b.fr⟩
  · rw [upd_ne (fun z => by subst z; rw [b.fr c ha] at e; cases e)]; exact b.sub c u e
  · obtain ⟨q, hq, e⟩ := List.mem_map.mp hm
    by_cases c' : q.1 = a
    · rw [if_pos c'] at e
      cases e
      exact ⟨o', upd_same, r⟩
    · rw [if_neg c'] at e
      subst e
      obtain ⟨ob, e, rr⟩ := b.st _ _ hq
      exact ⟨ob, by rw [upd_ne c']; exact e, rr⟩
theorem Stt.put {a : Addr} {o' : HO} {d : Dt} (h : Stt K g O F H σ env s) (ha : a ∈ g.ft) (r : ObR K F o' d) : Stt K g O F (upd H a o') σ env (s.map fun q => if q.1 = a then (a, d) else q) := by
  refine ⟨h.bs.put ha r, ⟨h.sl.len, h.sl.pu, fun j hj => ?_, h.sl.di⟩, ⟨fun c u e nc => ?_, h.go.sam, h.go.new⟩⟩
  · obtain ⟨p, o, d', e1, e2, e3, rr, n, nf, nh⟩ := h.sl.ow j hj
    exact ⟨p, o, d', e1, e2, by rw [upd_ne (fun (z : p = a) => nf (z ▸ ha))]; exact e3, rr, n, nf, nh⟩
  · rw [upd_ne (fun (z : c = a) => nc (z ▸ ha))]; exact h.go.ext c u e nc
end

/-! ### statements -/
inductive Out where
  | nx (env : Env) | rt (d : Dt) | bk (env : Env) | ct (env : Env)
abbrev Fs := Env → Sto → Option (Out × Sto)
/-- O ahead, O' behind; L at a loop's head -/
def post (K : PySem.W.Frag) (g : Gd) (L O' : List Nat) (D : Ends) (F : Hp) (s' : Sto) : Out → Prop
  | .nx env' => ∀ σ' H' F', Same F F' → Stt K g O' F' H' σ' env' s' → D.nx σ' H'
  | .rt d => ∀ v H' F', Bs K g.ft F' H' s' → Go g.ft g.f0 g.he F' H' → Rep K F' v d → D.rt v H'
  | .bk env' => ∀ σ' H' F', Same F F' → Stt K g L F' H' σ' env' s' → D.bk σ' H'
  | .ct env' => ∀ σ' H' F', Same F F' → Stt K g L F' H' σ' env' s' → D.ct σ' H'
theorem post.mono {K : PySem.W.Frag} {g : Gd} {L O' : List Nat} {D : Ends} {F F1 : Hp} {s' : Sto} {o : Out} (e : Same F F1) (h : post K g L O' D F s' o) : post K g L O' D F1 s' o := by
  cases o with
  | nx env' => exact fun σ' H' F' e' st => h σ' H' F' (e.trans e') st
  | rt d => exact h
  | bk env' => exact fun σ' H' F' e' st => h σ' H' F' (e.trans e') st
  | ct env' => exact fun σ' H' F' e' st => h σ' H' F' (e.trans e') st
def tS (K : PySem.W.Frag) (L O O' : List Nat) (f : Fs) : TS := fun D σ H => ∃ g F env s out s', Stt K g O F H σ env s ∧ f env s = some (out, s') ∧ post K g L O' D F s' out
section
variable {X : Cx} {L O O' O'' : List Nat} {e : Expr} {st : Stmt} {sts : List Stmt} {f : Fe} {F1 F2 : Fs} {pos : Pos}
theorem ps_imp {t t' : TS} (h : PS X st t) (k : ∀ D σ H, t' D σ H → t D σ H) : PS X st t' := ⟨fun pins s σ H D I q => h.run pins s σ H D I (k D σ H q)⟩
theorem pss_imp {t t' : TS} (h : PSs X sts t) (k : ∀ D σ H, t' D σ H → t D σ H) : PSs X sts t' := ⟨fun pins s σ H D I q => h.run pins s σ H D I (k D σ H q)⟩
theorem ps_lkin {t : TS} (h : PS X st t) : PS X st (fun D σ H => Lk (t D σ) H) := ⟨fun pins s σ H D I l => by
  obtain ⟨H1, I1, q⟩ := l.inv I
  exact h.run pins s σ H1 D I1 q⟩
theorem pss_lkin {t : TS} (h : PSs X sts t) : PSs X sts (fun D σ H => Lk (t D σ) H) := ⟨fun pins s σ H D I l => by
  obtain ⟨H1, I1, q⟩ := l.inv I
  exact h.run pins s σ H1 D I1 q⟩
theorem pss_lkout {t : TS} (h : PSs X sts t) : PSs X sts (fun D σ H => t ⟨fun σ' H' => Lk (D.nx σ') H', D.rt, D.bk, D.ct⟩ σ H) := by
  refine ⟨fun pins s σ H D I hw => thn (h.run pins s σ H _ I hw) fun f s1 q => ?_⟩
  cases f with
  | next =>
    obtain ⟨σ', H', I2, q⟩ := q
    obtain ⟨H2, I3, q2⟩ := q.inv I2
    exact ⟨σ', H2, I3, q2⟩
  | brk => exact q
  | cont => exact q
  | ret v => exact q
theorem ps_lkout {t : TS} (h : PS X st t) : PS X st (fun D σ H => t ⟨fun σ' H' => Lk (D.nx σ') H', D.rt, D.bk, D.ct⟩ σ H) := by
  refine ⟨fun pins s σ H D I hw => thn (h.run pins s σ H _ I hw) fun f s1 q => ?_⟩
  cases f with
  | next =>
    obtain ⟨σ', H', I2, q⟩ := q
    obtain ⟨H2, I3, q2⟩ := q.inv I2
    exact ⟨σ', H2, I3, q2⟩
  | brk => exact q
  | cont => exact q
  | ret v => exact q
/-- fewer owners ahead -/
theorem s_weak (h : PS X st (tS X.K L O O' F1)) (e : ∀ i, i ∈ O → i ∈ O'' := by decide) : PS X st (tS X.K L O'' O' F1) := ps_imp (ps_lkin h) fun D σ H ⟨g, F, env, s, out, s', st, hf, k⟩ =>
  st.weak e fun F' H' sm st' => ⟨g, F', env, s, out, s', st', hf, k.mono sm⟩
theorem ss_weak (h : PSs X sts (tS X.K L O O' F1)) (e : ∀ i, i ∈ O → i ∈ O'' := by decide) : PSs X sts (tS X.K L O'' O' F1) := pss_imp (pss_lkin h) fun D σ H ⟨g, F, env, s, out, s', st, hf, k⟩ =>
  st.weak e fun F' H' sm st' => ⟨g, F', env, s, out, s', st', hf, k.mono sm⟩
/-- fewer owners behind -/
theorem ss_end (h : PSs X sts (tS X.K L O O' F1)) (e : ∀ i, i ∈ O'' → i ∈ O' := by decide) : PSs X sts (tS X.K L O O'' F1) := pss_imp (pss_lkout h) fun D σ H ⟨g, F, env, s, out, s', st, hf, k⟩ => by
  refine ⟨g, F, env, s, out, s', st, hf, ?_⟩
  cases out with
  | nx env' => exact fun σ' H' F' e' st' => st'.weak e fun F2 H2 sm st2 => k σ' H2 F2 (e'.trans sm) st2
  | rt d => exact k
  | bk env' => exact k
  | ct env' => exact k
def seqS (a b : Fs) : Fs := fun env s => match a env s with
  | some (.nx env', s') => b env' s'
  | r => r
def skipS : Fs := fun env s => some (.nx env, s)
theorem ss_nil : PSs X [] (tS X.K L O O skipS) := pss_imp pss_nil fun D σ H ⟨g, F, env, s, out, s', st, hf, k⟩ => by
  cases hf
  exact k σ H F (Same.refl _) st
theorem ss_one (h : PS X st (tS X.K L O O' F1)) : PSs X [st] (tS X.K L O O' F1) := pss_one h
theorem ss_cons (h : PS X st (tS X.K L O O' F1)) (h' : PSs X sts (tS X.K L O' O'' F2)) : PSs X (st :: sts) (tS X.K L O O'' (seqS F1 F2)) := pss_imp (pss_cons h h') fun D σ H ⟨g, F, env, s, out, s', st, hf, k⟩ => by
  unfold seqS at hf
  cases q : F1 env s with
  | none => rw [q] at hf; cases hf
  | some p =>
    obtain ⟨o1, s1⟩ := p
    rw [q] at hf
    refine ⟨g, F, env, s, o1, s1, st, q, ?_⟩
    cases o1 with
    | nx env' => exact fun σ' H' F' e' st' => ⟨g, F', env', s1, out, s', st', hf, k.mono e'⟩
    | rt d => cases hf; exact k
    | bk env' => cases hf; exact k
    | ct env' => cases hf; exact k
theorem s_pass : PS X (.Pass pos) (tS X.K L O O skipS) := ps_imp ps_pass fun D σ H ⟨g, F, env, s, out, s', st, hf, k⟩ => by
  cases hf
  exact k σ H F (Same.refl _) st
theorem s_doc {x j pos pos'} : PS X (.Expr (.Constant (.str x) j pos) pos') (tS X.K L O O skipS) := ps_imp ps_doc fun D σ H ⟨g, F, env, s, out, s', st, hf, k⟩ => by
  cases hf
  exact k σ H F (Same.refl _) st
/-- code that is never reached -/
def neverS : Fs := fun _ _ => none
theorem s_never : PS X st (tS X.K L O O' neverS) := ps_imp ps_never fun D σ H ⟨g, F, env, s, out, s', st, hf, k⟩ => by cases hf
theorem ss_never : PSs X sts (tS X.K L O O' neverS) := pss_imp pss_never fun D σ H ⟨g, F, env, s, out, s', st, hf, k⟩ => by cases hf
def retS (f : Fe) : Fs := fun env s => (f env s).map fun p => (.rt p.1, p.2)
theorem s_ret (he : PE X e (tD X.K O f)) : PS X (.Return (some e) pos) (tS X.K L O O' (retS f)) := ps_imp (ps_ret he) fun D σ H ⟨g, F, env, s, out, s', st, hf, k⟩ => by
  unfold retS at hf
  cases q : f env s with
  | none => rw [q] at hf; cases hf
  | some p =>
    obtain ⟨d, s1⟩ := p
    rw [q] at hf
    cases hf
    exact ⟨g, F, env, s, d, _, st, q, fun v F' H' x b r => k v H' F' b (st.go.trans x st.bs) r⟩
/-- return of a name that owns its object (it gives it up) -/
theorem s_retO (he : PE X e (tD X.K [] f)) : PS X (.Return (some e) pos) (tS X.K L O O' (retS f)) := s_weak (s_ret he) (fun i z => absurd z (List.not_mem_nil))
theorem s_retN : PS X (.Return none pos) (tS X.K L O O' (fun _ s => some (.rt .non, s))) := ps_imp ps_retN fun D σ H ⟨g, F, env, s, out, s', st, hf, k⟩ => by
  cases hf
  exact k .non H F st.bs st.go .non
def dropS (f : Fe) : Fs := fun env s => (f env s).map fun p => (.nx env, p.2)
theorem s_expr (he : PE X e (tB X.K O f)) (hs : swapsWith e none pos.line X.env = pure false := by rfl) : PS X (.Expr e pos) (tS X.K L O O (dropS f)) := ps_imp (ps_expr he hs) fun D σ H ⟨g, F, env, s, out, s', st, hf, k⟩ => by
  unfold dropS at hf
  cases q : f env s with
  | none => rw [q] at hf; cases hf
  | some p =>
    obtain ⟨d, s1⟩ := p
    rw [q] at hf
    cases hf
    exact ⟨g, F, env, s, d, _, st, q, fun v F' H' x b r => k σ H' F' x.sam (st.step x b)⟩
def ifS (c : Ft) (a b : Fs) : Fs := fun env s => match c env s with
  | some (t, s') => if t then a env s' else b env s'
  | none => none
theorem s_if {c : Expr} {A B : List Stmt} {fc : Ft} (hc : PT X c (tT X.K O fc)) (ha : PSs X A (tS X.K L O O' F1)) (hb : PSs X B (tS X.K L O O' F2)) : PS X (.If c A B pos) (tS X.K L O O' (ifS fc F1 F2)) := ps_imp (ps_if hc ha hb) fun D σ H ⟨g, F, env, s, out, s', st, hf, k⟩ => by
  unfold ifS at hf
  cases q : fc env s with
  | none => rw [q] at hf; cases hf
  | some p =>
    obtain ⟨b, s1⟩ := p
    rw [q] at hf
    refine ⟨g, F, env, s, b, s1, st, q, fun F' H' x bb => ?_⟩
    cases b with
    | true => exact ⟨g, F', env, s1, out, s', st.step x bb, hf, k.mono x.sam⟩
    | false => exact ⟨g, F', env, s1, out, s', st.step x bb, hf, k.mono x.sam⟩
/-! stores to names -/
def setS (i : Nat) (f : Fe) : Fs := fun env s => (f env s).map fun p => (.nx (env.set i (some p.1)), p.2)
def setNS (i : Nat) (f : Fe) : Fs := fun env s => if i < env.length then (f env s).map fun p => (.nx (env.set i (some p.1)), p.2) else none
theorem asg_imp {tg : Expr} {te te' : TE} {gg : TG} (h : PS X (.Assign [tg] e pos) (tAsg te gg)) (k : ∀ σ H Q, te' σ H Q → te σ H Q) : PS X (.Assign [tg] e pos) (tAsg te' gg) := ps_imp h fun D σ H q => k σ H _ q
theorem s_set {i : Nat} {x : Str} {pos' : Pos} (h : PS X (.Assign [.Name x pos'] e pos) (tAsg (tD X.K O f) (gName i)))
    (h1 : ∀ j, j ∈ O' → j ∈ O ∧ j ≠ i := by decide) (h2 : ∀ j, j ∈ O → j ≠ i → j ∈ O' := by decide) : PS X (.Assign [.Name x pos'] e pos) (tS X.K L O O' (setS i f)) := ps_imp h fun D σ H ⟨g, F, env, s, out, s', st, hf, k⟩ => by
  unfold setS at hf
  cases q : f env s with
  | none => rw [q] at hf; cases hf
  | some p =>
    obtain ⟨d, s1⟩ := p
    rw [q] at hf
    cases hf
    exact ⟨g, F, env, s, d, _, st, q, fun v F' H' x b r => k _ H' F' x.sam ((st.step x b).setD r h1 h2)⟩
theorem s_setN {i : Nat} {x : Str} {pos' : Pos} (h : PS X (.Assign [.Name x pos'] e pos) (tAsg (tN X.K O f) (gName i)))
    (h1 : ∀ j, j ∈ O' → j = i ∨ j ∈ O := by decide) (h2 : ∀ j, j ∈ O → j ∈ O' := by decide) (h3 : i ∈ O' := by decide) : PS X (.Assign [.Name x pos'] e pos) (tS X.K L O O' (setNS i f)) := ps_imp h fun D σ H ⟨g, F, env, s, out, s', st, hf, k⟩ => by
  unfold setNS at hf
  split at hf
  · rename_i hl
    cases q : f env s with
    | none => rw [q] at hf; cases hf
    | some p =>
      obtain ⟨d, s1⟩ := p
      rw [q] at hf
      cases hf
      refine ⟨g, F, env, s, d, _, st, q, fun p o F' H' x b n n' eo r => k _ H' F' x.sam ((st.step x b).setN hl eo r n' (st.bs.nofree n) ?_ (fun j hj _ ej => ?_) h1 h2 h3)⟩
      · exact st.go.free st.bs n
      · obtain ⟨p2, o2, d2, g1, g2, g3, _⟩ := st.sl.ow j hj
        rw [ej] at g1
        cases g1
        rw [n] at g3; cases g3
  · cases hf
end
end DL
namespace DL
open PySem PySem.Spec PyProof.Rows L2

/-! ### targets -/
abbrev Tg := Env → Dt → Option Env
def tG (K : PySem.W.Frag) (O : List Nat) (st : Tg) : TG := fun v σ H Q => ∃ g F env s d env', Stt K g O F H σ env s ∧ Rep K F v d ∧ st env d = some env' ∧ ∀ σ', Stt K g O F H σ' env' s → (∀ j, j ∈ O → σ'[j]? = σ[j]?) → Q σ' H
def tgN (i : Nat) : Tg := fun env d => some (env.set i (some d))
def tgP (a b : Tg) : Tg := fun env d => match d with
  | .tup [x, y] => do
    let e1 ← a env x
    b e1 y
  | _ => none
section
variable {X : Cx} {O : List Nat} {pos : Pos}
theorem pg_imp {e : Expr} {t t' : TG} (h : PG X e t) (k : ∀ v σ H Q, t' v σ H Q → t v σ H Q) : PG X e t' := ⟨fun pins s σ H v u Q I r q => h.run pins s σ H v u Q I r (k v σ H Q q)⟩
theorem g_name {i : Nat} {x : Str} (h : PG X (.Name x pos) (gName i)) (hi : i ∉ O := by decide) : PG X (.Name x pos) (tG X.K O (tgN i)) := pg_imp h fun v σ H Q ⟨g, F, env, s, d, env', st, r, hs, k⟩ => by
  cases hs
  exact k _ (st.setD r (fun j hj => ⟨hj, fun z => hi (z ▸ hj)⟩) fun j hj _ => hj) fun j hj => List.getElem?_set_ne fun (z : i = j) => hi (z ▸ hj)
theorem g_pair {e1 e2 : Expr} {k0 : Nat} {a b : Tg} (hc : X.calm = true) (hn : (assignEach [e1, e2] X.env).length = 2 := by rfl) (hst : (assignEach [e1, e2] X.env).findIdx? (·.1) = none := by rfl)
    (hp : PGs X [e1, e2] (gCons (tG X.K O a) (gCons (tG X.K O b) gNil))) :
    PG X (.Tuple [e1, e2] k0 pos) (tG X.K O (tgP a b)) := pg_imp (pg_tup hc hp hn hst) fun v σ H Q ⟨g, F, env, s, d, env', st, r, hs, k⟩ => by
  unfold tgP at hs
  split at hs
  · rename_i x y
    cases r with
    | tup h1 hp h2 =>
      cases h2 with
      | cons r1 t1 =>
        cases t1 with
        | cons r2 t2 =>
          cases t2
          cases q1 : a env x with
          | none => simp [q1] at hs
          | some e1 =>
            simp only [q1, Option.bind_eq_bind, Option.bind_some] at hs
            exact ⟨_, _, rfl, sqT_same st.bs.sub h1, rfl, _, _, rfl, g, F, env, s, x, e1, st, r1, q1, fun σ' st' eo => ⟨_, _, rfl, g, F, e1, s, y, env', st', r2, hs, fun σ2 st2 eo2 => ⟨rfl, k σ2 st2 fun j hj => (eo2 j hj).trans (eo j hj)⟩⟩⟩
  · cases hs
end

/-! ### what a loop walks -/
abbrev Fi := Env → Sto → Option (List Dt × Sto)
def WalkJ (K : PySem.W.Frag) (ft : List Addr) (F1 : Hp) (J : It) (ds : List Dt) : Prop := ∀ F H s i, Same F1 F → Bs K ft F H s → (ds.length ≤ i → J.stop i H) ∧
  ∀ d, ds[i]? = some d → J.go i H ∧ ∀ x H3, J.yld i H x H3 → ∃ F3, Go ft F H F3 H3 ∧ Bs K ft F3 H3 s ∧ Rep K F3 x d
def tI (K : PySem.W.Frag) (O : List Nat) (f : Fi) : TI := fun σ H R => ∃ g F env s ds s', Stt K g O F H σ env s ∧ f env s = some (ds, s') ∧ ∀ J F' H', Go g.ft F H F' H' → Bs K g.ft F' H' s' → WalkJ K g.ft F' J ds → R J H'
def seqOf : Dt → Option (List Dt)
  | .lst xs => some xs
  | .tup xs => some xs
  | .str z => some (z.cps.toList.map fun c => .str ⟨#[c]⟩)
  | .scr ns => some (ns.map .int)
  | .dct ks => some (ks.map fun kv => keyD kv.1)
  | _ => none
def seqF (f : Fe) : Fi := fun env s => do
  let (x, s1) ← f env s
  let xs ← seqOf x
  some (xs, s1)
section
variable {X : Cx} {O : List Nat} {tg e : Expr} {f : Fe} {pos p : Pos}
theorem pi_imp {t t' : TI} (h : PI X tg e t) (k : ∀ σ H Q, t' σ H Q → t σ H Q) : PI X tg e t' := ⟨fun pins s σ H Q I q => h.run pins s σ H Q I (k σ H Q q)⟩
theorem pi_or {t t' : TI} (h : PI X tg e t) (h' : PI X tg e t') : PI X tg e (fun σ H R => t σ H R ∨ t' σ H R) := ⟨fun pins s σ H Q I q => q.elim (h.run pins s σ H Q I) (h'.run pins s σ H Q I)⟩
theorem walk_list {K : PySem.W.Frag} {ft : List Addr} {F1 : Hp} {a : Addr} {vs : List V} {ds : List Dt} (h : ∀ F H, Same F1 F → Same F H → SqL K H a vs) (r : Reps K F1 vs ds) : WalkJ K ft F1 (Itl K a) ds := fun F H s i e b => by
  have q := h F H e b.sub
  refine ⟨fun hl => ⟨vs, q, by rw [r.length]; exact hl⟩, fun d hd => ?_⟩
  obtain ⟨v, e1, r1⟩ := r.get hd
  refine ⟨⟨vs, v, q, e1⟩, fun x H3 y => ?_⟩
  obtain ⟨rfl, y⟩ := y
  have e2 := y vs q
  rw [e1] at e2
  cases e2
  exact ⟨F, Go.refl, b, Rep.mono e _ _ r1⟩
theorem walk_tup {K : PySem.W.Frag} {ft : List Addr} {F1 : Hp} {a : Addr} {vs : List V} {ds : List Dt} (h : SqT K F1 a vs) (r : Reps K F1 vs ds) : WalkJ K ft F1 (Itt K a) ds := fun F H s i e b => by
  have q : SqT K H a vs := sqT_same b.sub (sqT_same e h)
  refine ⟨fun hl => ⟨vs, q, by rw [r.length]; exact hl⟩, fun d hd => ?_⟩
  obtain ⟨v, e1, r1⟩ := r.get hd
  refine ⟨⟨vs, v, q, e1⟩, fun x H3 y => ?_⟩
  obtain ⟨rfl, y⟩ := y
  have e2 := y vs q
  rw [e1] at e2
  cases e2
  exact ⟨F, Go.refl, b, Rep.mono e _ _ r1⟩
theorem walk_str {K : PySem.W.Frag} {ft : List Addr} {F1 : Hp} (z : Str) : WalkJ K ft F1 (Its z) (z.cps.toList.map fun c => .str ⟨#[c]⟩) := fun F H s i e b => by
  refine ⟨fun hl => by rw [List.length_map, Array.length_toList] at hl; exact hl, fun d hd => ?_⟩
  rw [List.getElem?_map, Array.getElem?_toList] at hd
  cases q : z.cps[i]? with
  | none => rw [q] at hd; cases hd
  | some c =>
    rw [q] at hd
    cases hd
    refine ⟨(Array.getElem?_eq_some_iff.mp q).1, fun x H3 y => ?_⟩
    obtain ⟨rfl, c', e1, rfl⟩ := y
    rw [q] at e1
    cases e1
    exact ⟨F, Go.refl, b, .str _⟩
theorem walk_rng {K : PySem.W.Frag} {ft : List Addr} {F1 : Hp} (lo : Int) (n : Nat) : WalkJ K ft F1 (Itr lo n) ((List.range n).map fun i => .int (lo + (i : Nat))) := fun F H s i e b => by
  refine ⟨fun hl => by rw [List.length_map, List.length_range] at hl; exact hl, fun d hd => ?_⟩
  rw [List.getElem?_map] at hd
  by_cases hi : i < n
  · rw [List.getElem?_range hi] at hd
    cases hd
    refine ⟨hi, fun x H3 y => ?_⟩
    obtain ⟨rfl, rfl⟩ := y
    exact ⟨F, Go.refl, b, .int _⟩
  · rw [List.getElem?_eq_none (by rw [List.length_range]; omega)] at hd
    cases hd
theorem Repk.get {K : PySem.W.Frag} {F : Hp} : ∀ {vs : List (Key × V)} {ds : List (Key × Dt)} {i : Nat} {kd : Key × Dt}, Repk K F vs ds → ds[i]? = some kd → ∃ v, vs[i]? = some (kd.1, v) ∧ Rep K F v kd.2
  | [], [], _, _, _, e => by simp at e
  | [], _ :: _, _, _, h, _ => by cases h
  | _ :: _, [], _, _, h, _ => by cases h
  | (k, v) :: vs, (_, d) :: ds, 0, kd, h, e => by
    cases h with
    | cons h1 h2 =>
      have e' : (k, d) = kd := by simpa using e
      subst e'
      exact ⟨v, rfl, h1⟩
  | _ :: vs, _ :: ds, i + 1, kd, h, e => by
    cases h with
    | cons h1 h2 =>
      obtain ⟨u, e1, r⟩ := Repk.get (i := i) h2 (by simpa using e)
      exact ⟨u, by simpa using e1, r⟩
theorem walk_keys {K : PySem.W.Frag} {ft : List Addr} {F1 : Hp} {p : Addr} {od : Obj} {kvs : List (Key × V)} {ks : List (Key × Dt)} (hp : F1 p = some (.frz od (.dK kvs))) (r : Repk K F1 kvs ks) : WalkJ K ft F1 (Itk p od kvs) (ks.map fun kv => keyD kv.1) := fun F H s i e b => by
  have ep : H p = some (.frz od (.dK kvs)) := b.sub p _ (e p _ hp)
  have hl := r.length
  refine ⟨fun h => ⟨ep, by rw [List.length_map] at h; omega⟩, fun d hd => ?_⟩
  rw [List.getElem?_map] at hd
  cases q : ks[i]? with
  | none => rw [q] at hd; cases hd
  | some kd =>
    rw [q] at hd
    cases hd
    obtain ⟨v, e1, r1⟩ := r.get q
    have hlt : i < kvs.length := (List.getElem?_eq_some_iff.mp e1).1
    refine ⟨⟨ep, hlt⟩, fun x H3 ⟨e3, k2, v2, f1, f2⟩ => ?_⟩
    subst e3
    rw [e1] at f1; cases f1
    subst f2
    exact ⟨F, Go.refl, b, rep_key _⟩
/-- a list, a tuple, a text -/
theorem i_seq (he : PE X e (tD X.K O f)) (hl : PI X tg e (iList X.K (tD X.K O f))) (ht : PI X tg e (iTup X.K (tD X.K O f))) (hs : PI X tg e (iStr (tD X.K O f))) (hk : PI X tg e (iKeys (tD X.K O f))) : PI X tg e (tI X.K O (seqF f)) := pi_imp (pi_or hl (pi_or ht (pi_or hs hk))) fun σ H R ⟨g, F, env, s, ds, s', st, hf, k⟩ => by
  unfold seqF at hf
  cases q : f env s with
  | none => rw [q] at hf; cases hf
  | some p =>
    obtain ⟨x, s1⟩ := p
    cases q2 : seqOf x with
    | none => simp [q, q2] at hf
    | some xs =>
      simp [q, q2] at hf
      obtain ⟨rfl, rfl⟩ := hf
      cases x <;> simp only [seqOf] at q2 <;> try (cases q2; done)
      · cases q2
        refine .inr (.inr (.inl ⟨g, F, env, s, _, s1, st, q, fun v F' H' x b r => ?_⟩))
        cases r
        exact ⟨_, rfl, k _ F' H' x b (walk_str _)⟩
      · cases q2
        refine .inr (.inl ⟨g, F, env, s, _, s1, st, q, fun v F' H' x b r => ?_⟩)
        cases r with
        | tup h1 hp h2 => exact ⟨_, rfl, ⟨_, sqT_same b.sub h1⟩, k _ F' H' x b (walk_tup h1 h2)⟩
      · cases q2
        refine .inl ⟨g, F, env, s, _, s1, st, q, fun v F' H' x b r => ?_⟩
        cases r with
        | lst h1 h2 => exact ⟨_, rfl, ⟨_, SqL.of (b.sub _ _ h1)⟩, k _ F' H' x b (walk_list (fun F2 H2 e1 e2 => SqL.of (e2 _ _ (e1 _ _ h1))) h2)⟩
      · cases q2
        refine .inr (.inr (.inr ⟨g, F, env, s, _, s1, st, q, fun v F' H' x b r => ?_⟩))
        cases r with
        | dct h1 h2 => exact ⟨_, _, rfl, .inl ⟨_, b.sub _ _ h1, k _ F' H' x b (walk_keys h1 h2)⟩⟩
      · cases q2
        refine .inl ⟨g, F, env, s, _, s1, st, q, fun v F' H' x b r => ?_⟩
        cases r with
        | scr h1 => exact ⟨_, rfl, ⟨_, b.sub.seq h1⟩, k _ F' H' x b (walk_list (fun F2 H2 e1 e2 => e2.seq (e1.seq h1)) (Reps.ints _))⟩
def rngF1 (f : Fe) : Fi := fun env s => match f env s with
  | some (.int j, s') => if -(2 ^ 62) ≤ j ∧ j < 2 ^ 62 then some ((List.range j.toNat).map fun i => .int (0 + (i : Nat)), s') else none
  | _ => none
def rngF2 (f h : Fe) : Fi := fun env s => match f env s with
  | some (.int i, s1) => match h env s1 with
    | some (.int j, s') => if -(2 ^ 62) ≤ i ∧ i < 2 ^ 62 ∧ -(2 ^ 62) ≤ j ∧ j < 2 ^ 62 then some ((List.range (j - i).toNat).map fun k => .int (i + (k : Nat)), s') else none
    | _ => none
  | _ => none
theorem ta1 {K : PySem.W.Frag} {f : Fe} {σ : L2.St} {H : Hp} {Q : List V → Hp → Prop} : tB K O f σ H (fun v H1 => Q [v] H1) → tCons (tB K O f) tNil σ H Q := fun h => h
theorem i_range1 {a : Expr} (hg : Gl X "range") (hm : X.mg "range" = none) (ha : PE X a (tB X.K O f)) (hs : starEach [a] X.env = [(false, eval a X.env)] := by rfl) : PI X tg (.Call (.Name "range" p) [a] [] pos) (tI X.K O (rngF1 f)) :=
  pi_imp (pi_range1 hg hm (pa_cons ha pa_nil (by rw [hs]; rfl)) hs) fun σ H R ⟨g, F, env, s, ds, s', st, hf, k⟩ => by
    unfold rngF1 at hf
    split at hf
    · rename_i j s1 q
      split at hf <;> cases hf
      rename_i c
      exact ⟨g, F, env, s, _, _, st, q, fun v F' H' x b r => ⟨j, by rw [r.int], c.1, c.2, k _ F' H' x b (walk_rng 0 _)⟩⟩
    · cases hf
theorem i_range2 {a b : Expr} {f2 : Fe} (hg : Gl X "range") (hm : X.mg "range" = none) (ha : PE X a (tB X.K O f)) (hb : PE X b (tB X.K O f2)) (hs : starEach [a, b] X.env = [(false, eval a X.env), (false, eval b X.env)] := by rfl) (hs2 : starEach [b] X.env = [(false, eval b X.env)] := by rfl) :
    PI X tg (.Call (.Name "range" p) [a, b] [] pos) (tI X.K O (rngF2 f f2)) :=
  pi_imp (pi_range2 hg hm (pa_cons ha (pa_cons hb pa_nil (by rw [hs2]; rfl)) (by rw [hs, hs2])) hs hs2) fun σ H R ⟨g, F, env, s, ds, s', st, hf, k⟩ => by
    unfold rngF2 at hf
    split at hf
    · rename_i i s1 q
      split at hf
      · rename_i j s2 q2
        split at hf <;> cases hf
        rename_i c
        exact ⟨g, F, env, s, _, _, st, q, fun v F' H' x b r => ⟨g, F', env, s1, _, _, st.step x b, q2, fun w F2 H2 x2 b2 r2 => ⟨i, j, by rw [r.int, r2.int], c, k _ F2 H2 (x.trans x2 b) b2 (walk_rng i _)⟩⟩⟩
      · cases hf
    · cases hf
end

/-! ### for -/
def loopF (st : Tg) (F : Fs) : List Dt → Env → Sto → Option (Out × Sto)
  | [], env, s => some (.nx env, s)
  | d :: ds, env, s => match st env d with
    | none => none
    | some e1 => match F e1 s with
      | some (.nx e2, s2) => loopF st F ds e2 s2
      | some (.ct e2, s2) => loopF st F ds e2 s2
      | some (.bk e2, s2) => some (.nx e2, s2)
      | some (.rt d, s2) => some (.rt d, s2)
      | none => none
def forF (fi : Fi) (st : Tg) (F : Fs) : Fs := fun env s => match fi env s with
  | some (ds, s1) => loopF st F ds env s1
  | none => none
section
variable {X : Cx} {L O : List Nat} {tg iter c : Expr} {body : List Stmt} {fi : Fi} {t : Tg} {F : Fs} {pos : Pos}
theorem s_for (hp : PassesOwn (model X.prog X.w) X.A X.env X.xe) (hc : X.calm = true) (hi : PI X tg iter (tI X.K O fi)) (hg : PG X tg (tG X.K O t)) (hb : PSs X body (tS X.K O O O F))
    (hs : ∀ x, foldedSetIterable iter X.env x = pure x := by intro _; rfl) : PS X (.For tg iter body [] pos) (tS X.K L O O (forF fi t F)) := ps_imp (ps_for hp hc hi hg hb hs) fun D σ H ⟨g, F0, env, s, out, s', st, hf, k⟩ => by
  unfold forF at hf
  split at hf
  · rename_i ds s1 q
    refine ⟨g, F0, env, s, ds, s1, st, q, fun J F1 H1 x1 b1 wk => ?_⟩
    refine ⟨fun i m σ2 H2 => m = ds.length - i ∧ ∃ F2 env2 s2, Stt X.K g O F2 H2 σ2 env2 s2 ∧ Same F1 F2 ∧ loopF t F (ds.drop i) env2 s2 = some (out, s'), ⟨_, rfl, F1, env, s1, st.step x1 b1, Same.refl _, hf⟩, ?_⟩
    rintro i m σ2 H2 ⟨rfl, F2, env2, s2, st2, sm, hl⟩
    obtain ⟨w1, w2⟩ := wk F2 H2 s2 i sm st2.bs
    cases qd : ds[i]? with
    | none =>
      have hge : ds.length ≤ i := List.getElem?_eq_none_iff.mp qd
      rw [List.drop_eq_nil_of_le hge] at hl
      unfold loopF at hl
      cases hl
      exact .inl ⟨w1 hge, k σ2 H2 F2 (x1.sam.trans sm) st2⟩
    | some d =>
      have hlt : i < ds.length := (List.getElem?_eq_some_iff.mp qd).1
      have ed : ds.drop i = d :: ds.drop (i + 1) := by
        rw [List.drop_eq_getElem_cons hlt]
        have := (List.getElem?_eq_some_iff.mp qd).2
        rw [this]
      rw [ed] at hl
      unfold loopF at hl
      obtain ⟨g1, g2⟩ := w2 d qd
      refine .inr ⟨g1, fun σ3 H3 => ∃ F3 env3 s3, Stt X.K g O F3 H3 σ3 env3 s3 ∧ Same F1 F3 ∧ loopF t F (ds.drop (i + 1)) env3 s3 = some (out, s'), fun σ3 H3 ⟨F3, env3, s3, st3, sm3, hl3⟩ => ⟨ds.length - (i + 1), by omega, rfl, F3, env3, s3, st3, sm3, hl3⟩, fun x H3 y => ?_⟩
      obtain ⟨F3, x3, b3, r3⟩ := g2 x H3 y
      have st3 := st2.step x3 b3
      split at hl
      · cases hl
      · rename_i e1 q1
        refine ⟨g, F3, env2, s2, d, e1, st3, r3, q1, fun σ4 st4 _ => ?_⟩
        split at hl
        · rename_i e2 s5 q5
          exact ⟨g, F3, e1, s2, .nx e2, s5, st4, q5, fun σ6 H6 F6 e6 st6 => ⟨F6, e2, s5, st6, (sm.trans x3.sam).trans e6, hl⟩⟩
        · rename_i e2 s5 q5
          exact ⟨g, F3, e1, s2, .ct e2, s5, st4, q5, fun σ6 H6 F6 e6 st6 => ⟨F6, e2, s5, st6, (sm.trans x3.sam).trans e6, hl⟩⟩
        · rename_i e2 s5 q5
          cases hl
          exact ⟨g, F3, e1, s2, .bk e2, _, st4, q5, fun σ6 H6 F6 e6 st6 => k σ6 H6 F6 (((x1.sam.trans sm).trans x3.sam).trans e6) st6⟩
        · rename_i d5 s5 q5
          cases hl
          exact ⟨g, F3, e1, s2, .rt d5, _, st4, q5, k⟩
        · cases hl
  · cases hf
end
end DL
namespace DL
open PySem PySem.Spec PyProof.Rows L2

/-! ### while -/
def whileL (c : Ft) (F : Fs) : Nat → Env → Sto → Option (Out × Sto)
  | 0, _, _ => none
  | n + 1, env, s => match c env s with
    | some (true, s1) => match F env s1 with
      | some (.nx e, s2) => whileL c F n e s2
      | some (.ct e, s2) => whileL c F n e s2
      | some (.bk e, s2) => some (.nx e, s2)
      | some (.rt d, s2) => some (.rt d, s2)
      | none => none
    | some (false, s1) => some (.nx env, s1)
    | none => none
/-- with as many turns as it takes -/
def whileS (c : Ft) (F : Fs) (fuel : Nat) : Fs := fun env s => whileL c F fuel env s
section
variable {X : Cx} {L O : List Nat} {c : Expr} {body : List Stmt} {fc : Ft} {F : Fs} {pos : Pos}
theorem s_while (fuel : Nat) (hp : PassesOwn (model X.prog X.w) X.A X.env X.xe) (hc : PT X c (tT X.K O fc)) (hb : PSs X body (tS X.K O O O F)) : PS X (.While c body [] pos) (tS X.K L O O (whileS fc F fuel)) := ps_imp (ps_while hp hc hb) fun D σ H ⟨g, F0, env, s, out, s', st, hf, k⟩ => by
  refine ⟨fun n σ2 H2 => ∃ F2 env2 s2, Stt X.K g O F2 H2 σ2 env2 s2 ∧ Same F0 F2 ∧ whileL fc F n env2 s2 = some (out, s'), ⟨fuel, F0, env, s, st, Same.refl _, hf⟩, ?_⟩
  rintro n σ2 H2 ⟨F2, env2, s2, st2, sm, hl⟩
  cases n with
  | zero => cases hl
  | succ n =>
    unfold whileL at hl
    split at hl
    · rename_i s3 q
      refine ⟨g, F2, env2, s2, true, s3, st2, q, fun F3 H3 x3 b3 => ?_⟩
      refine iteT ⟨fun σ4 H4 => ∃ F4 env4 s4, Stt X.K g O F4 H4 σ4 env4 s4 ∧ Same F0 F4 ∧ whileL fc F n env4 s4 = some (out, s'), fun σ4 H4 h4 => ⟨n, Nat.lt_succ_self n, h4⟩, ?_⟩
      have st3 := st2.step x3 b3
      split at hl
      · rename_i e2 s5 q5
        exact ⟨g, F3, env2, s3, .nx e2, s5, st3, q5, fun σ6 H6 F6 e6 st6 => ⟨F6, e2, s5, st6, (sm.trans x3.sam).trans e6, hl⟩⟩
      · rename_i e2 s5 q5
        exact ⟨g, F3, env2, s3, .ct e2, s5, st3, q5, fun σ6 H6 F6 e6 st6 => ⟨F6, e2, s5, st6, (sm.trans x3.sam).trans e6, hl⟩⟩
      · rename_i e2 s5 q5
        cases hl
        exact ⟨g, F3, env2, s3, .bk e2, _, st3, q5, fun σ6 H6 F6 e6 st6 => k σ6 H6 F6 ((sm.trans x3.sam).trans e6) st6⟩
      · rename_i d5 s5 q5
        cases hl
        exact ⟨g, F3, env2, s3, .rt d5, _, st3, q5, k⟩
      · cases hl
    · rename_i s3 q
      cases hl
      refine ⟨g, F2, env2, s2, false, _, st2, q, fun F3 H3 x3 b3 => ?_⟩
      refine iteF ?_
      exact k σ2 H3 F3 (sm.trans x3.sam) (st2.step x3 b3)
    · cases hl
end

/-! ### comprehensions -/
def wipeE (env : Env) : List Nat → Env
  | [] => env
  | v :: vs => (wipeE env vs).set v none
theorem Stt.wipe {K : PySem.W.Frag} {g : Gd} {O : List Nat} {F H : Hp} {σ : L2.St} {env : Env} {s : Sto} (h : Stt K g O F H σ env s) : ∀ (vs : List Nat), (∀ i, i ∈ vs → i ∉ O) → Stt K g O F H (L2.wipe σ vs) (wipeE env vs) s
  | [], _ => h
  | v :: vs, e => by
    have ih := Stt.wipe h vs fun i hi => e i (List.mem_cons_of_mem _ hi)
    have hv := e v List.mem_cons_self
    refine ⟨ih.bs, ⟨?_, fun i d hi q => ?_, fun i hi => ?_, fun a b p ha hb qa qb => ?_⟩, ih.go⟩
    · show ((L2.wipe σ vs).set v none).length = ((wipeE env vs).set v none).length
      rw [List.length_set, List.length_set]; exact ih.sl.len
    · have q' : ((wipeE env vs).set v none)[i]? = some (some d) := q
      have c : v ≠ i := fun z => by
        subst z
        by_cases hl : v < (wipeE env vs).length
        · rw [List.getElem?_set_self hl] at q'; cases q'
        · rw [List.getElem?_eq_none (by rw [List.length_set]; omega)] at q'; cases q'
      rw [List.getElem?_set_ne c] at q'
      obtain ⟨u, e1, r⟩ := ih.sl.pu i d hi q'
      exact ⟨u, by show ((L2.wipe σ vs).set v none)[i]? = _; rw [List.getElem?_set_ne c]; exact e1, r⟩
    · have c : v ≠ i := fun z => hv (z ▸ hi)
      obtain ⟨p, o, d, e1, e2, r⟩ := ih.sl.ow i hi
      exact ⟨p, o, d, by show ((L2.wipe σ vs).set v none)[i]? = _; rw [List.getElem?_set_ne c]; exact e1, by show ((wipeE env vs).set v none)[i]? = _; rw [List.getElem?_set_ne c]; exact e2, r⟩
    · have ca : v ≠ a := fun z => hv (z ▸ ha)
      have cb : v ≠ b := fun z => hv (z ▸ hb)
      have qa' : ((L2.wipe σ vs).set v none)[a]? = some (some (.ref p)) := qa
      have qb' : ((L2.wipe σ vs).set v none)[b]? = some (some (.ref p)) := qb
      rw [List.getElem?_set_ne ca] at qa'
      rw [List.getElem?_set_ne cb] at qb'
      exact ih.sl.di a b p ha hb qa' qb'
/-- the frame ahead again -/
theorem Stt.unwipe {K : PySem.W.Frag} {g : Gd} {O : List Nat} {F H F' H' : Hp} {σ : L2.St} {env : Env} {s s' : Sto} (h : Stt K g O F H σ env s) (x : Go g.ft F H F' H') (b : Bs K g.ft F' H' s') : Stt K g O F' H' σ env s' := h.step x b
/-- an object that is nobody's is laid or changed -/
theorem Stt.apart {K : PySem.W.Frag} {g : Gd} {O : List Nat} {F H : Hp} {σ : L2.St} {env : Env} {s : Sto} {D : Addr} {o : HO} (h : Stt K g O F H σ env s) (n : F D = none) (nf : D ∉ g.ft) (nh : g.he D = none) (no : ∀ j, j ∈ O → σ[j]? ≠ some (some (.ref D))) : Stt K g O F (upd H D o) σ env s := by
  refine ⟨⟨fun c u e => by rw [upd_ne (ne_of_none e n)]; exact h.bs.sub c u e, h.bs.ad, h.bs.nd, fun a d hm => ?_, h.bs.fr⟩, ⟨h.sl.len, h.sl.pu, fun j hj => ?_, h.sl.di⟩, ⟨fun c u e nc => by rw [upd_ne (ne_of_none e nh)]; exact h.go.ext c u e nc, h.go.sam, h.go.new⟩⟩
  · obtain ⟨ob, e, r⟩ := h.bs.st a d hm
    exact ⟨ob, by rw [upd_ne (fun (z : a = D) => nf (by rw [← z, ← h.bs.ad]; exact List.mem_map_of_mem hm))]; exact e, r⟩
  · obtain ⟨p, o', d, e1, e2, e3, r⟩ := h.sl.ow j hj
    exact ⟨p, o', d, e1, e2, by rw [upd_ne (fun (z : p = D) => no j hj (z ▸ e1))]; exact e3, r⟩
def yesT : Ft := fun _ s => some (true, s)
def lcL (st : Tg) (tt : Ft) (te : Fe) (w : Env) : List Dt → Sto → Option (List Dt × Sto)
  | [], s => some ([], s)
  | d :: ds, s => match st w d with
    | none => none
    | some e1 => match tt e1 s with
      | some (true, s1) => match te e1 s1 with
        | some (y, s2) => match lcL st tt te w ds s2 with
          | some (r, s3) => some (y :: r, s3)
          | none => none
        | none => none
      | some (false, s1) => lcL st tt te w ds s1
      | none => none
def lcF (fi : Fi) (st : Tg) (tt : Ft) (te : Fe) (vs : List Nat) : Fe := fun env s => match fi env s with
  | some (ds, s1) => match lcL st tt te (wipeE env vs) ds s1 with
    | some (ys, s2) => if ys.length ≤ sizeLine then some (.lst ys, s2) else none
    | none => none
  | none => none
def tP (K : PySem.W.Frag) (O : List Nat) (tt : Ft) : TT := tT K O tt
theorem yes_t {K : PySem.W.Frag} {O : List Nat} (σ : L2.St) (H : Hp) (Q : Bool → Hp → Prop) (h : tT K O yesT σ H Q) : tYes σ H Q := by
  obtain ⟨g, F, env, s, b, s', st, hf, k⟩ := h
  cases hf
  exact k F H Go.refl st.bs
/-- the target's names are of the block alone -/
def Only (vs : List Nat) (st : Tg) : Prop := ∀ (env env' : Env) (d : Dt), st env d = some env' → wipeE env' vs = wipeE env vs
section
variable {K : PySem.W.Frag} {O : List Nat} {fi : Fi} {st : Tg} {tt : Ft} {te : Fe} {vs : List Nat}
/-- the reading of a comprehension: the store of a turn into names of the block leaves the others -/
theorem lc_n {gT : TG} {t1 : TT} (hv : ∀ i, i ∈ vs → i ∉ O) (hT : ∀ v σ H Q, tG K O st v σ H Q → gT v σ H Q) (hw : ∀ v σ H Q, gT v (L2.wipe σ vs) H Q → gT v (L2.wipe σ vs) H fun σ' H' => L2.wipe σ' vs = L2.wipe σ vs ∧ Q σ' H') (hY : ∀ σ H Q, tT K O tt σ H Q → t1 σ H Q)
    (σ : L2.St) (H : Hp) (Q : VK) (h : tN K O (lcF fi st tt te vs) σ H Q) : tLc (tI K O fi) gT t1 (tD K O te) vs σ H Q := by
  obtain ⟨g, F, env, s, d, s', stt, hf, k⟩ := h
  unfold lcF at hf
  split at hf
  · rename_i ds s1 q
    split at hf
    · rename_i ys s2 ql
      split at hf <;> cases hf
      rename_i hz
      refine ⟨g, F, env, s, ds, s1, stt, q, fun J F1 H1 x1 b1 wk D nD => ?_⟩
      have st1 := stt.step x1 b1
      have stw := Stt.wipe st1 vs hv
      have nF1 : F1 D = none := (Go.made (o := .lst []) b1 nD).2.2
      have nft : D ∉ g.ft := b1.nofree nD
      have nH : H D = none := x1.free b1 nD
      have nhe : g.he D = none := st1.go.free st1.bs nD
      have nO : ∀ j, j ∈ O → (L2.wipe σ vs)[j]? ≠ some (some (.ref D)) := fun j hj e => by
        obtain ⟨p, o, d', e1, _, e3, _⟩ := stw.sl.ow j hj
        rw [e] at e1; cases e1
        rw [nD] at e3; cases e3
      refine ⟨fun i m H2 => m = ds.length - i ∧ ∃ F2 s3 acc accD rest, Stt K g O F2 H2 (L2.wipe σ vs) (wipeE env vs) s3 ∧ Go g.ft F H F2 H2 ∧ Same F1 F2 ∧ F2 D = none ∧ H2 D = some (.lst acc) ∧ Reps K F2 acc accD ∧ lcL st tt te (wipeE env vs) (ds.drop i) s3 = some (rest, s') ∧ accD ++ rest = ys,
        ⟨_, rfl, F1, s1, [], [], ys, stw.apart nF1 nft nhe nO, ?_, Same.refl _, nF1, upd_same, .nil, ql, rfl⟩, ?_⟩
      · exact x1.trans ⟨fun c u e _ => by rw [upd_ne (ne_of_none e nD)]; exact e, Same.refl _, fun c u e => .inl e⟩ b1
      rintro i m H2 ⟨rfl, F2, s3, acc, accD, rest, st2, go2, sm2, n2, e2, r2, hl, ha⟩
      obtain ⟨w1, w2⟩ := wk F2 H2 s3 i sm2 st2.bs
      cases qd : ds[i]? with
      | none =>
        have hge : ds.length ≤ i := List.getElem?_eq_none_iff.mp qd
        rw [List.drop_eq_nil_of_le hge] at hl
        unfold lcL at hl
        cases hl
        rw [List.append_nil] at ha
        subst ha
        exact .inl ⟨w1 hge, k D _ F2 H2 go2 st2.bs nH n2 e2 (.lst r2)⟩
      | some d =>
        have hlt : i < ds.length := (List.getElem?_eq_some_iff.mp qd).1
        have ed : ds.drop i = d :: ds.drop (i + 1) := by
          rw [List.drop_eq_getElem_cons hlt]
          have := (List.getElem?_eq_some_iff.mp qd).2
          rw [this]
        rw [ed] at hl
        unfold lcL at hl
        obtain ⟨g1, g2⟩ := w2 d qd
        refine .inr ⟨g1, fun H3 => ∃ F3 s4 acc3 accD3 rest3, Stt K g O F3 H3 (L2.wipe σ vs) (wipeE env vs) s4 ∧ Go g.ft F H F3 H3 ∧ Same F1 F3 ∧ F3 D = none ∧ H3 D = some (.lst acc3) ∧ Reps K F3 acc3 accD3 ∧ lcL st tt te (wipeE env vs) (ds.drop (i + 1)) s4 = some (rest3, s') ∧ accD3 ++ rest3 = ys,
          fun H3 h3 => ⟨ds.length - (i + 1), by omega, rfl, h3⟩, fun x H3 y => ?_⟩
        obtain ⟨F3, x3, b3, r3⟩ := g2 x H3 y
        have st3 := st2.step x3 b3
        split at hl
        · cases hl
        · rename_i en q1
          refine hw _ _ _ _ (hT _ _ _ _ ⟨g, F3, wipeE env vs, s3, d, en, st3, r3, q1, fun σ4 st4 _ => ?_⟩)
          have n3 : F3 D = none := by
            cases z : F3 D with
            | none => rfl
            | some u =>
              rcases x3.new D u z with z1 | z1
              · rw [n2] at z1; cases z1
              · rw [e2] at z1; cases z1
          have e3 : H3 D = some (.lst acc) := x3.ext D _ e2 nft
          have go3 : Go g.ft F H F3 H3 := go2.trans x3 st2.bs
          split at hl
          · rename_i s5 q5
            refine hY _ _ _ ⟨g, F3, en, s3, true, s5, st4, q5, fun F5 H5 x5 b5 => ?_⟩
            refine iteT ?_
            split at hl
            · rename_i yv s6 q6
              split at hl
              · rename_i rr s7 q7
                cases hl
                refine ⟨g, F5, en, s5, yv, s6, st4.step x5 b5, q6, fun v F6 H6 x6 b6 r6 => ?_⟩
                have x56 := x5.trans x6 b5
                have e6 : H6 D = some (.lst acc) := x56.ext D _ e3 nft
                have n6 : F6 D = none := by
                  cases z : F6 D with
                  | none => rfl
                  | some u =>
                    rcases x56.new D u z with z1 | z1
                    · rw [n3] at z1; cases z1
                    · rw [e3] at z1; cases z1
                have st6 := st3.step x56 b6
                have nO6 : ∀ j, j ∈ O → (L2.wipe σ vs)[j]? ≠ some (some (.ref D)) := nO
                have lz : acc.length < sizeLine := by
                  rw [r2.length]
                  have : (accD ++ yv :: rr).length ≤ sizeLine := by rw [ha]; exact hz
                  rw [List.length_append, List.length_cons] at this
                  omega
                refine ⟨acc, e6, lz, F6, s6, acc ++ [v], accD ++ [yv], rr, st6.apart n6 nft nhe nO6, ?_, (sm2.trans x3.sam).trans x56.sam, n6, upd_same, ?_, q7, by rw [← ha, List.append_assoc]; rfl⟩
                · have go6 : Go g.ft F H F6 H6 := go3.trans x56 st3.bs
                  exact ⟨fun c u e nc => by rw [upd_ne (ne_of_none e nH)]; exact go6.ext c u e nc, go6.sam, go6.new⟩
                · exact (Reps.mono (x3.sam.trans x56.sam) _ _ r2).snoc r6
              · cases hl
            · cases hl
          · rename_i s5 q5
            refine hY _ _ _ ⟨g, F3, en, s3, false, s5, st4, q5, fun F5 H5 x5 b5 => ?_⟩
            refine iteF ?_
            have e5 : H5 D = some (.lst acc) := x5.ext D _ e3 nft
            have n5 : F5 D = none := by
              cases z : F5 D with
              | none => rfl
              | some u =>
                rcases x5.new D u z with z1 | z1
                · rw [n3] at z1; cases z1
                · rw [e3] at z1; cases z1
            exact ⟨F5, s5, acc, accD, rest, st3.step x5 b5, go3.trans x5 st3.bs, (sm2.trans x3.sam).trans x5.sam, n5, e5, Reps.mono (x3.sam.trans x5.sam) _ _ r2, hl, ha⟩
          · cases hl
    · cases hf
  · cases hf
end
theorem wipe_get (σ : L2.St) (k : Nat) : ∀ vs : List Nat, (L2.wipe σ vs)[k]? = if k ∈ vs then (if k < σ.length then some none else none) else σ[k]?
  | [] => by simp [L2.wipe]
  | v :: vs => by
    show ((L2.wipe σ vs).set v none)[k]? = _
    by_cases c : v = k
    · subst c
      rw [if_pos List.mem_cons_self]
      by_cases hl : v < σ.length
      · rw [if_pos hl, List.getElem?_set_self (by rw [wipe_length]; exact hl)]
      · rw [if_neg hl, List.getElem?_eq_none (by rw [List.length_set, wipe_length]; omega)]
    · rw [List.getElem?_set_ne c, wipe_get σ k vs]
      have : k ∈ v :: vs ↔ k ∈ vs := by simp [Ne.symm c]
      simp only [this]
theorem wipe_set (σ : L2.St) {i : Nat} {vs : List Nat} (x : Option V) (h : i ∈ vs) {τ : L2.St} (e : L2.wipe τ vs = L2.wipe σ vs) : L2.wipe (τ.set i x) vs = L2.wipe σ vs := by
  rw [← e]
  refine List.ext_getElem? fun k => ?_
  rw [wipe_get, wipe_get, List.length_set]
  split
  · rfl
  · rename_i c
    rw [List.getElem?_set_ne (fun (z : i = k) => c (z ▸ h))]
theorem wipe_wipe (σ : L2.St) (vs : List Nat) : L2.wipe (L2.wipe σ vs) vs = L2.wipe σ vs := by
  refine List.ext_getElem? fun k => ?_
  rw [wipe_get, wipe_get, wipe_length]
  split <;> rfl
section
variable {X : Cx} {O : List Nat} {elt tg iter kx vx c : Expr} {ifs : List Expr} {scope : Scope} {own : List (Str × Nat)} {pos : Pos} {fi : Fi} {tt : Ft} {te tk : Fe}
theorem ts_nil : PTs X [] (tT X.K O yesT) := ⟨fun pins s σ H Q I h => pts_nil.run pins s σ H Q I (yes_t σ H Q h)⟩
theorem ts_one (h : PT X c (tT X.K O tt)) : PTs X [c] (tT X.K O tt) := pts_one h
theorem nameT {K : PySem.W.Frag} {i : Nat} (hi : i ∉ O) (v : V) (σ : L2.St) (H : Hp) (Q : L2.St → Hp → Prop) (h : tG K O (tgN i) v σ H Q) : gName i v σ H Q := by
  obtain ⟨g, F, env, s, d, env', st, r, hs, k⟩ := h
  cases hs
  exact k _ (st.setD r (fun j hj => ⟨hj, fun z => hi (z ▸ hj)⟩) fun j hj _ => hj) fun j hj => List.getElem?_set_ne fun (z : i = j) => hi (z ▸ hj)
theorem n_lc {i : Nat} (hc : X.calm = true) (hN : X.N.Nodup) (hi : PI X tg iter (tI X.K O fi)) (ok : BlkOk X.N X.env.scope scope own)
    (hg : ∀ (s : Shared) (H : Hp) (C : Addr) (cl : List (Str × Addr)) (fp : List Addr), PG (X.blk s H scope (compEnvC scope cl C X.env) fp) tg (gName i))
    (ht : ∀ (s : Shared) (H : Hp) (C : Addr) (cl : List (Str × Addr)) (fp : List Addr), PTs (X.blk s H scope (compEnvC scope cl C X.env) fp) ifs (tT X.K O tt))
    (he : ∀ (s : Shared) (H : Hp) (C : Addr) (cl : List (Str × Addr)) (fp : List Addr), PE (X.blk s H scope (compEnvC scope cl C X.env) fp) elt (tD X.K O te))
    (hv : ∀ j, j ∈ own.map (·.2) → j ∉ O := by decide) (hm : i ∈ own.map (·.2) := by decide) (hs : ∀ x, foldedSetIterable iter X.env x = pure x := by intro _; rfl) :
    PE X (.ListComp elt [⟨tg, iter, ifs, 0⟩] scope pos) (tN X.K O (lcF fi (tgN i) tt te (own.map (·.2)))) :=
  pe_imp (pe_lc hc hN hi ok hg ht he hs) (lc_n hv (nameT (hv i hm)) (fun v σ H Q h => ⟨wipe_set _ _ hm (wipe_wipe _ _), h⟩) fun _ _ _ h => h)
theorem pairT {K : PySem.W.Frag} {i j : Nat} (hi : i ∉ O) (hj : j ∉ O) (v : V) (σ : L2.St) (H : Hp) (Q : L2.St → Hp → Prop) (h : tG K O (tgP (tgN i) (tgN j)) v σ H Q) : gTup K 2 (gCons (gName i) (gCons (gName j) gNil)) v σ H Q := by
  obtain ⟨g, F, env, s, d, env', st, r, hs, k⟩ := h
  unfold tgP at hs
  split at hs
  · rename_i x y
    cases r with
    | tup h1 hp h2 =>
      cases h2 with
      | cons r1 t1 =>
        cases t1 with
        | cons r2 t2 =>
          cases t2
          simp [tgN] at hs
          subst hs
          have st1 := st.setD (O' := O) (i := i) r1 (fun a ha => ⟨ha, fun (z : a = i) => hi (z ▸ ha)⟩) fun a ha _ => ha
          have st2 := st1.setD (O' := O) (i := j) r2 (fun a ha => ⟨ha, fun (z : a = j) => hj (z ▸ ha)⟩) fun a ha _ => ha
          exact ⟨_, _, rfl, sqT_same st.bs.sub h1, rfl, _, _, rfl, _, _, rfl, rfl, k _ st2 fun a ha => (List.getElem?_set_ne fun (z : j = a) => hj (z ▸ ha)).trans (List.getElem?_set_ne fun (z : i = a) => hi (z ▸ ha))⟩
  · cases hs
theorem n_lcP {i j : Nat} (hc : X.calm = true) (hN : X.N.Nodup) (hi : PI X tg iter (tI X.K O fi)) (ok : BlkOk X.N X.env.scope scope own)
    (hg : ∀ (s : Shared) (H : Hp) (C : Addr) (cl : List (Str × Addr)) (fp : List Addr), PG (X.blk s H scope (compEnvC scope cl C X.env) fp) tg (gTup X.K 2 (gCons (gName i) (gCons (gName j) gNil))))
    (ht : ∀ (s : Shared) (H : Hp) (C : Addr) (cl : List (Str × Addr)) (fp : List Addr), PTs (X.blk s H scope (compEnvC scope cl C X.env) fp) ifs (tT X.K O tt))
    (he : ∀ (s : Shared) (H : Hp) (C : Addr) (cl : List (Str × Addr)) (fp : List Addr), PE (X.blk s H scope (compEnvC scope cl C X.env) fp) elt (tD X.K O te))
    (hv : ∀ j, j ∈ own.map (·.2) → j ∉ O := by decide) (hm : i ∈ own.map (·.2) := by decide) (hm2 : j ∈ own.map (·.2) := by decide) (hs : ∀ x, foldedSetIterable iter X.env x = pure x := by intro _; rfl) :
    PE X (.ListComp elt [⟨tg, iter, ifs, 0⟩] scope pos) (tN X.K O (lcF fi (tgP (tgN i) (tgN j)) tt te (own.map (·.2)))) :=
  pe_imp (pe_lc hc hN hi ok hg ht he hs) (lc_n hv (pairT (hv i hm) (hv j hm2)) (fun v σ H Q ⟨a, xs, e1, e2, e3, v1, r1, e4, v2, r2, e5, e6, q⟩ => ⟨a, xs, e1, e2, e3, v1, r1, e4, v2, r2, e5, e6, wipe_set _ _ hm2 (wipe_set _ _ hm (wipe_wipe _ _)), q⟩) fun _ _ _ h => h)
end
end DL
namespace DL
open PySem PySem.Spec PyProof.Rows L2

/-! ### a comprehension over two sources -/
def lc2I (st : Tg) (tt : Ft) (te : Fe) (e : Env) : List Dt → Sto → Option (List Dt × Sto)
  | [], s => some ([], s)
  | d :: ds, s => match st e d with
    | none => none
    | some e1 => match tt e1 s with
      | some (true, s1) => match te e1 s1 with
        | some (y, s2) => match lc2I st tt te e ds s2 with
          | some (r, s3) => some (y :: r, s3)
          | none => none
        | none => none
      | some (false, s1) => lc2I st tt te e ds s1
      | none => none
def lc2L (st : Tg) (fi1 : Fi) (st1 : Tg) (tt1 : Ft) (te : Fe) (vs1 : List Nat) (w : Env) : List Dt → Sto → Option (List Dt × Sto)
  | [], s => some ([], s)
  | d :: ds, s => match st w d with
    | none => none
    | some e1 => match fi1 e1 s with
      | some (ds1, s1) => match lc2I st1 tt1 te (wipeE e1 vs1) ds1 s1 with
        | some (ys, s2) => match lc2L st fi1 st1 tt1 te vs1 w ds s2 with
          | some (r, s3) => some (ys ++ r, s3)
          | none => none
        | none => none
      | none => none
def lc2F (fi : Fi) (st : Tg) (fi1 : Fi) (st1 : Tg) (tt1 : Ft) (te : Fe) (vs vs1 : List Nat) : Fe := fun env s => match fi env s with
  | some (ds, s1) => match lc2L st fi1 st1 tt1 te vs1 (wipeE env vs) ds s1 with
    | some (ys, s2) => if ys.length ≤ sizeLine then some (.lst ys, s2) else none
    | none => none
  | none => none
section
variable {K : PySem.W.Frag} {O : List Nat} {fi fi1 : Fi} {st st1 : Tg} {tt1 : Ft} {te : Fe} {vs vs1 : List Nat}
theorem keepsD {ft : List Addr} {F H F' H' : Hp} {D : Addr} {o : HO} (x : Go ft F H F' H') (n : F D = none) (e : H D = some o) : F' D = none := by
  cases z : F' D with
  | none => rfl
  | some u =>
    rcases x.new D u z with z1 | z1
    · rw [n] at z1; cases z1
    · rw [e] at z1; cases z1
theorem lc2_n {gT gT1 : TG} (hv : ∀ i, i ∈ vs → i ∉ O) (hv1 : ∀ i, i ∈ vs1 → i ∈ vs) (hT : ∀ v σ H Q, tG K O st v σ H Q → gT v σ H Q) (hw : ∀ v σ H Q, gT v (L2.wipe σ vs) H Q → gT v (L2.wipe σ vs) H fun σ' H' => L2.wipe σ' vs = L2.wipe σ vs ∧ Q σ' H')
    (hT1 : ∀ v σ H Q, tG K O st1 v σ H Q → gT1 v σ H Q) (hw1 : ∀ v σ H Q, gT1 v (L2.wipe σ vs1) H Q → gT1 v (L2.wipe σ vs1) H fun σ' H' => L2.wipe σ' vs1 = L2.wipe σ vs1 ∧ Q σ' H')
    (σ : L2.St) (H : Hp) (Q : VK) (h : tN K O (lc2F fi st fi1 st1 tt1 te vs vs1) σ H Q) : tLc2 (tI K O fi) gT tYes (tI K O fi1) gT1 (tT K O tt1) (tD K O te) vs vs1 σ H Q := by
  obtain ⟨g, F, env, s, d, s', stt, hf, k⟩ := h
  unfold lc2F at hf
  split at hf
  · rename_i ds s1 q
    split at hf
    · rename_i ys s2 ql
      split at hf <;> cases hf
      rename_i hz
      refine ⟨g, F, env, s, ds, s1, stt, q, fun J F1 H1 x1 b1 wk D nD => ?_⟩
      have st0 := stt.step x1 b1
      have stw := Stt.wipe st0 vs hv
      have nF1 : F1 D = none := (Go.made (o := .lst []) b1 nD).2.2
      have nft : D ∉ g.ft := b1.nofree nD
      have nH : H D = none := x1.free b1 nD
      have nhe : g.he D = none := st0.go.free st0.bs nD
      have nO0 : ∀ j, j ∈ O → σ[j]? ≠ some (some (.ref D)) := fun j hj e => by
        obtain ⟨p, o, d', e1, _, e3, _⟩ := st0.sl.ow j hj
        rw [e] at e1; cases e1
        rw [nD] at e3; cases e3
      have nO : ∀ j, j ∈ O → (L2.wipe σ vs)[j]? ≠ some (some (.ref D)) := fun j hj e => by
        rw [wipe_get, if_neg (fun z => hv j z hj)] at e
        exact nO0 j hj e
      refine ⟨fun i m H2 => m = ds.length - i ∧ ∃ F2 s3 acc accD rest, Stt K g O F2 H2 (L2.wipe σ vs) (wipeE env vs) s3 ∧ Go g.ft F H F2 H2 ∧ Same F1 F2 ∧ F2 D = none ∧ H2 D = some (.lst acc) ∧ Reps K F2 acc accD ∧ lc2L st fi1 st1 tt1 te vs1 (wipeE env vs) (ds.drop i) s3 = some (rest, s') ∧ accD ++ rest = ys,
        ⟨_, rfl, F1, s1, [], [], ys, stw.apart nF1 nft nhe nO, ?_, Same.refl _, nF1, upd_same, .nil, ql, rfl⟩, ?_⟩
      · exact x1.trans ⟨fun c u e _ => by rw [upd_ne (ne_of_none e nD)]; exact e, Same.refl _, fun c u e => .inl e⟩ b1
      rintro i m H2 ⟨rfl, F2, s3, acc, accD, rest, st2, go2, sm2, n2, e2, r2, hl, ha⟩
      obtain ⟨w1, w2⟩ := wk F2 H2 s3 i sm2 st2.bs
      cases qd : ds[i]? with
      | none =>
        have hge : ds.length ≤ i := List.getElem?_eq_none_iff.mp qd
        rw [List.drop_eq_nil_of_le hge] at hl
        unfold lc2L at hl
        cases hl
        rw [List.append_nil] at ha
        subst ha
        exact .inl ⟨w1 hge, k D _ F2 H2 go2 st2.bs nH n2 e2 (.lst r2)⟩
      | some d =>
        have hlt : i < ds.length := (List.getElem?_eq_some_iff.mp qd).1
        have ed : ds.drop i = d :: ds.drop (i + 1) := by
          rw [List.drop_eq_getElem_cons hlt]
          have := (List.getElem?_eq_some_iff.mp qd).2
          rw [this]
        rw [ed] at hl
        unfold lc2L at hl
        obtain ⟨g1, g2⟩ := w2 d qd
        refine .inr ⟨g1, fun H3 => ∃ F3 s4 acc3 accD3 rest3, Stt K g O F3 H3 (L2.wipe σ vs) (wipeE env vs) s4 ∧ Go g.ft F H F3 H3 ∧ Same F1 F3 ∧ F3 D = none ∧ H3 D = some (.lst acc3) ∧ Reps K F3 acc3 accD3 ∧ lc2L st fi1 st1 tt1 te vs1 (wipeE env vs) (ds.drop (i + 1)) s4 = some (rest3, s') ∧ accD3 ++ rest3 = ys,
          fun H3 h3 => ⟨ds.length - (i + 1), by omega, rfl, h3⟩, fun x H3 y => ?_⟩
        obtain ⟨F3, x3, b3, r3⟩ := g2 x H3 y
        have st3 := st2.step x3 b3
        split at hl
        · cases hl
        · rename_i en q1
          refine hw _ _ _ _ (hT _ _ _ _ ⟨g, F3, wipeE env vs, s3, d, en, st3, r3, q1, fun σ4 st4 eo4 => ?_⟩)
          refine yes_t _ _ _ ⟨g, F3, en, s3, true, s3, st4, rfl, fun F4 H4 x4 b4 => ?_⟩
          refine iteT ?_
          have n3 : F3 D = none := keepsD x3 n2 e2
          have e3 : H3 D = some (.lst acc) := x3.ext D _ e2 nft
          have go3 : Go g.ft F H F3 H3 := go2.trans x3 st2.bs
          have st4' := st4.step x4 b4
          have st3' := st3.step x4 b4
          have n4 : F4 D = none := keepsD x4 n3 e3
          have e4 : H4 D = some (.lst acc) := x4.ext D _ e3 nft
          have go4 : Go g.ft F H F4 H4 := go3.trans x4 st3.bs
          split at hl
          · rename_i ds1 s5 q5
            split at hl
            · rename_i yi s6 q6
              split at hl
              · rename_i rr s7 q7
                cases hl
                refine ⟨g, F4, en, s3, ds1, s5, st4', q5, fun J1 F5 H5 x5 b5 wk1 => ?_⟩
                have hv1' : ∀ i, i ∈ vs1 → i ∉ O := fun i hi => hv i (hv1 i hi)
                have stw1 := Stt.wipe (st4'.step x5 b5) vs1 hv1'
                have stz := st3'.step x5 b5
                have e5 : H5 D = some (.lst acc) := x5.ext D _ e4 nft
                have n5 : F5 D = none := keepsD x5 n4 e4
                have go5 : Go g.ft F H F5 H5 := go4.trans x5 st3'.bs
                have nO4 : ∀ j, j ∈ O → (L2.wipe σ4 vs1)[j]? ≠ some (some (.ref D)) := fun j hj e => by
                  rw [wipe_get, if_neg (fun z => hv1' j z hj), eo4 j hj] at e
                  exact nO j hj e
                refine ⟨fun a b H6 => b = ds1.length - a ∧ ∃ F6 s8 acc6 accD6 rest6, Stt K g O F6 H6 (L2.wipe σ4 vs1) (wipeE en vs1) s8 ∧ Stt K g O F6 H6 (L2.wipe σ vs) (wipeE env vs) s8 ∧ Go g.ft F H F6 H6 ∧ Same F5 F6 ∧ F6 D = none ∧ H6 D = some (.lst acc6) ∧ Reps K F6 acc6 accD6 ∧
                    lc2I st1 tt1 te (wipeE en vs1) (ds1.drop a) s8 = some (rest6, s6) ∧ accD6 ++ rest6 = accD ++ yi, ⟨_, rfl, F5, s5, acc, accD, yi, stw1, stz, go5, Same.refl _, n5, e5, Reps.mono ((x3.sam.trans x4.sam).trans x5.sam) _ _ r2, q6, rfl⟩, ?_⟩
                rintro a b H6 ⟨rfl, F6, s8, acc6, accD6, rest6, st6, sz6, go6, sm6, n6, e6, r6, hl6, ha6⟩
                obtain ⟨w3, w4⟩ := wk1 F6 H6 s8 a sm6 st6.bs
                cases qe : ds1[a]? with
                | none =>
                  have hge : ds1.length ≤ a := List.getElem?_eq_none_iff.mp qe
                  rw [List.drop_eq_nil_of_le hge] at hl6
                  unfold lc2I at hl6
                  cases hl6
                  rw [List.append_nil] at ha6
                  subst ha6
                  exact .inl ⟨w3 hge, F6, s6, acc6, _, rr, sz6, go6, ((sm2.trans x3.sam).trans (x4.sam.trans x5.sam)).trans sm6, n6, e6, r6, q7, by rw [List.append_assoc]; exact ha⟩
                | some d1 =>
                  have hlt1 : a < ds1.length := (List.getElem?_eq_some_iff.mp qe).1
                  have ed1 : ds1.drop a = d1 :: ds1.drop (a + 1) := by
                    rw [List.drop_eq_getElem_cons hlt1]
                    have := (List.getElem?_eq_some_iff.mp qe).2
                    rw [this]
                  rw [ed1] at hl6
                  unfold lc2I at hl6
                  obtain ⟨g3, g4⟩ := w4 d1 qe
                  refine .inr ⟨g3, fun H7 => ∃ F7 s9 acc7 accD7 rest7, Stt K g O F7 H7 (L2.wipe σ4 vs1) (wipeE en vs1) s9 ∧ Stt K g O F7 H7 (L2.wipe σ vs) (wipeE env vs) s9 ∧ Go g.ft F H F7 H7 ∧ Same F5 F7 ∧ F7 D = none ∧ H7 D = some (.lst acc7) ∧ Reps K F7 acc7 accD7 ∧
                    lc2I st1 tt1 te (wipeE en vs1) (ds1.drop (a + 1)) s9 = some (rest7, s6) ∧ accD7 ++ rest7 = accD ++ yi, fun H7 h7 => ⟨ds1.length - (a + 1), by omega, rfl, h7⟩, fun x7 H7 y7 => ?_⟩
                  obtain ⟨F7, x7', b7, r7⟩ := g4 x7 H7 y7
                  have st7 := st6.step x7' b7
                  have sz7 := sz6.step x7' b7
                  have n7 : F7 D = none := keepsD x7' n6 e6
                  have e7 : H7 D = some (.lst acc6) := x7'.ext D _ e6 nft
                  have go7 : Go g.ft F H F7 H7 := go6.trans x7' st6.bs
                  split at hl6
                  · cases hl6
                  · rename_i en1 q8
                    refine hw1 _ _ _ _ (hT1 _ _ _ _ ⟨g, F7, wipeE en vs1, s8, d1, en1, st7, r7, q8, fun σ8 st8 _ => ?_⟩)
                    split at hl6
                    · rename_i s10 q10
                      refine ⟨g, F7, en1, s8, true, s10, st8, q10, fun F9 H9 x9 b9 => ?_⟩
                      refine iteT ?_
                      split at hl6
                      · rename_i yv s11 q11
                        split at hl6
                        · rename_i r12 s12 q12
                          cases hl6
                          refine ⟨g, F9, en1, s10, yv, s11, st8.step x9 b9, q11, fun v F10 H10 x10 b10 r10 => ?_⟩
                          have x910 := x9.trans x10 b9
                          have e10 : H10 D = some (.lst acc6) := x910.ext D _ e7 nft
                          have n10 : F10 D = none := keepsD x910 n7 e7
                          have lz : acc6.length < sizeLine := by
                            rw [r6.length]
                            have z1 : (accD6 ++ yv :: r12).length ≤ sizeLine := by
                              rw [ha6]
                              have z2 : (accD ++ (yi ++ rr)).length ≤ sizeLine := by rw [ha]; exact hz
                              rw [List.length_append, List.length_append] at z2
                              rw [List.length_append]
                              omega
                            rw [List.length_append, List.length_cons] at z1
                            omega
                          refine ⟨acc6, e10, lz, F10, s11, acc6 ++ [v], accD6 ++ [yv], r12, (st7.step x910 b10).apart n10 nft nhe nO4, (sz7.step x910 b10).apart n10 nft nhe nO, ?_, (sm6.trans x7'.sam).trans x910.sam, n10, upd_same, ?_, q12, by rw [← ha6, List.append_assoc]; rfl⟩
                          · have go10 : Go g.ft F H F10 H10 := go7.trans x910 st7.bs
                            exact ⟨fun c u e nc => by rw [upd_ne (ne_of_none e nH)]; exact go10.ext c u e nc, go10.sam, go10.new⟩
                          · exact (Reps.mono (x7'.sam.trans x910.sam) _ _ r6).snoc r10
                        · cases hl6
                      · cases hl6
                    · rename_i s10 q10
                      refine ⟨g, F7, en1, s8, false, s10, st8, q10, fun F9 H9 x9 b9 => ?_⟩
                      refine iteF ?_
                      exact ⟨F9, s10, acc6, accD6, rest6, st7.step x9 b9, sz7.step x9 b9, go7.trans x9 st7.bs, (sm6.trans x7'.sam).trans x9.sam, keepsD x9 n7 e7, x9.ext D _ e7 nft, Reps.mono (x7'.sam.trans x9.sam) _ _ r6, hl6, ha6⟩
                    · cases hl6
              · cases hl
            · cases hl
          · cases hl
    · cases hf
  · cases hf
end
end DL
namespace DL
open PySem PySem.Spec PyProof.Rows L2

section
variable {X : Cx} {O : List Nat} {elt tg iter tg1 iter1 : Expr} {ifs1 : List Expr} {scope : Scope} {own : List (Str × Nat)} {pos : Pos} {fi fi1 : Fi} {tt1 : Ft} {te : Fe}
theorem n_lc2 {i i1 : Nat} (hc : X.calm = true) (hN : X.N.Nodup) (hi : PI X tg iter (tI X.K O fi)) (ok : BlkOk X.N X.env.scope scope own)
    (hg : ∀ (s : Shared) (H : Hp) (C : Addr) (cl : List (Str × Addr)) (fp : List Addr), PG (X.blk s H scope (compEnvC scope cl C X.env) fp) tg (gName i))
    (hi1 : ∀ (s : Shared) (H : Hp) (C : Addr) (cl : List (Str × Addr)) (fp : List Addr), PI (X.blk s H scope (compEnvC scope cl C X.env) fp) tg1 iter1 (tI X.K O fi1))
    (hg1 : ∀ (s : Shared) (H : Hp) (C : Addr) (cl : List (Str × Addr)) (fp : List Addr), PG (X.blk s H scope (compEnvC scope cl C X.env) fp) tg1 (gName i1))
    (ht1 : ∀ (s : Shared) (H : Hp) (C : Addr) (cl : List (Str × Addr)) (fp : List Addr), PTs (X.blk s H scope (compEnvC scope cl C X.env) fp) ifs1 (tT X.K O tt1))
    (he : ∀ (s : Shared) (H : Hp) (C : Addr) (cl : List (Str × Addr)) (fp : List Addr), PE (X.blk s H scope (compEnvC scope cl C X.env) fp) elt (tD X.K O te))
    (hv : ∀ j, j ∈ own.map (·.2) → j ∉ O := by decide) (hm : i ∈ own.map (·.2) := by decide) (hm1 : i1 ∈ own.map (·.2) := by decide)
    (hs : ∀ x, foldedSetIterable iter X.env x = pure x := by intro _; rfl) (hs1 : ∀ env x, foldedSetIterable iter1 env x = pure x := by intro _ _; rfl) :
    PE X (.ListComp elt [⟨tg, iter, [], 0⟩, ⟨tg1, iter1, ifs1, 0⟩] scope pos) (tN X.K O (lc2F fi (tgN i) fi1 (tgN i1) tt1 te (own.map (·.2)) [i1])) :=
  pe_imp (pe_lc2 (vs1 := [i1]) hc hN hi ok (fun j hj => by rw [List.mem_singleton.mp hj]; exact hm1) hg (fun _ _ _ _ _ => pts_nil) hi1 hg1 ht1 he hs hs1)
    (lc2_n hv (fun j hj => by rw [List.mem_singleton.mp hj]; exact hm1) (nameT (hv i hm)) (fun v σ H Q h => ⟨wipe_set _ _ hm (wipe_wipe _ _), h⟩) (nameT (hv i1 hm1)) (fun v σ H Q h => ⟨wipe_set _ _ List.mem_cons_self (wipe_wipe _ _), h⟩))
end

/-! ### what a name's own object is changed by -/
def lstAt (env : Env) (i : Nat) : Option (List Dt) := match env[i]? with
  | some (some (.lst ds)) => some ds
  | _ => none
def dctAt (env : Env) (i : Nat) : Option (List (Key × Dt)) := match env[i]? with
  | some (some (.dct ds)) => some ds
  | _ => none
theorem lstAt_some {env : Env} {i : Nat} {ds : List Dt} (h : lstAt env i = some ds) : env[i]? = some (some (.lst ds)) := by
  unfold lstAt at h
  split at h
  · rename_i q; cases h; exact q
  · cases h
theorem dctAt_some {env : Env} {i : Nat} {ds : List (Key × Dt)} (h : dctAt env i = some ds) : env[i]? = some (some (.dct ds)) := by
  unfold dctAt at h
  split at h
  · rename_i q; cases h; exact q
  · cases h
def appS (i : Nat) (f : Fe) : Fs := fun env s => match f env s, lstAt env i with
  | some (d, s'), some ds => if ds.length < sizeLine then some (.nx (env.set i (some (.lst (ds ++ [d])))), s') else none
  | _, _ => none
def extS (i : Nat) (f : Fe) : Fs := fun env s => match f env s, lstAt env i with
  | some (.lst es, s'), some ds => if ds.length + es.length ≤ sizeLine then some (.nx (env.set i (some (.lst (ds ++ es)))), s') else none
  | _, _ => none
def popS (i j : Nat) : Fs := fun env s => match lstAt env i with
  | some ds => match ds[ds.length - 1]? with
    | some d => some (.nx ((env.set i (some (.lst ds.dropLast))).set j (some d)), s)
    | none => none
  | none => none
def dputS (i : Nat) (fk fv : Fe) : Fs := fun env s => match fv env s with
  | some (v, s1) => match fk env s1, dctAt env i with
    | some (k, s2), some ks => match keyOf k with
      | some key => if ks.length < sizeLine then some (.nx (env.set i (some (.dct (putD ks key v)))), s2) else none
      | none => none
    | _, _ => none
  | none => none
/-- .. of an object of the store, by its handle -/
def hputS (i : Nat) (fk fv : Fe) : Fs := fun env s => match fv env s with
  | some (v, s1) => match fk env s1, env[i]? with
    | some (k, s2), some (some (.ref a)) => match keyOf k, s2.lookup a with
      | some key, some (.dct ks) => if ks.length < sizeLine then some (.nx env, s2.map fun q => if q.1 = a then (a, .dct (putD ks key v)) else q) else none
      | _, _ => none
    | _, _ => none
  | none => none
section
variable {X : Cx} {L O : List Nat} {call e : Expr} {i j : Nat} {f fk fv : Fe} {pos : Pos}
theorem s_app (h : PE X call (tBM X.K "list" rAppend (tVar i) (tCons (tD X.K O f) tNil))) (hi : i ∈ O := by decide) (hs : swapsWith call none pos.line X.env = pure false := by rfl) : PS X (.Expr call pos) (tS X.K L O O (appS i f)) := ps_imp (ps_expr h hs) fun D σ H ⟨g, F, env, s, out, s', st, hf, k⟩ => by
  unfold appS at hf
  split at hf
  · rename_i d s1 ds q1 q2
    split at hf <;> cases hf
    rename_i hl
    obtain ⟨p, o, d0, e1, e2, e3, r, n, nf, nh⟩ := st.sl.ow i hi
    rw [lstAt_some q2] at e2
    cases e2
    cases r with
    | lst r =>
      rename_i vs
      refine ⟨.ref p, e1, .inl ⟨rfl, vs, SqL.of e3⟩, g, F, env, s, d, _, st, q1, fun v F1 H1 x1 b1 r1 => ?_⟩
      have st1 := st.step x1 b1
      have e4 : H1 p = some (.lst vs) := x1.ext p _ e3 nf
      refine ⟨p, vs, v, rfl, rfl, e4, by rw [r.length]; exact hl, ?_⟩
      exact k σ _ F1 x1.sam (st1.change hi e1 e4 (.lst ((Reps.mono x1.sam _ _ r).snoc r1)))
  · cases hf
theorem s_ext (h : PE X call (tBM X.K "list" rExtend (tVar i) (tCons (tB X.K O f) tNil))) (hi : i ∈ O := by decide) (hs : swapsWith call none pos.line X.env = pure false := by rfl) : PS X (.Expr call pos) (tS X.K L O O (extS i f)) := ps_imp (ps_expr h hs) fun D σ H ⟨g, F, env, s, out, s', st, hf, k⟩ => by
  unfold extS at hf
  split at hf
  · rename_i es s1 ds q1 q2
    split at hf <;> cases hf
    rename_i hl
    obtain ⟨p, o, d0, e1, e2, e3, r, n, nf, nh⟩ := st.sl.ow i hi
    rw [lstAt_some q2] at e2
    cases e2
    cases r with
    | lst r =>
      rename_i vs
      refine ⟨.ref p, e1, .inl ⟨rfl, vs, SqL.of e3⟩, g, F, env, s, _, _, st, q1, fun v F1 H1 x1 b1 r1 => ?_⟩
      have st1 := st.step x1 b1
      have e4 : H1 p = some (.lst vs) := x1.ext p _ e3 nf
      obtain ⟨a, us, rfl, e5, r5⟩ := r1.lst b1
      refine ⟨p, a, vs, us, rfl, rfl, e4, e5, by rw [r.length, r5.length]; exact hl, ?_⟩
      exact k σ _ F1 x1.sam (st1.change hi e1 e4 (.lst ((Reps.mono x1.sam _ _ r).append r5)))
  · cases hf
theorem s_pop {O' : List Nat} {x : Str} {pos' : Pos} (h : PS X (.Assign [.Name x pos'] e pos) (tAsg (tBM0 X.K "list" rPop (tVar i)) (gName j))) (hi : i ∈ O := by decide) (hj : j ≠ i := by decide)
    (h1 : ∀ a, a ∈ O' → a ∈ O ∧ a ≠ j := by decide) (h2 : ∀ a, a ∈ O → a ≠ j → a ∈ O' := by decide) : PS X (.Assign [.Name x pos'] e pos) (tS X.K L O O' (popS i j)) := ps_imp h fun D σ H ⟨g, F, env, s, out, s', st, hf, k⟩ => by
  unfold popS at hf
  split at hf
  · rename_i ds q2
    split at hf
    · rename_i d q3
      cases hf
      obtain ⟨p, o, d0, e1, e2, e3, r, n, nf, nh⟩ := st.sl.ow i hi
      rw [lstAt_some q2] at e2
      cases e2
      cases r with
      | lst r =>
        rename_i vs
        obtain ⟨v, e5, r5⟩ := r.get q3
        refine ⟨.ref p, e1, .inl ⟨rfl, vs, SqL.of e3⟩, p, vs, v, rfl, rfl, e3, by rw [r.length]; exact e5, ?_⟩
        have rd : Reps X.K F vs.dropLast ds.dropLast := by
          rw [List.dropLast_eq_take, List.dropLast_eq_take, r.length]
          exact r.take _
        exact k _ _ F (Same.refl _) ((st.change hi e1 e3 (.lst rd)).setD r5 h1 h2)
    · cases hf
  · cases hf
theorem s_dput {o : Expr} {ix : Expr} {pos' : Pos} (h : PS X (.Assign [.Subscript o ix pos'] e pos) (sDPut (tVar i) (tB X.K O fk) (tD X.K O fv))) (hi : i ∈ O := by decide) : PS X (.Assign [.Subscript o ix pos'] e pos) (tS X.K L O O (dputS i fk fv)) := ps_imp h fun D σ H ⟨g, F, env, s, out, s', st, hf, k⟩ => by
  unfold dputS at hf
  split at hf
  · rename_i v s1 q1
    split at hf
    · rename_i kd s2 ks q2 q3
      split at hf
      · rename_i key q4
        split at hf <;> cases hf
        rename_i hl
        refine ⟨g, F, env, s, v, s1, st, q1, fun u F1 H1 x1 b1 r1 => ?_⟩
        have st1 := st.step x1 b1
        obtain ⟨p, o, d0, e1, e2, e3, r, n, nf, nh⟩ := st1.sl.ow i hi
        rw [dctAt_some q3] at e2
        cases e2
        cases r with
        | dct r =>
          rename_i vs
          refine ⟨.ref p, e1, g, F1, env, s1, kd, _, st1, q2, fun w F2 H2 x2 b2 r2 => ?_⟩
          have st2 := st1.step x2 b2
          have e4 : H2 p = some (.dK vs) := x2.ext p _ e3 nf
          obtain rfl := keyOf_V r2 q4
          refine ⟨p, _, rfl, DPut.k e4 (by rw [r.length]; exact hl), ?_⟩
          exact k σ _ F2 (x1.sam.trans x2.sam) (st2.change hi e1 e4 (.dct (Repk.put key (Rep.mono x2.sam _ _ r1) (Repk.mono x2.sam _ _ r))))
      · cases hf
    · cases hf
  · cases hf
theorem lookup_ft {K : PySem.W.Frag} {ft : List Addr} {F H : Hp} {s : Sto} {a : Addr} {d : Dt} (b : Bs K ft F H s) (h : s.lookup a = some d) : a ∈ ft := by
  rw [← b.ad]
  exact List.mem_map_of_mem (lookup_mem h)
theorem s_hput {o : Expr} {ix : Expr} {pos' : Pos} (h : PS X (.Assign [.Subscript o ix pos'] e pos) (sDPut (tVar i) (tB X.K O fk) (tD X.K O fv))) (hi : i ∉ O := by decide) : PS X (.Assign [.Subscript o ix pos'] e pos) (tS X.K L O O (hputS i fk fv)) := ps_imp h fun D σ H ⟨g, F, env, s, out, s', st, hf, k⟩ => by
  unfold hputS at hf
  split at hf
  · rename_i v s1 q1
    split at hf
    · rename_i kd s2 a q2 q3
      split at hf
      · rename_i key ks q4 q5
        split at hf <;> cases hf
        rename_i hl
        refine ⟨g, F, env, s, v, s1, st, q1, fun u F1 H1 x1 b1 r1 => ?_⟩
        have st1 := st.step x1 b1
        obtain ⟨va, e1, ra⟩ := st1.sl.pu i _ hi q3
        cases ra
        refine ⟨.ref a, e1, g, F1, env, s1, kd, s2, st1, q2, fun w F2 H2 x2 b2 r2 => ?_⟩
        have st2 := st1.step x2 b2
        obtain ⟨ob, e4, r4⟩ := b2.st _ _ (lookup_mem q5)
        cases r4 with
        | dct r4 =>
          obtain rfl := keyOf_V r2 q4
          refine ⟨a, _, rfl, DPut.k e4 (by rw [r4.length]; exact hl), ?_⟩
          exact k σ _ F2 (x1.sam.trans x2.sam) (st2.put (lookup_ft b2 q5) (.dct (Repk.put key (Rep.mono x2.sam _ _ r1) r4)))
      · cases hf
    · cases hf
  · cases hf
end

/-! ### two and three names at once -/
/-- m: the value is a new object, which the name is to own -/
def tX (m : Bool) (K : PySem.W.Frag) (O : List Nat) (f : Fe) : TE := if m then tN K O f else tD K O f
def ownX (m : Bool) (O : List Nat) (i : Nat) : List Nat := if m then i :: O else O.filter fun j => decide (j ≠ i)
/-- a value in hand: frozen, or a new object -/
def Hand (K : PySem.W.Frag) (g : Gd) (O : List Nat) (F H : Hp) (σ : L2.St) (m : Bool) (v : V) (d : Dt) : Prop := if m then ∃ p o, v = .ref p ∧ H p = some o ∧ ObR K F o d ∧ F p = none ∧ p ∉ g.ft ∧ g.he p = none ∧ ∀ j, j ∈ O → σ[j]? ≠ some (some (.ref p)) else Rep K F v d
theorem Stt.setX {K : PySem.W.Frag} {g : Gd} {O : List Nat} {F H : Hp} {σ : L2.St} {env : Env} {s : Sto} {i : Nat} {m : Bool} {v : V} {d : Dt} (h : Stt K g O F H σ env s) (r : Hand K g O F H σ m v d) (hl : i < env.length) : Stt K g (ownX m O i) F H (σ.set i (some v)) (env.set i (some d)) s := by
  cases m with
  | false =>
    refine h.setD (show Rep K F v d from r) (fun j hj => ?_) fun j hj c => ?_
    · have := List.mem_filter.mp (show j ∈ O.filter fun j => decide (j ≠ i) from hj)
      exact ⟨this.1, of_decide_eq_true this.2⟩
    · exact List.mem_filter.mpr ⟨hj, decide_eq_true c⟩
  | true =>
    obtain ⟨p, o, rfl, e, r, n, nf, nh, no⟩ := (show ∃ p o, v = .ref p ∧ H p = some o ∧ ObR K F o d ∧ F p = none ∧ p ∉ g.ft ∧ g.he p = none ∧ ∀ j, j ∈ O → σ[j]? ≠ some (some (.ref p)) from r)
    exact h.setN hl e r n nf nh (fun j hj _ => no j hj) (fun j hj => List.mem_cons.mp hj) (fun j hj => List.mem_cons_of_mem _ hj) List.mem_cons_self
theorem Hand.step {K : PySem.W.Frag} {g : Gd} {O : List Nat} {F H F' H' : Hp} {σ : L2.St} {m : Bool} {v : V} {d : Dt} (h : Hand K g O F H σ m v d) (x : Go g.ft F H F' H') : Hand K g O F' H' σ m v d := by
  cases m with
  | false => exact Rep.mono x.sam _ _ (show Rep K F v d from h)
  | true =>
    obtain ⟨p, o, rfl, e, r, n, nf, nh, no⟩ := (show ∃ p o, v = .ref p ∧ H p = some o ∧ ObR K F o d ∧ F p = none ∧ p ∉ g.ft ∧ g.he p = none ∧ ∀ j, j ∈ O → σ[j]? ≠ some (some (.ref p)) from h)
    exact ⟨p, o, rfl, x.ext p o e nf, r.mono x.sam, keepsD x n e, nf, nh, no⟩
/-- the value of an expression, in hand -/
theorem tX_hand {K : PySem.W.Frag} {g : Gd} {O : List Nat} {F H : Hp} {σ : L2.St} {env : Env} {s s' : Sto} {m : Bool} {f : Fe} {d : Dt} {Q : VK} (st : Stt K g O F H σ env s) (hf : f env s = some (d, s'))
    (k : ∀ v F' H', Go g.ft F H F' H' → Bs K g.ft F' H' s' → Hand K g O F' H' σ m v d → (m = true → ∃ p, v = .ref p ∧ H p = none) → Q v H') : tX m K O f σ H Q := by
  cases m with
  | false => exact ⟨g, F, env, s, d, s', st, hf, fun v F' H' x b r => k v F' H' x b r fun z => nomatch z⟩
  | true =>
    refine ⟨g, F, env, s, d, s', st, hf, fun p o F' H' x b n n' e r => k (.ref p) F' H' x b ⟨p, o, rfl, e, r, n', st.bs.nofree n, st.go.free st.bs n, fun j hj ej => ?_⟩ fun _ => ⟨p, rfl, n⟩⟩
    obtain ⟨p2, o2, d2, g1, _, g3, _⟩ := st.sl.ow j hj
    rw [ej] at g1; cases g1
    rw [n] at g3; cases g3
/-- a second value in hand beside the first -/
theorem Hand.beside {K : PySem.W.Frag} {g : Gd} {O : List Nat} {F H : Hp} {σ : L2.St} {m m' : Bool} {v w : V} {e : Dt} {i : Nat} (h : Hand K g O F H σ m w e) (hne : m = true → m' = true → v ≠ w) (hi : i < σ.length) :
    Hand K g (ownX m' O i) F H (σ.set i (some v)) m w e := by
  cases m with
  | false => exact h
  | true =>
    obtain ⟨p, o, rfl, eo, r, n, nf, nh, no⟩ := (show ∃ p o, w = .ref p ∧ H p = some o ∧ ObR K F o e ∧ F p = none ∧ p ∉ g.ft ∧ g.he p = none ∧ ∀ j, j ∈ O → σ[j]? ≠ some (some (.ref p)) from h)
    refine ⟨p, o, rfl, eo, r, n, nf, nh, fun j hj ej => ?_⟩
    cases m' with
    | false =>
      have hj' := List.mem_filter.mp (show j ∈ O.filter fun j => decide (j ≠ i) from hj)
      have c : j ≠ i := of_decide_eq_true hj'.2
      rw [List.getElem?_set_ne (Ne.symm c)] at ej
      exact no j hj'.1 ej
    | true =>
      by_cases c : j = i
      · subst c
        rw [List.getElem?_set_self hi] at ej
        cases ej
        exact hne rfl rfl rfl
      · rw [List.getElem?_set_ne (Ne.symm c)] at ej
        exact no j ((List.mem_cons.mp hj).elim (fun z => absurd z c) fun z => z) ej
def par2S (i j : Nat) (f1 f2 : Fe) : Fs := fun env s => if i < env.length ∧ j < env.length then match f1 env s with
  | some (x, s1) => match f2 env s1 with
    | some (y, s2) => some (.nx ((env.set i (some x)).set j (some y)), s2)
    | none => none
  | none => none
  else none
theorem s_par2 {X : Cx} {L O : List Nat} {st : Stmt} {i j : Nat} {f1 f2 : Fe} (m1 m2 : Bool) (h : PS X st (tPar i j (tCons (tX m1 X.K O f1) (tCons (tX m2 X.K O f2) tNil)))) (O' : List Nat)
    (h1 : ∀ a, a ∈ O' → a ∈ ownX m2 (ownX m1 O i) j := by decide) : PS X st (tS X.K L O O' (par2S i j f1 f2)) := ps_imp (ps_lkout h) fun D σ H ⟨g, F, env, s, out, s', stt, hf, k⟩ => by
  unfold par2S at hf
  split at hf
  · rename_i hl
    split at hf
    · rename_i x s1 q1
      split at hf
      · rename_i y s2 q2
        cases hf
        refine tX_hand stt q1 fun v F1 H1 x1 b1 r1 z1 => ?_
        have st1 := stt.step x1 b1
        refine tX_hand st1 q2 fun w F2 H2 x2 b2 r2 z2 => ⟨v, w, rfl, ?_⟩
        have st2 := st1.step x2 b2
        have r1' := r1.step x2
        have a1 := st2.setX r1' hl.1
        have hi : i < σ.length := by rw [stt.sl.len]; exact hl.1
        have r2' : Hand X.K g (ownX m1 O i) F2 H2 (σ.set i (some v)) m2 w y := r2.beside (fun e2 e1 => by
          obtain ⟨p2, rfl, n2⟩ := z2 e2
          subst e1
          obtain ⟨p1, o1, rfl, e1, _⟩ := (show ∃ p o, v = .ref p ∧ H1 p = some o ∧ ObR X.K F1 o x ∧ F1 p = none ∧ p ∉ g.ft ∧ g.he p = none ∧ ∀ j, j ∈ O → σ[j]? ≠ some (some (.ref p)) from r1)
          intro z
          cases z
          rw [n2] at e1; cases e1) hi
        have a2 := a1.setX r2' (by rw [List.length_set]; exact hl.2)
        exact a2.weak h1 fun F3 H3 sm st3 => k _ H3 F3 ((x1.sam.trans x2.sam).trans sm) st3
      · cases hf
    · cases hf
  · cases hf
/-- a, b = a pair: a list or a tuple -/
def unpS (i j : Nat) (f : Fe) : Fs := fun env s => match f env s with
  | some (.lst [x, y], s') => some (.nx ((env.set i (some x)).set j (some y)), s')
  | some (.tup [x, y], s') => some (.nx ((env.set i (some x)).set j (some y)), s')
  | _ => none
section
variable {X : Cx} {L O O' : List Nat} {e : Expr} {tg : Expr} {i j : Nat} {f : Fe} {pos : Pos}
theorem ps_or {st : Stmt} {t t' : TS} (h : PS X st t) (h' : PS X st t') : PS X st (fun D σ H => t D σ H ∨ t' D σ H) := ⟨fun pins s σ H D I q => q.elim (h.run pins s σ H D I) (h'.run pins s σ H D I)⟩
theorem s_unp (h : PS X (.Assign [tg] e pos) (tAsg (tD X.K O f) (gUnl X.K 2 (gCons (gName i) (gCons (gName j) gNil))))) (h' : PS X (.Assign [tg] e pos) (tAsg (tD X.K O f) (gTup X.K 2 (gCons (gName i) (gCons (gName j) gNil)))))
    (h1 : ∀ a, a ∈ O' → a ∈ O ∧ a ≠ i ∧ a ≠ j := by decide) : PS X (.Assign [tg] e pos) (tS X.K L O O' (unpS i j f)) := ps_imp (ps_lkout (ps_or h h')) fun D σ H ⟨g, F, env, s, out, s', st, hf, k⟩ => by
  have key : ∀ F1 H1 x y v w, Go g.ft F H F1 H1 → Bs X.K g.ft F1 H1 s' → Rep X.K F1 v x → Rep X.K F1 w y → out = .nx ((env.set i (some x)).set j (some y)) → Lk (D.nx ((σ.set i (some v)).set j (some w))) H1 := fun F1 H1 x y v w x1 b1 r1 r2 eo => by
    subst eo
    have st1 := st.step x1 b1
    have a1 := st1.setD (O' := O.filter fun a => decide (a ≠ i)) r1 (fun a ha => by
      have := List.mem_filter.mp ha
      exact ⟨this.1, of_decide_eq_true this.2⟩) fun a ha c => List.mem_filter.mpr ⟨ha, decide_eq_true c⟩
    have a2 := a1.setD (O' := (O.filter fun a => decide (a ≠ i)).filter fun a => decide (a ≠ j)) r2 (fun a ha => by
      have := List.mem_filter.mp ha
      exact ⟨this.1, of_decide_eq_true this.2⟩) fun a ha c => List.mem_filter.mpr ⟨ha, decide_eq_true c⟩
    exact a2.weak (O' := O') (fun a ha => by
      obtain ⟨z1, z2, z3⟩ := h1 a ha
      exact List.mem_filter.mpr ⟨List.mem_filter.mpr ⟨z1, decide_eq_true z2⟩, decide_eq_true z3⟩) fun F3 H3 sm st3 => k _ H3 F3 (x1.sam.trans sm) st3
  unfold unpS at hf
  split at hf
  · rename_i x y s1 q
    cases hf
    refine .inl ⟨g, F, env, s, _, _, st, q, fun v F1 H1 x1 b1 r1 => ?_⟩
    cases r1 with
    | lst e1 rs =>
      cases rs with
      | cons r1 t1 =>
        cases t1 with
        | cons r2 t2 =>
          cases t2
          exact ⟨_, _, rfl, SqL.of (b1.sub _ _ e1), rfl, _, _, rfl, _, _, rfl, rfl, key F1 H1 x y _ _ x1 b1 r1 r2 rfl⟩
  · rename_i x y s1 q
    cases hf
    refine .inr ⟨g, F, env, s, _, _, st, q, fun v F1 H1 x1 b1 r1 => ?_⟩
    cases r1 with
    | tup e1 hp rs =>
      cases rs with
      | cons r1 t1 =>
        cases t1 with
        | cons r2 t2 =>
          cases t2
          exact ⟨_, _, rfl, sqT_same b1.sub e1, rfl, _, _, rfl, _, _, rfl, rfl, key F1 H1 x y _ _ x1 b1 r1 r2 rfl⟩
  · cases hf
end
end DL
namespace DL
open PySem PySem.Spec PyProof.Rows L2

/-! ### defs, where it is known that nothing is being shown -/
structure FnG (P : Program) (w : World) (K : PySem.W.Frag) (mg : Str → Option Value) (base : Heap) (k : Nat) (f : Addr) (fd : FuncData) (ps : List Str) (sp : Sp) : Prop where
  len : ∀ vs H Q E, sp vs H Q E → vs.length = ps.length
  run : ∀ (A : Around) (outer : List PySem.Env) (s : Shared) (H : Hp) (args : Args) (us : List Value) (vs : List V) (Q : VK) (E : XK), Room k A → A.guards = some [] →
    Env0 P w K mg base A outer s H → BindsTo s fd args (ps.zip us) → Vals vs us → sp vs H Q E → codeAny (model P w) A (.call (.ref f) args) (CR CX0 outer P w H s Q E) s
section
variable {P : Program} {w : World} {K : PySem.W.Frag} {mg : Str → Option Value} {base : Heap}
theorem fnG_of {k : Nat} {f : Addr} {name qual : Str} {params : Arguments} {body : List Stmt} {scope : Scope} {dV kV doc pm cdv ct oc : Value} {an od : Option Addr} {osl : Array (Option Value)} {N ps : List Str} {sp : Sp}
    (lk : K.lookup f = some ⟨oc, od, .func (PySem.W.fnOf name qual params body scope dV kV doc pm an cdv ct), osl⟩) (hcode : PySem.W.codeIn K cdv qual = true) (S : FnScope N ps scope) (hlen : ∀ vs H Q E, sp vs H Q E → vs.length = ps.length)
    (hb : ∀ (A : Around) (outer : List PySem.Env) (s : Shared) (H : Hp) (vs : List V) (Q : VK) (E : XK), Room k (A.deeper (envOfC qual scope s.heap.objs.size f cdv)) → A.guards = some [] → sp vs H Q E →
      ∃ t, PSs (cxOf CX0 P w K mg base N qual scope f cdv A outer s H E) body t ∧ t { nx := fun _ H' => Q .non H', rt := Q } (L2.start N vs) H) :
    FnG P w K mg base (k + 1) f (PySem.W.fnOf name qual params body scope dV kV doc pm an cdv ct) ps sp where
  len := hlen
  run := by
    intro A outer s H args us vs Q E room gds env bnd rel want
    have old : ∀ b o, base.get? b = some o → s.heap.get? b = some o := fun b o z => (env.bs b o z).1
    have inK : K.In s.heap := env.mod.kin.keeps old
    have noLim : s.heap.NoLimit := env.mod.nolimit.keeps old
    refine codeAny_call_function room.depth (inK _ _ lk) rfl S.co S.gen rfl (PySem.W.codeRec_of inK hcode) (bnd _ _ _ _ ?_)
    refine wpAny_newFunctionEnv_cells S.kind (fun ⟨n, v⟩ hy => ?_) fun env' he s1 made => ?_
    · rcases S.par n (List.of_mem_zip hy).1 with q | q
      · exact .inl q
      · exact .inr ⟨q, PySem.W.cellsFrom_some _ _ _ (.inl q)⟩
    · subst he
      refine ⟨noLim.keeps made.toInCall.keep, codeAny_func ?_⟩
      obtain ⟨t, ht, hq⟩ := hb A outer s H vs Q E (room.deeper _) gds want
      have I := inv_start (CX := CX0) (E := E) S room.hd env (hlen _ _ _ _ want) rel made
      refine wpAny_mono (ht.run [] s1 (L2.start N vs) H _ I hq) ?_ fun _ _ z => z
      intro fl s' hs
      cases fl with
      | ret u =>
        obtain ⟨v, σ', H', J, rv, q⟩ := hs
        exact ⟨v, H', J.os, J.bare, J.base, J.hok, rv, q⟩
      | next =>
        obtain ⟨σ', H', J, q⟩ := hs
        exact ⟨.non, H', J.os, J.bare, J.base, J.hok, rfl, q⟩
      | brk => exact hs.elim fun _ z => z.elim fun _ z => z.2.elim
      | cont => exact hs.elim fun _ z => z.elim fun _ z => z.2.elim
theorem okG {x qual : Str} {st : Stmt} {f : Addr} {fd : FuncData} {N ps : List Str} {k : Nat} {sp : Sp} (F : L2.Fun K x qual st f fd) (S : FnScope N ps (defScope st)) (hlen : ∀ vs H Q E, sp vs H Q E → vs.length = ps.length)
    (hb : ∀ (cdv : Value) (A : Around) (outer : List PySem.Env) (s : Shared) (H : Hp) (vs : List V) (Q : VK) (E : XK), Room k (A.deeper (envOfC qual (defScope st) s.heap.objs.size f cdv)) → A.guards = some [] → sp vs H Q E →
      ∃ t, PSs (cxOf CX0 P w K mg base N qual (defScope st) f cdv A outer s H E).nox (defBody st) t ∧ t { nx := fun _ H' => Q .non H', rt := Q } (L2.start N vs) H) : FnG P w K mg base (k + 1) f fd ps sp := by
  obtain ⟨oc, od, kV, doc, pm, an, cdv, ct, osl, rfl, lk, hc⟩ := F.ex
  exact fnG_of lk hc S hlen fun A outer s H vs Q E hr hg want =>
    let ⟨t, h, q⟩ := hb cdv A outer s H vs Q E hr hg want
    ⟨t, h.nox, q⟩
end

/-! ### what a def of data promises -/
def spF (K : PySem.W.Frag) (n : Nat) (Fn : List Dt → Sto → Option (Dt × Sto)) : Sp := fun vs H Q _ => ∃ ft F s ds d s', vs.length = n ∧ Bs K ft F H s ∧ Reps K F vs ds ∧ Fn ds s = some (d, s') ∧
  ∀ v F' H', Go ft F H F' H' → Bs K ft F' H' s' → Rep K F' v d → Q v H'
/-- the value of a body that starts with these arguments; m names in all -/
def fnV (m : Nat) (F : Fs) : List Dt → Sto → Option (Dt × Sto) := fun ds s => match F (ds.map some ++ List.replicate (m - ds.length) none) s with
  | some (.rt d, s') => some (d, s')
  | some (.nx _, s') => some (.non, s')
  | _ => none
theorem start_stt {K : PySem.W.Frag} {ft : List Addr} {F H : Hp} {s : Sto} {vs : List V} {ds : List Dt} {N : List Str} (b : Bs K ft F H s) (r : Reps K F vs ds) : Stt K ⟨ft, H, F⟩ [] F H (L2.start N vs) (ds.map some ++ List.replicate (N.length - ds.length) none) s := by
  refine ⟨b, ⟨?_, fun i d _ e => ?_, fun i hi => absurd hi List.not_mem_nil, fun i j p hi => absurd hi List.not_mem_nil⟩, Go.refl⟩
  · unfold L2.start
    simp only [List.length_append, List.length_map, List.length_replicate, r.length]
  · unfold L2.start
    by_cases hi : i < ds.length
    · rw [List.getElem?_append_left (by rw [List.length_map]; exact hi), List.getElem?_map] at e
      cases q : ds[i]? with
      | none => rw [q] at e; cases e
      | some d' =>
        rw [q] at e
        cases e
        obtain ⟨v, e1, r1⟩ := r.get q
        refine ⟨v, ?_, r1⟩
        rw [List.getElem?_append_left (by rw [List.length_map, r.length]; exact hi), List.getElem?_map, e1]
        rfl
    · rw [List.getElem?_append_right (by rw [List.length_map]; omega), List.getElem?_replicate] at e
      split at e <;> cases e
section
variable {P : Program} {w : World} {K : PySem.W.Frag} {mg : Str → Option Value} {base : Heap}
theorem okF {x qual : Str} {st : Stmt} {f : Addr} {fd : FuncData} {N ps : List Str} {k m : Nat} {Fb : Fs} {O' : List Nat} (F : L2.Fun K x qual st f fd) (S : FnScope N ps (defScope st)) (hm : N.length = m)
    (hb : ∀ X : Cx, X.K = K → X.mg = mg → X.prog = P → X.w = w → X.base = base → X.N = N → X.calm = true → (∀ y, X.fn y = true) → (∃ cdv L A outer s H E, X = (cxOf CX0 P w K mg base N qual (defScope st) f cdv A outer s H E).nox ∧ L = s.heap.objs.size) → Room k X.A → X.A.guards = some [] → PSs X (defBody st) (tS K [] [] O' Fb)) :
    FnG P w K mg base (k + 1) f fd ps (spF K ps.length (fnV m Fb)) := by
  refine okG F S (fun vs H Q E ⟨_, _, _, _, _, _, h, _⟩ => h) fun cdv A outer s H vs Q E hr hg ⟨ft, F0, s0, ds, d, s', hl, b, r, hv, k0⟩ => ?_
  refine ⟨_, hb _ rfl rfl rfl rfl rfl rfl rfl (fun _ => rfl) ⟨cdv, _, A, outer, s, H, E, rfl, rfl⟩ hr hg, ?_⟩
  unfold fnV at hv
  rw [← hm] at hv
  split at hv
  · rename_i q
    cases hv
    exact ⟨⟨ft, H, F0⟩, F0, _, s0, _, _, start_stt b r, q, fun v H' F' b' x' r' => k0 v F' H' x' b' r'⟩
  · rename_i q
    cases hv
    exact ⟨⟨ft, H, F0⟩, F0, _, s0, _, _, start_stt b r, q, fun σ' H' F' _ st' => k0 .non F' H' st'.go st'.bs .non⟩
  · cases hv
end

/-! ### calls -/
def callF (Fn : List Dt → Sto → Option (Dt × Sto)) (fa : Fa) : Fe := fun env s => match fa env s with
  | some (ds, s1) => Fn ds s1
  | none => none
section
variable {X : Cx} {O : List Nat} {k n : Nat} {f : Addr} {fd : FuncData} {ps ks : List Str} {x : Str} {p pos kpos : Pos} {e : Expr} {es : List Expr} {kws : List Keyword} {fa fk : Fa} {sp : Sp} {Fn : List Dt → Sto → Option (Dt × Sto)}
theorem run_g {pins : List (Addr × Obj)} {σ : L2.St} {H : Hp} {s : Shared} {Q : VK} {vs : List V} {us : List Value} {ar : Args} {os : List Value} {ok : List (Str × Value)} (F : FnG X.prog X.w X.K X.mg X.base k f fd ps sp) (hr : Room k X.A) (hg : X.A.guards = some [])
    (I : Inv X pins σ H s) (r : Vals vs us) (hb : (us.length = ps.length) → BindsTo s fd ⟨os, ok⟩ (ps.zip us)) (h : sp vs H Q E0) : wpAny (model X.prog X.w) X.A (call (.ref f) os ok) (EP X pins σ Q) X.xe s := by
  have hl : us.length = ps.length := by rw [← r.length]; exact F.len _ _ _ _ h
  refine wpAny_call (codeAny_mono (F.run X.A X.stack s H ⟨os, ok⟩ us vs Q E0 hr hg I.env0 (hb hl) r h) ?_)
  intro res s' hq
  match res, hq with
  | .error _, z => exact z.elim
  | .ok (.ret u), z => exact I.after z
  | .ok .next, z => exact False.elim z
  | .ok .brk, z => exact False.elim z
  | .ok .cont, z => exact False.elim z
/-- f(e, ..) -/
theorem d_call (F : FnG X.prog X.w X.K X.mg X.base k f fd ps (spF X.K n Fn)) (hr : Room k X.A) (hgd : X.A.guards = some []) (hg : Gl X x) (hm : X.mg x = some (.ref f)) (hk : PySem.W.keepIn X.K (.ref f) = true) (hb : Binds X.K fd ps [])
    (ha : PA X (e :: es) (tAD X.K O fa)) (hn : n = es.length + 1) (hal : ∀ env s ds s', fa env s = some (ds, s') → ds.length = es.length + 1)
    (hdb : (x == ("__debug__" : Str)) = false := by decide) (he : starEach (e :: es) X.env = (false, eval e X.env) :: starEach es X.env := by rfl)
    (hpl : (backTo pos (starEach es X.env)).any (·.1) = false := by rfl) : PE X (.Call (.Name x p) (e :: es) [] pos) (tD X.K O (callF Fn fa)) := by
  refine ⟨fun pins s σ H Q I ⟨g, F0, env, s0, d, s', st, hf, kk⟩ => ?_⟩
  unfold callF at hf
  split at hf
  · rename_i ds s1 q
    refine wpAny_Call_Name_kw (ld_glob I hg hm ?_ hdb)
    refine PySem.W.callWith_K (h₀ := X.base) I.ok.mod.kin hk ?_ he hpl
    refine thn (ha.run pos pins s σ H (fun vs H1 => spF X.K n Fn vs H1 Q E0) I ⟨g, F0, env, s0, ds, s1, st, q, fun vs F1 H1 x1 b1 r1 => ?_⟩) ?_
    · exact ⟨g.ft, F1, s1, ds, d, s', by rw [r1.length, hal _ _ _ _ q, hn], b1, r1, hf, fun v F2 H2 x2 b2 r2 => kk v F2 H2 (x1.trans x2 b1) b2 r2⟩
    · rintro us s2 ⟨vs, H1, I1, rv, want⟩
      refine ⟨I1.kIn, run_g (ar := ⟨[], []⟩) F hr hgd I1 rv (fun hl => ?_) want⟩
      have z := hb s2 us I1.kIn (by rw [List.append_nil]; exact hl)
      rwa [List.append_nil] at z
  · cases hf
/-- the items at these places -/
def permL {α : Type} (ix : List Nat) (xs : List α) : List α := ix.filterMap fun i => xs[i]?
theorem permL_vals (ix : List Nat) {vs : List V} {us : List Value} (r : Vals vs us) : Vals (permL ix vs) (permL ix us) := by
  induction ix with
  | nil => exact .nil
  | cons i ix ih =>
    unfold permL at ih ⊢
    cases q : vs[i]? with
    | none =>
      rw [List.filterMap_cons_none q, List.filterMap_cons_none (r.none_of q)]
      exact ih
    | some v =>
      obtain ⟨u, e, rv⟩ := r.get q
      rw [List.filterMap_cons_some q, List.filterMap_cons_some e]
      exact .cons rv ih
theorem permL_reps {K : PySem.W.Frag} {F : Hp} (ix : List Nat) {vs : List V} {ds : List Dt} (r : Reps K F vs ds) : Reps K F (permL ix vs) (permL ix ds) := by
  induction ix with
  | nil => exact .nil
  | cons i ix ih =>
    unfold permL at ih ⊢
    cases q : ds[i]? with
    | none =>
      have e : vs[i]? = none := by
        rw [List.getElem?_eq_none_iff] at q ⊢
        rw [r.length]; exact q
      rw [List.filterMap_cons_none q, List.filterMap_cons_none e]
      exact ih
    | some v =>
      obtain ⟨u, e, rv⟩ := r.get q
      rw [List.filterMap_cons_some q, List.filterMap_cons_some e]
      exact .cons rv ih
theorem pk_imp {t t' : TA} (h : PK X kws t) (k : ∀ σ H Q, t' σ H Q → t σ H Q) : PK X kws t' := ⟨fun pos pins s σ H Q I q => h.run pos pins s σ H Q I (k σ H Q q)⟩
theorem kd_nil : PK X [] (tAD X.K O aNil) := pk_imp pk_nil fun σ H Q ⟨g, F, env, s, ds, s', st, hf, k⟩ => by
  cases hf
  exact k [] F H Go.refl st.bs .nil
theorem kd_cons {nm : Option Str} {fe : Fe} (he : PE X e (tD X.K O fe)) (hr : PK X kws (tAD X.K O fk)) : PK X (⟨nm, e, kpos⟩ :: kws) (tAD X.K O (aCons fe fk)) := pk_imp (pk_cons he hr) fun σ H Q ⟨g, F, env, s, ds, s', st, hf, k⟩ => by
  obtain ⟨x, s1, xs, q1, q2, rfl⟩ := aCons_some hf
  exact ⟨g, F, env, s, x, s1, st, q1, fun v F1 H1 x1 b1 r1 => ⟨g, F1, env, s1, xs, s', st.step x1 b1, q2, fun vs F2 H2 x2 b2 r2 => k (v :: vs) F2 H2 (x1.trans x2 b1) b2 (.cons (Rep.mono x2.sam _ _ r1) r2)⟩⟩
/-- f(k = v, ..): all by name; ix: where each parameter's value stands among them -/
theorem d_callK (F : FnG X.prog X.w X.K X.mg X.base k f fd ps (spF X.K n Fn)) (hr : Room k X.A) (hgd : X.A.guards = some []) (hg : Gl X x) (hm : X.mg x = some (.ref f)) (hk : PySem.W.keepIn X.K (.ref f) = true) (ix : List Nat)
    (hb : ∀ (s : Shared) (ws : List Value), ws.length = kws.length → BindsTo s fd ⟨[], ks.zip ws⟩ (ps.zip (permL ix ws)))
    (hkw : PK X kws (tAD X.K O fk)) (hal : ∀ env s ds s', fk env s = some (ds, s') → ds.length = kws.length) (hix : ∀ ds : List Dt, ds.length = kws.length → (permL ix ds).length = n)
    (hall : (backToKw pos (keywordEach kws X.env)).all (·.1.isSome) = true := by rfl) (hks : (backToKw pos (keywordEach kws X.env)).filterMap (·.1) = ks := by rfl)
    (hdb : (x == ("__debug__" : Str)) = false := by decide) (hpl : (backToKw pos (keywordEach kws X.env)).any (·.1.isNone) = false := by rfl) :
    PE X (.Call (.Name x p) [] kws pos) (tD X.K O (callF (fun ds s => Fn (permL ix ds) s) fk)) := by
  refine ⟨fun pins s σ H Q I ⟨g, F0, env, s0, d, s', st, hf, kk⟩ => ?_⟩
  unfold callF at hf
  split at hf
  · rename_i ds s1 q
    refine wpAny_Call_Name_kw (ld_glob I hg hm ?_ hdb)
    refine PySem.W.callWith_KW0 (h₀ := X.base) I.ok.mod.kin hk hall ?_ hpl
    refine thn (hkw.run pos pins s σ H (fun vs H1 => vs.length = kws.length ∧ spF X.K n Fn (permL ix vs) H1 Q E0) I ⟨g, F0, env, s0, ds, s1, st, q, fun vs F1 H1 x1 b1 r1 => ⟨by rw [r1.length]; exact hal _ _ _ _ q, ?_⟩⟩) ?_
    · have rp := permL_reps ix r1
      exact ⟨g.ft, F1, s1, permL ix ds, d, s', by rw [rp.length]; exact hix _ (hal _ _ _ _ q), b1, rp, hf, fun v F2 H2 x2 b2 r2 => kk v F2 H2 (x1.trans x2 b1) b2 r2⟩
    · rintro ws s2 ⟨vs, H1, I1, rv, hl, want⟩
      refine ⟨I1.kIn, ?_⟩
      rw [hks]
      exact run_g (ar := ⟨[], []⟩) F hr hgd I1 (permL_vals ix rv) (fun _ => hb s2 ws (by rw [← rv.length]; exact hl)) want
  · cases hf
end

/-! ### repr -/
mutual
def wt : Dt → Nat
  | .non => 4
  | .bl _ => 5
  | .int i => i.natAbs.log2 + 2
  | .str x => 10 * x.length + 2
  | .tup xs => wts xs + 3
  | .lst xs => wts xs + 2
  | _ => 4
def wts : List Dt → Nat
  | [] => 0
  | x :: xs => wt x + 2 + wts xs
end
theorem strOk_lt {x : Str} (h : PyData.strOk x = true) : ∀ c ∈ x.cps.toList, c < 16 ^ 8 := fun c hc => by
  unfold PyData.strOk at h
  rw [← Array.all_toList, List.all_eq_true] at h
  have := of_decide_eq_true (h c hc)
  omega
theorem app_len (a b : Str) : (a ++ b).length = a.length + b.length := by
  show (a.cps ++ b.cps).size = _
  rw [Array.size_append]; rfl
theorem textFrom_le : ∀ (ts : List Str) (k : Nat) (acc : Str), (textFrom k acc ts).length ≤ acc.length + (ts.map fun t => t.length + 2).sum
  | [], k, acc => by show acc.length ≤ _; simp
  | t :: r, k, acc => by
    have ih := textFrom_le r (k + 1) (acc ++ (if k > 0 then ", " else "" : String) ++ t)
    have e : (acc ++ (if k > 0 then ", " else "" : String) ++ t).length ≤ acc.length + 2 + t.length := by
      rw [app_len, app_len]
      have : (Str.ofString (if k > 0 then ", " else "" : String)).length ≤ 2 := by split <;> decide
      omega
    show (textFrom (k + 1) (acc ++ (if k > 0 then ", " else "" : String) ++ t) r).length ≤ _
    rw [List.map_cons, List.sum_cons]
    omega
theorem join_le : ∀ ts : List Str, (Str.join ", " ts).length ≤ (ts.map fun t => t.length + 2).sum
  | [] => by decide
  | [x] => by show x.length ≤ _; simp
  | x :: y :: r => by
    have ih := join_le (y :: r)
    show (x ++ ", " ++ Str.join ", " (y :: r)).length ≤ _
    rw [app_len, app_len, List.map_cons, List.sum_cons]
    have : ((", " : String) : Str).length = 2 := rfl
    omega
mutual
theorem shown_le : ∀ d : Dt, good d = true → (py d).shown.length ≤ wt d
  | .non, _ => by show (Str.ofString "None").length ≤ 4; decide
  | .bl b, _ => by cases b <;> (show (Str.ofString _).length ≤ 5; decide)
  | .int i, _ => by
    show (Str.ofString (toString i)).length ≤ i.natAbs.log2 + 2
    have h := int_text_length_le (a := i) (k := i.natAbs.log2 + 1) (by omega) (by omega)
    have e : (Str.ofString (toString i)).length = (toString i).length := by
      rw [Str.ofString_eq_toList]
      show ((toString i).toList.map Char.toNat).toArray.size = _
      rw [List.size_toArray, List.length_map, String.length_toList]
    omega
  | .str x, h => by
    show (reprText x).length ≤ 10 * x.length + 2
    exact StrLaws.reprText_len x (strOk_lt (by simpa only [good] using h))
  | .tup xs, h => by
    show (tupleText (PyData.shownAll (pys xs))).length ≤ wts xs + 3
    have ih := showns_le xs (by simpa only [good] using h)
    have j := join_le (PyData.shownAll (pys xs))
    unfold tupleText
    rw [app_len, app_len]
    have e1 : ((("(" : String) : Str)).length = 1 := rfl
    have e2 : (Str.ofString (if (PyData.shownAll (pys xs)).length == 1 then ",)" else ")" : String)).length ≤ 2 := by split <;> decide
    omega
  | .lst xs, h => by
    show (listText (PyData.shownAll (pys xs))).length ≤ wts xs + 2
    have ih := showns_le xs (by simpa only [good] using h)
    have j := textFrom_le (PyData.shownAll (pys xs)) 0 "["
    unfold listText
    rw [app_len]
    have e1 : (("[" : String) : Str).length = 1 := rfl
    have e2 : (("]" : String) : Str).length = 1 := rfl
    omega
  | .dct _, h => by simp only [good] at h; exact absurd h Bool.false_ne_true
  | .ref _, h => by simp only [good] at h; exact absurd h Bool.false_ne_true
  | .scr _, h => by simp only [good] at h; exact absurd h Bool.false_ne_true
theorem showns_le : ∀ ds : List Dt, goods ds = true → ((PyData.shownAll (pys ds)).map fun t => t.length + 2).sum ≤ wts ds
  | [], _ => by show 0 ≤ 0; omega
  | d :: ds, h => by
    simp only [goods, Bool.and_eq_true] at h
    have h1 := shown_le d h.1
    have h2 := showns_le ds h.2
    simp only [pys, PyData.shownAll, List.map_cons, List.sum_cons, wts]
    omega
end
def showD (d : Dt) : Str := (py d).shown
def reprG (_ : Sto) : List Dt → Option Dt
  | [x] => if good x = true ∧ wt x ≤ 16777216 ∧ dep x ≤ 60 then some (.str (showD x)) else none
  | _ => none
def rRepr (K : PySem.W.Frag) : List V → Hp → VK → Prop := fun xs H Q => ∃ v d, xs = [v] ∧ Dp K H v (py d) ∧ good d = true ∧ wt d ≤ 16777216 ∧ dep d ≤ 60 ∧ Q (.str (showD d)) H
theorem call_reprD {X : Cx} (hg : X.A.guards = some []) (hu : X.A.units + 64 < cLine) : CallR X (.builtin "repr") (rRepr X.K) := by
  intro pins s σ H xs us Q I r ⟨v, d, e, hd, hgd, hw, hdp, q⟩
  subst e
  cases r with
  | cons rv rn =>
    cases rn
    rename_i u
    have hsz : (py d).shown.length ≤ sizeLine := Nat.le_trans (shown_le d hgd) (by rw [sizeLine_eq]; exact hw)
    obtain ⟨p1, p2, p3, p4, p5⟩ := good_plain d hgd
    obtain ⟨as, rd⟩ := Dp.reads I (py d) v u hd rv
    cases d with
    | non =>
      cases hd; cases rv
      exact P.repr_of_none ⟨.str _, H, I.tok _, ⟨_, rfl⟩, q⟩
    | bl b =>
      cases hd; cases rv
      exact P.repr_of_bool ⟨.str _, H, I.tok _, ⟨_, rfl⟩, q⟩
    | int i =>
      cases hd
      obtain ⟨t, rfl⟩ := rv
      exact P.repr_of_int (by simpa [good] using hgd) ⟨.str _, H, I.tok _, ⟨_, rfl⟩, q⟩
    | str x =>
      cases hd
      obtain ⟨t, rfl⟩ := rv
      exact P.repr_of_str ⟨.str _, H, I.tok _, ⟨_, rfl⟩, q⟩ hsz
    | tup ds =>
      cases hd; cases rv
      refine repr_of_reads' rd p3 (fun z => by rw [p4] at z; cases z) hg (by rw [p5]; omega) (fun _ _ z => z) (fun h' u tk kp => ⟨.str _, H, I.kept kp, ⟨_, rfl⟩, q⟩) hsz
    | lst ds =>
      cases hd; cases rv
      refine repr_of_reads' rd p3 (fun z => by rw [p4] at z; cases z) hg (by rw [p5]; omega) (fun _ _ z => z) (fun h' u tk kp => ⟨.str _, H, I.kept kp, ⟨_, rfl⟩, q⟩) hsz
    | dct ds => simp only [good] at hgd; exact absurd hgd Bool.false_ne_true
    | ref a => simp only [good] at hgd; exact absurd hgd Bool.false_ne_true
    | scr ns => simp only [good] at hgd; exact absurd hgd Bool.false_ne_true
theorem cd_repr {K : PySem.W.Frag} : CallD K (rRepr K) reprG := by
  intro ft F H s vs xs z Q b rx hg k
  unfold reprG at hg
  split at hg
  · split at hg <;> cases hg
    rename_i c
    obtain ⟨v, rfl, r⟩ := pair1 rx
    exact ⟨v, _, rfl, r.dp b.sub (good_plain _ c.1).1, c.1, c.2.1, c.2.2, k _ F H Go.refl b (.str _)⟩
  · cases hg
end DL
namespace DL
open PySem PySem.Spec PyProof.Rows L2

/-! ### dict(..) of pairs -/
def pairsOfD : List Dt → Option (List (Key × Dt))
  | [] => some []
  | .tup [k, d] :: r => match keyOf k, pairsOfD r with
    | some key, some ps => some ((key, d) :: ps)
    | _, _ => none
  | _ => none
def mergeD (ks more : List (Key × Dt)) : List (Key × Dt) := more.foldl (fun acc kv => putD acc kv.1 kv.2) ks
theorem Repk.merge {K : PySem.W.Frag} {F : Hp} : ∀ {more : List (Key × V)} {ds : List (Key × Dt)} {kvs : List (Key × V)} {es : List (Key × Dt)}, Repk K F more ds → Repk K F kvs es → Repk K F (mergeK kvs more) (mergeD es ds)
  | [], [], _, _, _, h => h
  | [], _ :: _, _, _, h, _ => by cases h
  | _ :: _, [], _, _, h, _ => by cases h
  | (k, v) :: more, (k', d) :: ds, _, _, h, h' => by
    cases h with
    | cons h1 h2 =>
      show Repk K F (mergeK (putK _ k v) more) (mergeD (putD _ k d) ds)
      exact Repk.merge h2 (Repk.put _ h1 h')
def toDctG (_ : Sto) : List Dt → Option Dt
  | [.lst xs] => (pairsOfD xs).map fun ps => .dct (mergeD [] ps)
  | [.tup xs] => (pairsOfD xs).map fun ps => .dct (mergeD [] ps)
  | _ => none
section
variable {K : PySem.W.Frag} {F H : Hp}
theorem pairs_V (e : Same F H) : ∀ {vs : List V} {ds : List Dt} {ps : List (Key × Dt)}, Reps K F vs ds → pairsOfD ds = some ps → ∃ (as : List Addr) (kvs : List (Key × V)), vs = as.map V.ref ∧ Paired (fun p kv => SqT K H p [kV kv.1, kv.2]) as kvs ∧ Repk K F kvs ps
  | [], [], _, _, h => by cases h; exact ⟨[], [], rfl, .nil, .nil⟩
  | [], _ :: _, _, h, _ => by cases h
  | _ :: _, [], _, h, _ => by cases h
  | _ :: _, d :: ds, ps, h, q => by
    unfold pairsOfD at q
    split at q
    · rename_i hd; cases hd
    · rename_i k d' r hd
      cases hd
      split at q
      · rename_i key ps' q1 q2
        cases q
        cases h with
        | cons h1 h2 =>
          obtain ⟨as, kvs, rfl, pr, rk⟩ := pairs_V e h2 q2
          cases h1 with
          | tup t1 tp t2 =>
            cases t2 with
            | cons r1 t2 =>
              cases t2 with
              | cons r2 t3 =>
                cases t3
                rename_i a _ _
                have ek := keyOf_V (ft := []) (H := H) (.inl r1) q1
                subst ek
                exact ⟨a :: as, (key, _) :: kvs, rfl, .cons (sqT_same e t1) pr, .cons r2 rk⟩
      · cases q
    · cases q
end
def rDctT (K : PySem.W.Frag) : List V → Hp → VK → Prop := fun xs H Q => ∃ (a : Addr) (ps : List Addr) (kvs : List (Key × V)), xs = [.ref a] ∧ SqT K H a (ps.map V.ref) ∧ ((∃ o, H a = some (.frz o (.tup (ps.map V.ref))) ∧ o.dict = none) ∨ ∃ o, K.lookup a = some o ∧ o.dict = none) ∧
  Paired (fun p kv => SqT K H p [kV kv.1, kv.2]) ps kvs ∧ ∀ p, H p = none → Q (.ref p) (upd H p (.dK (mergeK [] kvs)))
theorem call_dctT {X : Cx} (hc : X.calm = true) : CallR X (.type "dict") (rDctT X.K) := by
  intro pins s σ H xs us Q I r ⟨a, ps, kvs, ex, hq, hpl, hp, q⟩
  subst ex
  obtain ⟨u, eu, rx⟩ := vals1 r
  subst eu
  cases rx
  obtain ⟨its, rv, ht, hz⟩ := I.tuple hq
  have ei := refs_at rv
  subst ei
  rw [List.length_map] at hz
  obtain ⟨prs, rel, hl, hpr⟩ := pairs_of I hp
  obtain ⟨o, ho, hcl, n, hdat⟩ := ht
  have hd : o.dict = none := by
    rcases hpl with ⟨o', e, h'⟩ | ⟨o', e, h'⟩
    · have z := (I.hok a _ e).1
      rw [ho] at z; cases z
      exact h'
    · have z := I.kIn a o' e
      rw [ho] at z; cases z
      exact h'
  -- the pairs' keys as they stand
  have hex : ∃ pv : List (Value × Value), pv.length = ps.length ∧ ∀ (j : Nat) (k v : Value), pv[j]? = some (k, v) → ∃ b, ps[j]? = some b ∧ IsTup s.heap b #[k, v] ∧ ∃ key, prs[j]? = some (key, v) ∧ keyIs key k = true := by
    have gen : ∀ (n : Nat), n ≤ ps.length → ∃ pv : List (Value × Value), pv.length = n ∧ ∀ (j : Nat) (k v : Value), pv[j]? = some (k, v) → ∃ b, ps[j]? = some b ∧ IsTup s.heap b #[k, v] ∧ ∃ key, prs[j]? = some (key, v) ∧ keyIs key k = true := by
      intro n
      induction n with
      | zero => exact fun _ => ⟨[], rfl, fun j k v e => by simp at e⟩
      | succ n ih =>
        intro hn
        obtain ⟨pv, e1, e2⟩ := ih (by omega)
        have hlt : n < prs.length := by omega
        obtain ⟨b, u, f1, f2, f3⟩ := hpr n prs[n] (List.getElem?_eq_getElem hlt)
        refine ⟨pv ++ [(u, prs[n].2)], by rw [List.length_append, e1]; rfl, fun j k v e => ?_⟩
        by_cases c : j < pv.length
        · rw [List.getElem?_append_left c] at e
          exact e2 j k v e
        · rw [List.getElem?_append_right (by omega)] at e
          have hj : j - pv.length = 0 := by
            cases q2 : j - pv.length with
            | zero => rfl
            | succ m => rw [q2] at e; simp at e
          have ej : j = n := by omega
          subst ej
          rw [hj] at e
          cases e
          exact ⟨b, f1, f2, _, List.getElem?_eq_getElem hlt, f3⟩
    exact gen _ (Nat.le_refl _)
  obtain ⟨pv, e1, e2⟩ := hex
  refine PySem.call_dict_pairs (knd := mixKind X.prog X.w) (kvs := prs) (PySem.PairArg.tuple (prog := X.prog) (w := X.w) a (ps.map Value.ref).toArray (fun j => (ps[j]?).getD 0) pv) (I.ok.hd hc) ⟨⟨o, n, ho, hcl, hd, hdat⟩, by simp [e1], fun j k v e => ?_⟩ ⟨by omega, fun i key v e => ?_⟩ (by omega) fun h' tk hd' kp => ?_
  · obtain ⟨b, f1, ⟨ob, f2, f3, f4, f5⟩, _⟩ := e2 j k v e
    have eb : (fun j => (ps[j]?).getD 0) j = b := by
      show (ps[j]?).getD 0 = b
      rw [f1]; rfl
    rw [eb]
    exact ⟨by simp [f1], .inl ⟨ob, f2, f3, f4, f5⟩⟩
  · obtain ⟨b, _, _, key', f1, f2⟩ := e2 i key v e
    exact ⟨key', f1, f2⟩
  · have hm : (s.heap.objs.size == sysModules) = false := beq_eq_false_iff_ne.mpr (Nat.ne_of_gt I.big)
    have hlen : (mergeK [] kvs).length ≤ sizeLine := by
      have z := length_mergeK kvs []
      rw [List.length_nil, Nat.zero_add, rel.length, hl] at z
      omega
    exact ⟨.ref s.heap.objs.size, _, I.laid (t' := tk) (o := .dK (mergeK [] kvs)) (fun b o' e => kp b o' List.not_mem_nil e) (Nat.le_refl _) ⟨hlen, hm, merged [] prs, KV.merge rel .nil, hd'⟩, rfl, q _ (I.hok.fresh (Nat.le_refl _))⟩
def rDctA (K : PySem.W.Frag) : List V → Hp → VK → Prop := fun xs H Q => (∃ (a : Addr) (ps : List Addr) (kvs : List (Key × V)), xs = [.ref a] ∧ SqL K H a (ps.map V.ref) ∧ Paired (fun p kv => SqT K H p [kV kv.1, kv.2]) ps kvs ∧
    ∀ p, H p = none → Q (.ref p) (upd H p (.dK (mergeK [] kvs)))) ∨ rDctT K xs H Q
theorem call_dctA {X : Cx} (hc : X.calm = true) : CallR X (.type "dict") (rDctA X.K) := CallR.or (call_dictP hc) (call_dctT hc)
theorem PlT.same {K : PySem.W.Frag} {F H : Hp} {a : Addr} {ps : List Addr} (e : Same F H) (h : PlT K F a (ps.map V.ref)) (hn : ps ≠ [] ∨ ps = []) : (∃ o, H a = some (.frz o (.tup (ps.map V.ref))) ∧ o.dict = none) ∨ (∃ o, K.lookup a = some o ∧ o.dict = none) := by
  rcases h with ⟨o, h1, h2⟩ | h | ⟨x, r, e1, e2⟩
  · exact .inl ⟨o, e _ _ h1, h2⟩
  · exact .inr h
  · cases ps with
    | nil => cases e1
    | cons p ps =>
      cases e1
      exact absurd rfl (e2 p)
theorem cn_toDct {K : PySem.W.Frag} : CallN K (rDctA K) toDctG := by
  intro ft F H s vs xs z Q b rx hg k
  unfold toDctG at hg
  split at hg
  · rename_i ds
    cases q : pairsOfD ds with
    | none => rw [q] at hg; cases hg
    | some ps =>
      rw [q] at hg
      cases hg
      obtain ⟨v, rfl, r⟩ := pair1 rx
      obtain ⟨a, vs, rfl, e, rs⟩ := r.lst b
      obtain ⟨as, kvs, rfl, pr, rk⟩ := pairs_V b.sub rs q
      exact .inl ⟨a, as, kvs, rfl, SqL.of e, pr, fun p np => k p _ np (.dct (Repk.merge rk .nil))⟩
  · rename_i ds
    cases q : pairsOfD ds with
    | none => rw [q] at hg; cases hg
    | some ps =>
      rw [q] at hg
      cases hg
      obtain ⟨v, rfl, r⟩ := pair1 rx
      rcases r with r | ⟨_, _, _, _, r, _⟩
      · cases r with
        | tup t1 tp t2 =>
          obtain ⟨as, kvs, rfl, pr, rk⟩ := pairs_V b.sub t2 q
          exact .inr ⟨_, as, kvs, rfl, sqT_same b.sub t1, tp.same b.sub (by by_cases c : as = []; exact .inr c; exact .inl c), pr, fun p np => k p _ np (.dct (Repk.merge rk .nil))⟩
      · cases r
  · cases hg

/-! ### displays of dicts -/
def dispL : List (Fe × Fe) → Env → Sto → Option (List (Key × Dt) × Sto)
  | [], _, s => some ([], s)
  | (fk, fv) :: r, env, s => match fk env s with
    | some (k, s1) => match fv env s1 with
      | some (v, s2) => match dispL r env s2 with
        | some (ps, s3) => match keyOf k with
          | some key => some ((key, v) :: ps, s3)
          | none => none
        | none => none
      | none => none
    | none => none
def dispF (l : List (Fe × Fe)) : Fe := fun env s => match dispL l env s with
  | some (ps, s') => if ps.length ≤ 15 then some (.dct (mergeD [] ps), s') else none
  | none => none
theorem kvs_V {K : PySem.W.Frag} {F : Hp} : ∀ {vs : List (V × V)} {ps : List (Key × Dt)}, Paired (fun (a : V × V) (b : Key × Dt) => a.1 = kV b.1 ∧ Rep K F a.2 b.2) vs ps → ∃ kvs : List (Key × V), vs = kvs.map (fun kv => (kV kv.1, kv.2)) ∧ Repk K F kvs ps ∧ kvs.length = ps.length
  | [], [], _ => ⟨[], rfl, .nil, rfl⟩
  | _, _, .cons (a := a) (b := b) h t => by
    obtain ⟨kvs, rfl, rk, hl⟩ := kvs_V t
    obtain ⟨a1, a2⟩ := a
    obtain ⟨b1, b2⟩ := b
    obtain ⟨e, r⟩ := h
    dsimp only at e r
    subst e
    exact ⟨(b1, a2) :: kvs, rfl, .cons r rk, by rw [List.length_cons, List.length_cons, hl]⟩
theorem disp_go {K : PySem.W.Frag} {O : List Nat} : ∀ (l : List (Fe × Fe)) {g : Gd} {F H : Hp} {σ : L2.St} {env : Env} {s s' : Sto} {ps : List (Key × Dt)} {Q : List (V × V) → Hp → Prop}, Stt K g O F H σ env s → dispL l env s = some (ps, s') →
    (∀ vs F' H', Go g.ft F H F' H' → Bs K g.ft F' H' s' → Paired (fun (a : V × V) (b : Key × Dt) => a.1 = kV b.1 ∧ Rep K F' a.2 b.2) vs ps → Q vs H') → tPairs (l.map fun p => (tD K O p.1, tD K O p.2)) σ H Q
  | [], g, F, H, σ, env, s, s', ps, Q, st, h, k => by
    cases h
    exact k [] F H Go.refl st.bs .nil
  | (fk, fv) :: r, g, F, H, σ, env, s, s', ps, Q, st, h, k => by
    unfold dispL at h
    split at h
    · rename_i kd s1 q1
      split at h
      · rename_i v s2 q2
        split at h
        · rename_i ps' s3 q3
          split at h
          · rename_i key q4
            cases h
            refine ⟨g, F, env, s, kd, s1, st, q1, fun u F1 H1 x1 b1 r1 => ⟨g, F1, env, s1, v, s2, st.step x1 b1, q2, fun w F2 H2 x2 b2 r2 => ?_⟩⟩
            refine disp_go r ((st.step x1 b1).step x2 b2) q3 fun vs F3 H3 x3 b3 pr => ?_
            have ek := keyOf_V (ft := []) (H := H1) (.inl r1) q4
            exact k ((u, w) :: vs) F3 H3 ((x1.trans x2 b1).trans x3 b2) b3 (.cons ⟨ek, Rep.mono x3.sam _ _ r2⟩ pr)
          · cases h
        · cases h
      · cases h
    · cases h
theorem n_disp {X : Cx} {O : List Nat} {pos : Pos} {keys : List (Option Expr)} {values : List Expr} (l : List (Fe × Fe)) (h : PPs X pos keys values (l.map fun p => (tD X.K O p.1, tD X.K O p.2))) (hall : keys.all (·.isSome) = true := by rfl) (hl : keys.length = values.length := by rfl) (h0 : keys ≠ [] := by intro z; cases z)
    (h15 : keys.length ≤ 15 := by decide) : PE X (.Dict keys values pos) (tN X.K O (dispF l)) := pe_imp (pe_disp h hall hl h0 h15) fun σ H Q ⟨g, F, env, s, d, s', st, hf, k⟩ => by
  unfold dispF at hf
  split at hf
  · rename_i ps s1 q
    split at hf <;> cases hf
    rename_i hz
    intro p np
    have nft : p ∉ g.ft := st.bs.nofree np
    have nF : F p = none := (Go.made (o := .dK []) st.bs np).2.2
    have nh : g.he p = none := st.go.free st.bs np
    have nO : ∀ j, j ∈ O → σ[j]? ≠ some (some (.ref p)) := fun j hj e => by
      obtain ⟨p2, o2, d2, g1, _, g3, _⟩ := st.sl.ow j hj
      rw [e] at g1; cases g1
      rw [np] at g3; cases g3
    have st1 := st.apart (D := p) (o := .dK []) nF nft nh nO
    refine disp_go l st1 q fun vs F2 H2 x2 b2 pr => ?_
    have e2 : H2 p = some (.dK []) := x2.ext p _ upd_same nft
    obtain ⟨kvs, rfl, rk, hl2⟩ := kvs_V pr
    refine ⟨e2, kvs, rfl, by omega, ?_⟩
    have n2 : F2 p = none := keepsD x2 nF upd_same
    have st2 := (st1.step x2 b2).apart (D := p) (o := .dK (mergeK [] kvs)) n2 nft nh nO
    refine k p _ F2 _ ⟨fun c u e nc => ?_, x2.sam, fun c u e => ?_⟩ st2.bs np n2 upd_same (.dct (Repk.merge rk .nil))
    · rw [upd_ne (ne_of_none e np)]
      exact x2.ext c u (by rw [upd_ne (ne_of_none e np)]; exact e) nc
    · rcases x2.new c u e with z | z
      · exact .inl z
      · by_cases c2 : c = p
        · subst c2; exact .inr np
        · rw [upd_ne c2] at z; exact .inr z
  · cases hf
theorem pp_cons_d {X : Cx} {O : List Nat} {fk fv : Fe} {t t' : TE} (h : t = tD X.K O fk) (h' : t' = tD X.K O fv) : (t, t') = (tD X.K O fk, tD X.K O fv) := by rw [h, h']
/-- {} -/
def emptyG : Fe := fun _ s => some (.dct [], s)
theorem n_dnil {X : Cx} {O : List Nat} {pos : Pos} : PE X (.Dict [] [] pos) (tN X.K O emptyG) := pe_imp pe_dnewK fun σ H Q ⟨g, F, env, s, d, s', st, hf, k⟩ => by
  cases hf
  intro p np
  obtain ⟨x1, b1, n1⟩ := Go.made (o := .dK []) st.bs np
  exact k p _ F _ x1 b1 np n1 upd_same (.dct .nil)

/-! ### isinstance with a built-in class that is written -/
def tyD : Dt → Option String
  | .non => some "NoneType"
  | .bl _ => some "bool"
  | .int _ => some "int"
  | .str _ => some "str"
  | .tup _ => some "tuple"
  | .lst _ => some "list"
  | .dct _ => some "dict"
  | _ => none
def isiG (T : String) (_ : Sto) (x : Dt) : Option Dt := match tyD x with
  | some n => (kitB n T).map Dt.bl
  | none => none
theorem ty_V {K : PySem.W.Frag} {ft : List Addr} {F H : Hp} {s : Sto} {v : V} {x : Dt} {n : String} (b : Bs K ft F H s) (r : RepB K ft F H v x) (h : tyD x = some n) : TyX K H v (.type n) := by
  cases x <;> simp only [tyD] at h <;> cases h
  · obtain rfl := r.non; exact .base .non
  · obtain rfl := r.bl; exact .base (.bl _)
  · obtain rfl := r.int; exact .base (.int _)
  · obtain rfl := r.str; exact .base (.str _)
  · rcases r with r | ⟨_, _, _, _, r, _⟩
    · cases r with
      | tup t1 _ _ =>
        rcases t1 with (t1 | ⟨o, t1⟩) | ⟨o, its, m, t1, t2, _⟩
        · exact .base (.tup (b.sub _ _ t1))
        · exact .fTuple (b.sub _ _ t1)
        · exact .kTuple t1 t2
    · cases r
  · obtain ⟨a, vs, rfl, e, _⟩ := r.lst b
    exact .base (.lst e)
  · obtain ⟨a, vs, rfl, e, _⟩ := r.dct b
    rcases e with e | ⟨o, e⟩
    · exact .base (.dK e)
    · exact .fDict e
theorem d_isi {X : Cx} {O : List Nat} {a : Expr} {fa : Fe} {T : String} {x tn : Str} {p p2 pos : Pos} (hg : Gl X x) (hm : X.mg x = none) (hv : bootBuiltins x = some (.builtin "isinstance")) (hg2 : Gl X tn) (hm2 : X.mg tn = none) (hv2 : bootBuiltins tn = some (.type T)) (ha : PE X a (tB X.K O fa))
    (hn : x ≠ "__name__" := by decide) (hdb : (x == ("__debug__" : Str)) = false := by decide) (hn2 : tn ≠ "__name__" := by decide) (hdb2 : (tn == ("__debug__" : Str)) = false := by decide)
    (he : starEach [a, .Name tn p2] X.env = (false, eval a X.env) :: starEach [.Name tn p2] X.env := by rfl) (he2 : starEach [.Name tn p2] X.env = (false, eval (.Name tn p2) X.env) :: starEach [] X.env := by rfl)
    (hpl : (backTo pos (starEach [.Name tn p2] X.env)).any (·.1) = false := by rfl) : PE X (.Call (.Name x p) [a, .Name tn p2] [] pos) (tD X.K O (bind1 fa (isiG T))) :=
  pe_imp (pe_callB call_isi hg hm hv (pa_cons ha (pa_cons (pe_bltn (v := .ty T) hg2 hm2 hv2 rfl hn2 hdb2) pa_nil he2) he) hn hdb he hpl) fun σ H Q ⟨g, F, env, s, d, s', st, hf, k⟩ => by
    obtain ⟨y, q1, q2⟩ := bind1_some hf
    unfold isiG at q2
    split at q2
    · rename_i n q3
      cases q4 : kitB n T with
      | none => rw [q4] at q2; cases q2
      | some bb =>
        rw [q4] at q2
        cases q2
        exact ⟨g, F, env, s, y, s', st, q1, fun v F1 H1 x1 b1 r1 => ⟨v, .ty T, .type n, .type T, bb, rfl, .ty T, ty_V b1 r1 q3, kit_ty q4, k _ F1 H1 x1 b1 (.bl _)⟩⟩
    · cases q2
end DL
namespace DL
open PySem PySem.Spec PyProof.Rows L2

/-! ### order of texts -/
def leS (a b : Str) : Prop := ¬ b.cps.toList < a.cps.toList
instance (a b : Str) : Decidable (leS a b) := inferInstanceAs (Decidable (¬ _))
theorem leS_trans {a b c : Str} (h : leS a b) (h' : leS b c) : leS a c := List.le_trans h h'
theorem leS_total (a b : Str) : leS a b ∨ leS b a := List.le_total a.cps.toList b.cps.toList
theorem leS_anti {a b : Str} (h : leS a b) (h' : leS b a) : a = b := by
  have e : a.cps.toList = b.cps.toList := List.le_antisymm h h'
  obtain ⟨⟨a⟩⟩ := a
  obtain ⟨⟨b⟩⟩ := b
  have e' : a = b := e
  rw [e']
/-- a list with keys, put in order -/
def insK {α : Type} (k : α → Str) (x : α) : List α → List α
  | [] => [x]
  | y :: r => if leS (k x) (k y) then x :: y :: r else y :: insK k x r
def sortK {α : Type} (k : α → Str) : List α → List α
  | [] => []
  | x :: r => insK k x (sortK k r)
section
variable {α : Type} {k : α → Str}
theorem insK_perm (x : α) : ∀ l : List α, (insK k x l).Perm (x :: l)
  | [] => .refl _
  | y :: r => by
    unfold insK
    split
    · exact .refl _
    · exact ((insK_perm x r).cons y).trans (List.Perm.swap x y r)
theorem sortK_perm : ∀ l : List α, (sortK k l).Perm l
  | [] => .refl _
  | x :: r => (insK_perm x _).trans ((sortK_perm r).cons x)
theorem insK_sorted (x : α) : ∀ l : List α, l.Pairwise (fun a b => leS (k a) (k b)) → (insK k x l).Pairwise (fun a b => leS (k a) (k b))
  | [], _ => List.pairwise_singleton _ _
  | y :: r, h => by
    obtain ⟨h1, h2⟩ := List.pairwise_cons.mp h
    unfold insK
    split
    · rename_i c
      exact List.pairwise_cons.mpr ⟨fun b hb => (List.mem_cons.mp hb).elim (fun e => e ▸ c) fun e => leS_trans c (h1 b e), h⟩
    · rename_i c
      have c' : leS (k y) (k x) := (leS_total (k x) (k y)).elim (fun z => absurd z c) fun z => z
      refine List.pairwise_cons.mpr ⟨fun b hb => ?_, insK_sorted x r h2⟩
      rcases List.mem_cons.mp ((insK_perm x r).mem_iff.mp hb) with e | e
      · subst e; exact c'
      · exact h1 b e
theorem sortK_sorted : ∀ l : List α, (sortK k l).Pairwise (fun a b => leS (k a) (k b))
  | [] => .nil
  | x :: r => insK_sorted x _ (sortK_sorted r)
/-- two orderly arrangements are one, where equal keys are of equal items -/
theorem sorted_uniq : ∀ {xs ys : List α}, xs.Perm ys → xs.Pairwise (fun a b => leS (k a) (k b)) → ys.Pairwise (fun a b => leS (k a) (k b)) → (∀ a b, a ∈ xs → b ∈ xs → k a = k b → a = b) → xs = ys
  | [], ys, p, _, _, _ => (List.Perm.nil_eq p)
  | x :: xs, [], p, _, _, _ => absurd p.length_eq (by simp)
  | x :: xs, y :: ys, p, h1, h2, hi => by
    obtain ⟨a1, a2⟩ := List.pairwise_cons.mp h1
    obtain ⟨b1, b2⟩ := List.pairwise_cons.mp h2
    have hy : y ∈ x :: xs := p.mem_iff.mpr List.mem_cons_self
    have hx : x ∈ y :: ys := p.mem_iff.mp List.mem_cons_self
    have e : x = y := by
      rcases List.mem_cons.mp hy with e | hy'
      · exact e.symm
      · rcases List.mem_cons.mp hx with e | hx'
        · exact e
        · exact hi x y List.mem_cons_self hy (leS_anti (a1 y hy') (b1 x hx'))
    subst e
    rw [sorted_uniq (List.Perm.cons_inv p) a2 b2 fun a b ha hb => hi a b (List.mem_cons_of_mem _ ha) (List.mem_cons_of_mem _ hb)]
theorem sortK_eq {xs ys : List α} (p : ys.Perm xs) (h : ys.Pairwise (fun a b => leS (k a) (k b))) (hi : ∀ a b, a ∈ xs → b ∈ xs → k a = k b → a = b) : ys = sortK k xs :=
  sorted_uniq (p.trans (sortK_perm xs).symm) h (sortK_sorted xs) fun a b ha hb => hi a b (p.mem_iff.mp ha) (p.mem_iff.mp hb)
theorem sortK_map {β : Type} {f : β → α} (l : List β) : (sortK (fun b => k (f b)) l).map f = sortK k (l.map f) := by
  have ins : ∀ (x : β) (l : List β), (insK (fun b => k (f b)) x l).map f = insK k (f x) (l.map f) := by
    intro x l
    induction l with
    | nil => rfl
    | cons y r ih =>
      unfold insK
      rw [List.map_cons]
      dsimp only
      split
      · rfl
      · rw [List.map_cons, ih]
  induction l with
  | nil => rfl
  | cons x r ih =>
    show (insK _ x (sortK _ r)).map f = insK k (f x) (sortK k (r.map f))
    rw [ins, ih]
end
/-- sorted of texts -/
def sortS (xs : List Str) : List Str := sortK (fun x => x) xs
theorem risingS_pw : ∀ (l : List Str) (p : Str), risingS p l = true → (p :: l).Pairwise leS
  | [], p, _ => List.pairwise_singleton _ _
  | x :: r, p, h => by
    unfold risingS at h
    rw [Bool.and_eq_true] at h
    have ih := risingS_pw r x h.2
    have hp : leS p x := by
      have z := h.1
      rw [Bool.not_eq_true', ltCps_eq] at z
      exact of_decide_eq_false z
    refine List.pairwise_cons.mpr ⟨fun b hb => ?_, ih⟩
    rcases List.mem_cons.mp hb with e | e
    · subst e; exact hp
    · exact leS_trans hp ((List.pairwise_cons.mp ih).1 b e)
theorem sortedS_pw {l : List Str} (h : sortedS l = true) : l.Pairwise leS := by
  cases l with
  | nil => exact .nil
  | cons x r => exact risingS_pw r x h
def rSortedTA (K : PySem.W.Frag) : List V → Hp → VK → Prop := fun vs H Q => ∃ (a : Addr) (xs : List Str), vs = [V.ref a] ∧ SqL K H a (xs.map V.str) ∧
  ∀ (ys : List Str) (p : Addr), ys.Perm xs → sortedS ys = true → H p = none → Q (.ref p) (upd H p (.lst (ys.map V.str)))
def rSortedIA (K : PySem.W.Frag) : List V → Hp → VK → Prop := fun vs H Q => ∃ (a : Addr) (xs : List Int), vs = [V.ref a] ∧ SqL K H a (xs.map V.int) ∧
  ∀ (ys : List Int) (p : Addr), ys.Perm xs → ys.Pairwise (· ≤ ·) → H p = none → Q (.ref p) (upd H p (.lst (ys.map V.int)))
theorem cr_sortedTA {X : Cx} : CallR X (.builtin "sorted") (rSortedTA X.K) := by
  intro pins s σ H vs us Q I r h
  obtain ⟨a, xs, rfl, hs, q⟩ := h
  obtain ⟨its, rv, hl, hz⟩ := I.list hs
  rw [Vals.ref1 r]
  have hlen0 := rv.length
  refine PyProof.Rows.sorted_strsAny hl.isList rv.strs (by rw [← hlen0]; exact hz) fun out ys h1 h2 h3 => ?_
  obtain ⟨ep, he'⟩ := PyProof.Rows.sortedAll_at s.heap its out
  have hlen : (ys.map V.str).length ≤ sizeLine := by rw [List.length_map, h2.length_eq]; rw [List.length_map] at hz; exact hz
  exact ⟨.ref _, upd H (s.heap.objs.size + 1) (.lst (ys.map V.str)), I.laid (t' := s.toks) (fun _ _ => PyProof.Rows.sortedAll_old) (Nat.le_succ _) ⟨hlen, out.toList, ep, vals_of_strs h1, he'⟩, rfl, q ys _ h2 h3 (I.hok.fresh (Nat.le_succ _))⟩
theorem cr_sortedIA {X : Cx} : CallR X (.builtin "sorted") (rSortedIA X.K) := by
  intro pins s σ H vs us Q I r h
  obtain ⟨a, xs, rfl, hs, q⟩ := h
  obtain ⟨its, rv, hl, hz⟩ := I.list hs
  rw [Vals.ref1 r]
  have hlen0 := rv.length
  refine PyProof.Rows.sorted_intsAny hl.isList rv.ints (by rw [← hlen0]; exact hz) fun out ys h1 h2 h3 => ?_
  obtain ⟨ep, he'⟩ := PyProof.Rows.sortedAll_at s.heap its out
  have hlen : (ys.map V.int).length ≤ sizeLine := by rw [List.length_map, h2.length_eq]; rw [List.length_map] at hz; exact hz
  exact ⟨.ref _, upd H (s.heap.objs.size + 1) (.lst (ys.map V.int)), I.laid (t' := s.toks) (fun _ _ => PyProof.Rows.sortedAll_old) (Nat.le_succ _) ⟨hlen, out.toList, ep, vals_of_ints h1, he'⟩, rfl, q ys _ h2 h3 (I.hok.fresh (Nat.le_succ _))⟩
def sortedStrG (_ : Sto) : List Dt → Option Dt
  | [.lst xs] => match strsOf xs with
    | some ys => some (.lst ((sortS ys).map .str))
    | none => none
  | _ => none
theorem cn_sortedStr {K : PySem.W.Frag} : CallN K (rSortedTA K) sortedStrG := by
  intro ft F H s vs xs z Q b rx hg k
  unfold sortedStrG at hg
  split at hg
  · split at hg
    · rename_i ys q
      cases hg
      obtain ⟨v, rfl, r⟩ := pair1 rx
      obtain ⟨a, vs, rfl, e, rs⟩ := r.lst b
      rw [strs_map q] at rs
      rw [rs.of_strs] at e
      refine ⟨a, ys, rfl, SqL.of e, fun zs p pm so np => k p _ np (.lst ?_)⟩
      have ez : zs = sortS ys := sortK_eq pm (sortedS_pw so) fun a b _ _ h => h
      rw [ez]
      exact Reps.strs _
    · cases hg
  · cases hg
/-- sorted of numbers -/
def insI (x : Int) : List Int → List Int
  | [] => [x]
  | y :: r => if x ≤ y then x :: y :: r else y :: insI x r
def sortI : List Int → List Int
  | [] => []
  | x :: r => insI x (sortI r)
theorem insI_perm (x : Int) : ∀ l : List Int, (insI x l).Perm (x :: l)
  | [] => .refl _
  | y :: r => by
    unfold insI
    split
    · exact .refl _
    · exact ((insI_perm x r).cons y).trans (List.Perm.swap x y r)
theorem sortI_perm : ∀ l : List Int, (sortI l).Perm l
  | [] => .refl _
  | x :: r => (insI_perm x _).trans ((sortI_perm r).cons x)
theorem insI_sorted (x : Int) : ∀ l : List Int, l.Pairwise (· ≤ ·) → (insI x l).Pairwise (· ≤ ·)
  | [], _ => List.pairwise_singleton _ _
  | y :: r, h => by
    obtain ⟨h1, h2⟩ := List.pairwise_cons.mp h
    unfold insI
    split
    · rename_i c
      exact List.pairwise_cons.mpr ⟨fun b hb => (List.mem_cons.mp hb).elim (fun e => e ▸ c) fun e => Int.le_trans c (h1 b e), h⟩
    · rename_i c
      refine List.pairwise_cons.mpr ⟨fun b hb => ?_, insI_sorted x r h2⟩
      rcases List.mem_cons.mp ((insI_perm x r).mem_iff.mp hb) with e | e
      · subst e; omega
      · exact h1 b e
theorem sortI_sorted : ∀ l : List Int, (sortI l).Pairwise (· ≤ ·)
  | [] => .nil
  | x :: r => insI_sorted x _ (sortI_sorted r)
theorem sortI_eq {xs ys : List Int} (p : ys.Perm xs) (h : ys.Pairwise (· ≤ ·)) : ys = sortI xs :=
  List.Perm.eq_of_pairwise (fun a b _ _ h1 h2 => Int.le_antisymm h1 h2) h (sortI_sorted xs) (p.trans (sortI_perm xs).symm)
def intsOf : List Dt → Option (List Int)
  | [] => some []
  | .int x :: r => (intsOf r).map (x :: ·)
  | _ => none
theorem ints_map : ∀ {ds : List Dt} {bs : List Int}, intsOf ds = some bs → ds = bs.map Dt.int
  | [], _, h => by cases h; rfl
  | d :: r, bs, h => by
    cases d <;> simp only [intsOf] at h <;> try (cases h; done)
    rename_i b
    cases q : intsOf r with
    | none => rw [q] at h; cases h
    | some cs =>
      rw [q] at h
      cases h
      rw [ints_map q]
      rfl
def sortedIntG (_ : Sto) : List Dt → Option Dt
  | [.lst xs] => match intsOf xs with
    | some ys => some (.lst ((sortI ys).map .int))
    | none => none
  | _ => none
theorem cn_sortedInt {K : PySem.W.Frag} : CallN K (rSortedIA K) sortedIntG := by
  intro ft F H s vs xs z Q b rx hg k
  unfold sortedIntG at hg
  split at hg
  · split at hg
    · rename_i ys q
      cases hg
      obtain ⟨v, rfl, r⟩ := pair1 rx
      obtain ⟨a, vs, rfl, e, rs⟩ := r.lst b
      rw [ints_map q] at rs
      rw [rs.of_ints] at e
      refine ⟨a, ys, rfl, SqL.of e, fun zs p pm so np => k p _ np (.lst ?_)⟩
      rw [sortI_eq pm so]
      exact Reps.ints _
    · cases hg
  · cases hg

/-! ### sorted of tuples with unlike texts ahead -/
theorem perm_map_inv {α β : Type} {f : α → β} : ∀ {ys zs : List β}, ys.Perm zs → ∀ {xs : List α}, zs = xs.map f → ∃ xs' : List α, xs'.Perm xs ∧ ys = xs'.map f := by
  intro ys zs p
  induction p with
  | nil => intro xs e; cases xs with
    | nil => exact ⟨[], .refl _, rfl⟩
    | cons x xs => cases e
  | cons a p ih =>
    intro xs e
    cases xs with
    | nil => cases e
    | cons x xs =>
      cases e
      obtain ⟨xs', h1, h2⟩ := ih rfl
      exact ⟨x :: xs', h1.cons x, by rw [h2]; rfl⟩
  | swap a b l =>
    intro xs e
    match xs, e with
    | x :: y :: xs, e =>
      cases e
      exact ⟨y :: x :: xs, List.Perm.swap x y xs, rfl⟩
  | trans p1 p2 ih1 ih2 =>
    intro xs e
    obtain ⟨x1, h1, h2⟩ := ih2 e
    obtain ⟨x2, h3, h4⟩ := ih1 h2
    exact ⟨x2, h3.trans h1, h4⟩
section
variable {α : Type} (ad : α → Addr) (ky : α → Str)
@[reducible] def tabKind (es : List α) : KeyKind where
  toKeyOrd := strKind.toKeyOrd
  keyOf := fun v => match v with
    | .ref a => (es.find? fun e => decide (ad e = a)).map fun e => (ky e).cps.toList
    | _ => none
  dflt := []
variable {ad ky}
theorem tab_some {es : List α} {v : Value} {c : List Nat} (h : (tabKind ad ky es).keyOf v = some c) : ∃ e, e ∈ es ∧ v = .ref (ad e) ∧ c = (ky e).cps.toList := by
  cases v with
  | ref a =>
    have h' : (es.find? fun e => decide (ad e = a)).map (fun e => (ky e).cps.toList) = some c := h
    cases q : es.find? fun e => decide (ad e = a) with
    | none => rw [q] at h'; cases h'
    | some e =>
      rw [q] at h'
      cases h'
      have m := List.mem_of_find?_eq_some q
      have p := List.find?_some q
      have p' : ad e = a := of_decide_eq_true p
      subst p'
      exact ⟨e, m, rfl, rfl⟩
  | _ => exact nomatch (show (none : Option (List Nat)) = some c from h)
theorem tab_has {es : List α} {e : α} (h : e ∈ es) : ∃ c, (tabKind ad ky es).keyOf (.ref (ad e)) = some c := by
  show ∃ c, (es.find? fun e' => decide (ad e' = ad e)).map (fun e => (ky e).cps.toList) = some c
  cases q : es.find? fun e' => decide (ad e' = ad e) with
  | none =>
    have := List.find?_eq_none.mp q e h
    simp at this
  | some e' => exact ⟨_, rfl⟩
def rSortP (K : PySem.W.Frag) : List V → Hp → VK → Prop := fun vs H Q => ∃ (α : Type) (es : List α) (ad : α → Addr) (ky : α → Str) (sv : α → V) (a : Addr), vs = [V.ref a] ∧ SqL K H a (es.map fun e => V.ref (ad e)) ∧ (∀ e, e ∈ es → SqT K H (ad e) [.str (ky e), sv e]) ∧
  (∀ e e', e ∈ es → e' ∈ es → ky e = ky e' → e = e') ∧ ∀ (es' : List α) (p : Addr), es'.Perm es → es'.Pairwise (fun x y => leS (ky x) (ky y)) → H p = none → Q (.ref p) (upd H p (.lst (es'.map fun e => V.ref (ad e))))
theorem kat_same {prog : Program} {w : World} {A : Around} {s : Shared} {b fin : Bool} {Q : Bool → Shared → Prop} (hv : ∀ v : Value, (v == v) = true) (h : Q fin s) : ∀ (l : List Value) (i : Nat), PySem.W.KatLex prog w A b fin Q (l.zip l) i s
  | [], i => h
  | v :: l, i => PySem.W.kat_cons (by
    unfold eqBool
    rw [if_pos (hv v)]
    exact wpAny_holding (wpAny_bind (wpAny_rule (wpAny_pure (PySem.W.kat_yes (kat_same hv h l (i + 1)))))))
end
end DL
namespace DL
open PySem PySem.Spec PyProof.Rows L2
section
variable {X : Cx} {O : List Nat} {a b e : Expr} {fa fb f f1 f2 : Fe} {pos : Pos} {L O' : List Nat}
theorem pe_or {t t' : TE} (h : PE X e t) (h' : PE X e t') : PE X e (fun σ H Q => t σ H Q ∨ t' σ H Q) := ⟨fun pins s σ H Q I q => q.elim (h.run pins s σ H Q I) (h'.run pins s σ H Q I)⟩
theorem pt_or {t t' : TT} (h : PT X e t) (h' : PT X e t') : PT X e (fun σ H Q => t σ H Q ∨ t' σ H Q) := ⟨fun pins s σ H Q I q => q.elim (h.run pins s σ H Q I) (h'.run pins s σ H Q I)⟩
/-- of two readings the one that has an answer -/
theorem d_two (h1 : PE X e (tD X.K O f1)) (h2 : PE X e (tD X.K O f2)) (hk : ∀ env s r, f env s = some r → f1 env s = some r ∨ f2 env s = some r) : PE X e (tD X.K O f) := pe_imp (pe_or h1 h2) fun σ H Q ⟨g, F, env, s, d, s', st, hf, k⟩ =>
  (hk _ _ _ hf).elim (fun q => .inl ⟨g, F, env, s, d, s', st, q, k⟩) fun q => .inr ⟨g, F, env, s, d, s', st, q, k⟩
theorem t_two {t1 t2 t : Ft} (h1 : PT X e (tT X.K O t1)) (h2 : PT X e (tT X.K O t2)) (hk : ∀ env s r, t env s = some r → t1 env s = some r ∨ t2 env s = some r) : PT X e (tT X.K O t) := pt_imp (pt_or h1 h2) fun σ H Q ⟨g, F, env, s, d, s', st, hf, k⟩ =>
  (hk _ _ _ hf).elim (fun q => .inl ⟨g, F, env, s, d, s', st, q, k⟩) fun q => .inr ⟨g, F, env, s, d, s', st, q, k⟩
theorem bind2_two {g g1 g2 : Sto → Dt → Dt → Option Dt} (h : ∀ s x y z, g s x y = some z → g1 s x y = some z ∨ g2 s x y = some z) (env : Env) (s : Sto) (r : Dt × Sto) (hf : bind2 fa fb g env s = some r) : bind2 fa fb g1 env s = some r ∨ bind2 fa fb g2 env s = some r := by
  obtain ⟨d, s'⟩ := r
  obtain ⟨x, s1, y, q1, q2, q3⟩ := bind2_some hf
  unfold bind2
  rw [q1]
  simp only [Option.bind_eq_bind, Option.bind_some, q2]
  rcases h _ _ _ _ q3 with z | z
  · left; rw [z]; rfl
  · right; rw [z]; rfl
/-! ### + of all kinds -/
theorem catG_lst (s : Sto) (x y z : Dt) (h : catG s x y = some z) : ∃ xs, z = .lst xs := by
  unfold catG at h
  split at h
  · split at h <;> cases h
    exact ⟨_, rfl⟩
  · cases h
def addAll (s : Sto) (x y : Dt) : Option Dt := match x, y with
  | .lst a, .lst b => catG s (.lst a) (.lst b)
  | x, y => addG s x y
theorem opd_addAll {K : PySem.W.Frag} : OpD K (fun x y H Q => rAddA K x y H Q ∨ rCat x y H Q) addAll := by
  intro ft F H s v w x y z Q b rx ry hg k
  unfold addAll at hg
  split at hg
  · exact .inr (opn_cat.d catG_lst ft F H s v w _ _ z Q b rx ry hg k)
  · exact .inl (opd_add ft F H s v w _ _ z Q b rx ry hg k)
theorem d_addA (ha : PE X a (tB X.K O fa)) (hb : PE X b (tB X.K O fb)) : PE X (.BinOp a .Add b pos) (tD X.K O (bind2 fa fb addAll)) := d_bin (OpR.or op_addA op_cat) opd_addAll ha hb
/-! ### a[i] of all kinds -/
def ixA (s : Sto) (x y : Dt) : Option Dt := match dctOf s x with
  | some _ => dgetG s x y
  | none => ixG s x y
theorem d_ixA {i : Expr} (hu : X.A.units + 1 < cLine) (ha : PE X a (tB X.K O fa)) (hb : PE X i (tB X.K O fb)) (hs : PlainIx i := by intro _ _; rfl) (hs2 : NoSl i := by intro _ _; rfl) : PE X (.Subscript a i pos) (tD X.K O (bind2 fa fb ixA)) :=
  d_two (d_ix ha hb hs) (d_dget hu ha hb hs2) (bind2_two fun s x y z h => by
    unfold ixA at h
    split at h
    · exact .inr h
    · exact .inl h)
/-! ### in of all kinds -/
def inA (s : Sto) (y x : Dt) : Option Dt := match dctOf s x with
  | some _ => dinG s y x
  | none => inG s y x
def notinA (s : Sto) (y x : Dt) : Option Dt := match dctOf s x with
  | some _ => dnotinG s y x
  | none => notInG s y x
theorem asB_two {f : Fe} (h : ∀ env s r, f env s = some r → f1 env s = some r ∨ f2 env s = some r) (env : Env) (s : Sto) (r : Bool × Sto) (hf : asB f env s = some r) : asB f1 env s = some r ∨ asB f2 env s = some r := by
  obtain ⟨b, s'⟩ := r
  have q := asB_some hf
  unfold asB
  rcases h _ _ _ q with z | z
  · left; rw [z]
  · right; rw [z]
theorem t_inA (hu : X.A.units + 1 < cLine) (ha : PE X a (tB X.K O fa)) (hb : PE X b (tB X.K O fb)) (hm : behindInMarks .In b = false := by rfl) : PT X (.Compare a [.In] [b] pos) (tT X.K O (asB (bind2 fa fb inA))) :=
  t_two (t_in ha hb hm) (t_din hu ha hb hm) (asB_two (bind2_two fun s x y z h => by
    unfold inA at h
    split at h
    · exact .inr h
    · exact .inl h))
theorem t_notinA (hu : X.A.units + 1 < cLine) (ha : PE X a (tB X.K O fa)) (hb : PE X b (tB X.K O fb)) (hm : behindInMarks .NotIn b = false := by rfl) : PT X (.Compare a [.NotIn] [b] pos) (tT X.K O (asB (bind2 fa fb notinA))) :=
  t_two (t_notIn ha hb hm) (t_dnotin hu ha hb hm) (asB_two (bind2_two fun s x y z h => by
    unfold notinA at h
    split at h
    · exact .inr h
    · exact .inl h))
theorem d_inA (hu : X.A.units + 1 < cLine) (ha : PE X a (tB X.K O fa)) (hb : PE X b (tB X.K O fb)) (hm : behindInMarks .In b = false := by rfl) : PE X (.Compare a [.In] [b] pos) (tD X.K O (bind2 fa fb inA)) :=
  d_two (d_in ha hb hm) (d_din hu ha hb hm) (bind2_two fun s x y z h => by
    unfold inA at h
    split at h
    · exact .inr h
    · exact .inl h)
theorem d_notinA (hu : X.A.units + 1 < cLine) (ha : PE X a (tB X.K O fa)) (hb : PE X b (tB X.K O fb)) (hm : behindInMarks .NotIn b = false := by rfl) : PE X (.Compare a [.NotIn] [b] pos) (tD X.K O (bind2 fa fb notinA)) :=
  d_two (d_notIn ha hb hm) (d_dnotin hu ha hb hm) (bind2_two fun s x y z h => by
    unfold notinA at h
    split at h
    · exact .inr h
    · exact .inl h)
/-! ### assignments of what is new -/
theorem lcF_lst {fi : Fi} {st : Tg} {tt : Ft} {te : Fe} {vs : List Nat} (env : Env) (s : Sto) (d : Dt) (s' : Sto) (h : lcF fi st tt te vs env s = some (d, s')) : ∃ xs, d = .lst xs := by
  unfold lcF at h
  split at h
  · split at h
    · split at h <;> cases h
      exact ⟨_, rfl⟩
    · cases h
  · cases h
theorem lc2F_lst {fi : Fi} {st : Tg} {fi1 : Fi} {st1 : Tg} {tt1 : Ft} {te : Fe} {vs vs1 : List Nat} (env : Env) (s : Sto) (d : Dt) (s' : Sto) (h : lc2F fi st fi1 st1 tt1 te vs vs1 env s = some (d, s')) : ∃ xs, d = .lst xs := by
  unfold lc2F at h
  split at h
  · split at h
    · split at h <;> cases h
      exact ⟨_, rfl⟩
    · cases h
  · cases h
theorem dn_imp {K : PySem.W.Frag} (hz : ∀ env s d s', f env s = some (d, s') → ∃ xs, d = .lst xs) (σ : L2.St) (H : Hp) (Q : VK) (h : tD K O f σ H Q) : tN K O f σ H Q := by
  obtain ⟨g, F, env, s, d, s', st, hf, k⟩ := h
  exact ⟨g, F, env, s, d, s', st, hf, fun p o F' H' x b n n' e r => by
    obtain ⟨x1, b1⟩ := x.frost b n n' e (st.bs.nofree n)
    obtain ⟨xs, rfl⟩ := hz _ _ _ _ hf
    cases r with
    | lst r => exact k (.ref p) _ H' x1 b1 (ObR.rep (.lst r) n')⟩
theorem a_d_of_n {tg : Expr} {gg : TG} (h : PS X (.Assign [tg] e pos) (tAsg (tN X.K O f) gg)) (hz : ∀ env s d s', f env s = some (d, s') → ∃ xs, d = .lst xs := by first | exact lcF_lst | exact lc2F_lst) : PS X (.Assign [tg] e pos) (tAsg (tD X.K O f) gg) := asg_imp h fun σ H Q q => dn_imp hz σ H Q q
end
section
variable {X : Cx} {O : List Nat} {elt tg iter tg1 iter1 : Expr} {ifs ifs1 : List Expr} {scope : Scope} {own : List (Str × Nat)} {pos spos py : Pos} {fi fi1 : Fi} {tt tt1 : Ft} {te : Fe} {y : Str}
/-- name = [.. for name in ..] -/
theorem a_lc {z i : Nat} (hc : X.calm = true) (hN : X.N.Nodup) (hy : X.N[z]? = some y) (hyl : X.env.scope.names.lookup y = some .local) (hsw : swapsWith (.ListComp elt [⟨tg, iter, ifs, 0⟩] scope pos) (some (.Name y py)) spos.line X.env = pure true) (hi : PI X tg iter (tI X.K O fi)) (ok : BlkOk X.N X.env.scope scope own)
    (hg : ∀ (s : Shared) (H : Hp) (C : Addr) (cl : List (Str × Addr)) (fp : List Addr), PG (X.blk s H scope (compEnvC scope cl C X.env) fp) tg (gName i))
    (ht : ∀ (s : Shared) (H : Hp) (C : Addr) (cl : List (Str × Addr)) (fp : List Addr), PTs (X.blk s H scope (compEnvC scope cl C X.env) fp) ifs (tT X.K O tt))
    (he : ∀ (s : Shared) (H : Hp) (C : Addr) (cl : List (Str × Addr)) (fp : List Addr), PE (X.blk s H scope (compEnvC scope cl C X.env) fp) elt (tD X.K O te))
    (hv : ∀ j, j ∈ own.map (·.2) → j ∉ O := by decide) (hm : i ∈ own.map (·.2) := by decide) (hs : ∀ x, foldedSetIterable iter X.env x = pure x := by intro _; rfl) :
    PS X (.Assign [.Name y py] (.ListComp elt [⟨tg, iter, ifs, 0⟩] scope pos) spos) (tAsg (tN X.K O (lcF fi (tgN i) tt te (own.map (·.2)))) (gName z)) :=
  asg_imp (ps_setLc hc hN hy hyl hsw hi ok hg ht he hs) fun σ H Q q => lc_n hv (nameT (hv i hm)) (fun v σ H Q h => ⟨wipe_set _ _ hm (wipe_wipe _ _), h⟩) (fun _ _ _ h => h) σ H Q q
theorem a_lc2 {z i i1 : Nat} (hc : X.calm = true) (hN : X.N.Nodup) (hy : X.N[z]? = some y) (hyl : X.env.scope.names.lookup y = some .local) (hsw : swapsWith (.ListComp elt [⟨tg, iter, [], 0⟩, ⟨tg1, iter1, ifs1, 0⟩] scope pos) (some (.Name y py)) spos.line X.env = pure true) (hi : PI X tg iter (tI X.K O fi)) (ok : BlkOk X.N X.env.scope scope own)
    (hg : ∀ (s : Shared) (H : Hp) (C : Addr) (cl : List (Str × Addr)) (fp : List Addr), PG (X.blk s H scope (compEnvC scope cl C X.env) fp) tg (gName i))
    (hi1 : ∀ (s : Shared) (H : Hp) (C : Addr) (cl : List (Str × Addr)) (fp : List Addr), PI (X.blk s H scope (compEnvC scope cl C X.env) fp) tg1 iter1 (tI X.K O fi1))
    (hg1 : ∀ (s : Shared) (H : Hp) (C : Addr) (cl : List (Str × Addr)) (fp : List Addr), PG (X.blk s H scope (compEnvC scope cl C X.env) fp) tg1 (gName i1))
    (ht1 : ∀ (s : Shared) (H : Hp) (C : Addr) (cl : List (Str × Addr)) (fp : List Addr), PTs (X.blk s H scope (compEnvC scope cl C X.env) fp) ifs1 (tT X.K O tt1))
    (he : ∀ (s : Shared) (H : Hp) (C : Addr) (cl : List (Str × Addr)) (fp : List Addr), PE (X.blk s H scope (compEnvC scope cl C X.env) fp) elt (tD X.K O te))
    (hv : ∀ j, j ∈ own.map (·.2) → j ∉ O := by decide) (hm : i ∈ own.map (·.2) := by decide) (hm1 : i1 ∈ own.map (·.2) := by decide)
    (hs : ∀ x, foldedSetIterable iter X.env x = pure x := by intro _; rfl) (hs1 : ∀ env x, foldedSetIterable iter1 env x = pure x := by intro _ _; rfl) :
    PS X (.Assign [.Name y py] (.ListComp elt [⟨tg, iter, [], 0⟩, ⟨tg1, iter1, ifs1, 0⟩] scope pos) spos) (tAsg (tN X.K O (lc2F fi (tgN i) fi1 (tgN i1) tt1 te (own.map (·.2)) [i1])) (gName z)) :=
  asg_imp (ps_setLc2 (vs1 := [i1]) hc hN hy hyl hsw hi ok (fun j hj => by rw [List.mem_singleton.mp hj]; exact hm1) hg (fun _ _ _ _ _ => pts_nil) hi1 hg1 ht1 he hs hs1)
    fun σ H Q q => lc2_n hv (fun j hj => by rw [List.mem_singleton.mp hj]; exact hm1) (nameT (hv i hm)) (fun v σ H Q h => ⟨wipe_set _ _ hm (wipe_wipe _ _), h⟩) (nameT (hv i1 hm1)) (fun v σ H Q h => ⟨wipe_set _ _ List.mem_cons_self (wipe_wipe _ _), h⟩) σ H Q q
end
/-! ### calls of defs that are at hand -/
def AL (n : Nat) (fa : Fa) : Prop := ∀ env s ds s', fa env s = some (ds, s') → ds.length = n
theorem al_nil : AL 0 aNil := fun env s ds s' h => by cases h; rfl
theorem al_cons {n : Nat} {f : Fe} {r : Fa} (h : AL n r) : AL (n + 1) (aCons f r) := fun env s ds s' q => by
  obtain ⟨x, s1, xs, q1, q2, rfl⟩ := aCons_some q
  rw [List.length_cons, h _ _ _ _ q2]
structure Cg (P : Program) (w : World) (K : PySem.W.Frag) (mg : Str → Option Value) (base : Heap) (k : Nat) (x : Str) (st : Stmt) (ps : List Str) (Fn : List Dt → Sto → Option (Dt × Sto)) : Prop where
  ex : ∃ f fd, L2.Fun K x x st f fd ∧ FnG P w K mg base k f fd ps (spF K ps.length Fn) ∧ mg x = some (.ref f) ∧ Binds K fd ps []
section
variable {X : Cx} {O : List Nat} {j k : Nat} {ps : List Str} {x : Str} {st : Stmt} {p pos : Pos} {e : Expr} {es : List Expr} {fa : Fa} {Fn : List Dt → Sto → Option (Dt × Sto)}
theorem d_cg (C : Cg X.prog X.w X.K X.mg X.base k x st ps Fn) (hr : Room j X.A) (hk : k ≤ j) (hgd : X.A.guards = some []) (hg : Gl X x) (ha : PA X (e :: es) (tAD X.K O fa)) (hal : AL (es.length + 1) fa) (hn : ps.length = es.length + 1 := by rfl)
    (hdb : (x == ("__debug__" : Str)) = false := by decide) (he : starEach (e :: es) X.env = (false, eval e X.env) :: starEach es X.env := by rfl)
    (hpl : (backTo pos (starEach es X.env)).any (·.1) = false := by rfl) : PE X (.Call (.Name x p) (e :: es) [] pos) (tD X.K O (callF Fn fa)) := by
  obtain ⟨f, fd, F, G, m, b⟩ := C.ex
  exact d_call G (hr.mono hk) hgd hg m F.kp b ha hn hal hdb he hpl
/-- f() -/
theorem d_cg0 (C : Cg X.prog X.w X.K X.mg X.base k x st ps Fn) (hr : Room j X.A) (hk : k ≤ j) (hgd : X.A.guards = some []) (hg : Gl X x) (hn : ps = [] := by rfl) (hdb : (x == ("__debug__" : Str)) = false := by decide) : PE X (.Call (.Name x p) [] [] pos) (tD X.K O (callF Fn aNil)) := by
  obtain ⟨f, fd, F, G, m, b⟩ := C.ex
  subst hn
  refine ⟨fun pins s σ H Q I ⟨g, F0, env, s0, d, s', stt, hf, kk⟩ => ?_⟩
  refine wpAny_Call_Name_kw (ld_glob I hg m ?_ hdb)
  exact PySem.W.callWith_K0 I.kIn F.kp (run_g (ar := ⟨[], []⟩) G (hr.mono hk) hgd I .nil (fun _ => b s [] I.kIn rfl) ⟨g.ft, F0, s0, [], d, s', rfl, stt.bs, .nil, hf, fun v F2 H2 x2 b2 r2 => kk v F2 H2 x2 b2 r2⟩)
end
end DL
namespace DL
open PySem PySem.Spec PyProof.Rows L2
section
variable {X : Cx} {O : List Nat} {j k : Nat} {ps ks : List Str} {x : Str} {st : Stmt} {p pos : Pos} {kws : List Keyword} {fk : Fa} {Fn : List Dt → Sto → Option (Dt × Sto)}
/-- f(k = v, ..) -/
theorem d_cgK (C : Cg X.prog X.w X.K X.mg X.base k x st ps Fn) (hr : Room j X.A) (hk : k ≤ j) (hgd : X.A.guards = some []) (hg : Gl X x) (ix : List Nat) (ks : List Str)
    (hb : ∀ (kV doc pm : Value) (an : Option Addr) (cdv ct : Value) (ws : List Value), ws.length = kws.length → bindArgs (PySem.W.fnOf x x (defArgs st) (defBody st) (defScope st) .none kV doc pm an cdv ct) ⟨[], ks.zip ws⟩ = pure (ps.zip (permL ix ws)))
    (hkw : PK X kws (tAD X.K O fk)) (hal : AL kws.length fk) (hix : ∀ ds : List Dt, ds.length = kws.length → (permL ix ds).length = ps.length)
    (hall : (backToKw pos (keywordEach kws X.env)).all (·.1.isSome) = true := by rfl) (hks : (backToKw pos (keywordEach kws X.env)).filterMap (·.1) = ks := by rfl)
    (hdb : (x == ("__debug__" : Str)) = false := by decide) (hpl : (backToKw pos (keywordEach kws X.env)).any (·.1.isNone) = false := by rfl) :
    PE X (.Call (.Name x p) [] kws pos) (tD X.K O (callF (fun ds s => Fn (permL ix ds) s) fk)) := by
  obtain ⟨f, fd, F, G, m, b⟩ := C.ex
  refine d_callK G (hr.mono hk) hgd hg m F.kp ix (fun s ws hl => ?_) hkw hal hix hall hks hdb hpl
  obtain ⟨oc, od, kV, doc, pm, an, cdv, ct, osl, rfl, lk, hcd⟩ := F.ex
  exact .of_eq (hb kV doc pm an cdv ct ws hl)
end
theorem call_tupA {X : Cx} : CallR X (.type "tuple") (rTupF X.K) := call_tupF
end DL
namespace DL
open PySem PySem.Spec PyProof.Rows L2
theorem beq_val (v : Value) : (v == v) = true := beq_self_eq_true v
theorem call_sortP {X : Cx} : CallR X (.builtin "sorted") (rSortP X.K) := by
  intro pins s σ H vs us Q I r ⟨α, es, ad, ky, sv, a, ex, hs, ht, hi, q⟩
  subst ex
  obtain ⟨its, rv, hl, hz⟩ := I.list hs
  rw [Vals.ref1 r]
  have ei : its = es.map fun e => Value.ref (ad e) := by
    have z : ∀ (l : List α) (us : List Value), Vals (l.map fun e => V.ref (ad e)) us → us = l.map fun e => Value.ref (ad e) := by
      intro l
      induction l with
      | nil => intro us h; cases h; rfl
      | cons e l ih =>
        intro us h
        cases h with
        | cons h1 h2 => cases h1; rw [ih _ h2]; rfl
    exact z es its rv
  subst ei
  rw [List.length_map] at hz
  -- each tuple as it stands
  have hT : ∀ e, e ∈ es → ∃ (o : Obj) (t : Tok) (u : Value) (n : Nat), s.heap.get? (ad e) = some o ∧ o.cls = .type "tuple" ∧ o.data = .seq #[.str (ky e) t, u] n := fun e he => by
    obtain ⟨jts, rj, ⟨o, ho, hc, n, hd⟩, _⟩ := I.tuple (ht e he)
    cases rj with
    | cons r1 r2 =>
      cases r2 with
      | cons r3 r4 =>
        cases r4
        obtain ⟨t, rfl⟩ := r1
        exact ⟨o, t, _, n, ho, hc, hd⟩
  have same : ∀ e e', e ∈ es → e' ∈ es → ad e = ad e' → ky e = ky e' := fun e e' he he' z => by
    obtain ⟨o, t, u, n, h1, _, h3⟩ := hT e he
    obtain ⟨o', t', u', n', h1', _, h3'⟩ := hT e' he'
    rw [z, h1'] at h1
    cases h1
    rw [h3'] at h3
    injection h3 with h3 h4
    have h5 := congrArg Array.toList h3
    injection h5 with h6 h7
    injection h6 with h8 h9
    exact h8.symm
  refine PyProof.Rows.G.sortedG (κ := tabKind ad ky es) (kd := tuples' true) (vs := es.map fun e => Value.ref (ad e)) hl.isList (fun p hp => ?_) (fun s2 kt A E x y ca cb R hx hy hq => ?_) (fun h2 A E s2 R kt hq => ?_) (by rw [List.length_map]; exact hz) (fun st' h1 h2 h3 => ?_)
  · rw [pairsOf_toList] at hp
    have z := (mem_zip_self hp).2
    obtain ⟨e, he, e1⟩ := List.mem_map.mp z
    rw [← e1]
    exact tab_has he
  · obtain ⟨e1, m1, rfl, rfl⟩ := tab_some hx
    obtain ⟨e2, m2, rfl, rfl⟩ := tab_some hy
    obtain ⟨o1, t1, u1, n1, g1, c1, d1⟩ := hT e1 m1
    obtain ⟨o2, t2, u2, n2, g2, c2, d2⟩ := hT e2 m2
    refine PySem.W.kat_lt (kt _ _ g1 c1) d1 (kt _ _ g2 c2) d2 ?_
    by_cases ek : ky e1 = ky e2
    · have ee := hi e1 e2 m1 m2 ek
      subst ee
      rw [g1] at g2; cases g2
      rw [d1] at d2
      injection d2 with d2 _
      rw [← d2]
      have z : decide ((#[Value.str (ky e1) t1, u1] : Array Value).size < (#[Value.str (ky e1) t1, u1] : Array Value).size) = false := decide_eq_false (Nat.lt_irrefl _)
      rw [z]
      refine kat_same beq_val ?_ _ 0
      have z2 : (tabKind ad ky es).blt (ky e1).cps.toList (ky e1).cps.toList = false := (tabKind ad ky es).irrefl _
      rw [z2] at hq
      exact hq
    · refine PySem.W.kat_cons (wpAny_eqBool_str ?_)
      rw [decide_eq_false ek]
      exact PySem.W.kat_no (oneLt_any_str hq)
  · have hne : 0 < (es.map fun e => Value.str (ky e) 0).length := by
      rw [List.length_map] at h2 ⊢
      omega
    have tt : ∀ l : List α, (∀ e, e ∈ l → e ∈ es) → ∃ fs : List Value, fs.length = l.length ∧ TupsOf s2.heap (fun _ => true) (l.map fun e => Value.ref (ad e)) fs := by
      intro l
      induction l with
      | nil => exact fun _ => ⟨[], rfl, .nil⟩
      | cons e l ih =>
        intro hm
        obtain ⟨fs, hl, tl⟩ := ih fun e' h' => hm e' (List.mem_cons_of_mem _ h')
        obtain ⟨o1, t1, u1, n1, g1, c1, d1⟩ := hT e (hm e List.mem_cons_self)
        exact ⟨.str (ky e) t1 :: fs, by rw [List.length_cons, List.length_cons, hl], .cons ⟨_, o1, _, n1, rfl, kt _ _ g1 c1, c1, d1, rfl, (fun z => by cases z), fun _ => ⟨_, _, rfl⟩⟩ tl⟩
    obtain ⟨fs, hf, tl⟩ := tt es fun _ h => h
    refine tup_kind (by rw [hf]; rw [List.length_map] at h2; omega) tl hq
  · have hp : (arrOf st').toList.Perm (es.map fun e => (Value.ref (ad e), Value.ref (ad e))) := by
      have z := h1.toList
      rw [pairsOf_toList] at z
      rw [List.zip_map', ] at z
      exact z
    obtain ⟨es', pe, ee⟩ := perm_map_inv hp rfl
    have eo : ((arrOf st').map (·.2)).toList = es'.map fun e => Value.ref (ad e) := by
      rw [Array.toList_map, ee, List.map_map]
      rfl
    obtain ⟨ep, he'⟩ := PyProof.Rows.sortedAll_at s.heap (es.map fun e => Value.ref (ad e)) ((arrOf st').map (·.2))
    have hsz : es'.length = es.length := pe.length_eq
    have asz : (arrOf st').size = es'.length := by rw [← Array.length_toList, ee, List.length_map]
    have hkk : ∀ i (h : i < es'.length), KK (tabKind ad ky es) (arrOf st') i = (ky es'[i]).cps.toList := fun i h => by
      have m : es'[i] ∈ es := pe.mem_iff.mp (List.getElem_mem h)
      have g : (arrOf st')[i]? = some (Value.ref (ad es'[i]), Value.ref (ad es'[i])) := by
        rw [← Array.getElem?_toList, ee, List.getElem?_map, List.getElem?_eq_getElem h]
        rfl
      unfold KK
      rw [g]
      obtain ⟨c, hc⟩ := tab_has (ad := ad) (ky := ky) m
      show ((tabKind ad ky es).keyOf (Value.ref (ad es'[i]))).getD _ = _
      rw [hc]
      obtain ⟨e1, m1, f1, f2⟩ := tab_some hc
      injection f1 with f1
      rw [f2, same _ _ m m1 f1]
      rfl
    have pw : es'.Pairwise (fun x y => leS (ky x) (ky y)) := by
      rw [List.pairwise_iff_getElem]
      intro i j h4 h5 h6
      have z : (tabKind ad ky es).kle (KK (tabKind ad ky es) (arrOf st') i) (KK (tabKind ad ky es) (arrOf st') j) := h2 i j (Nat.le_of_lt h6) (by rw [pairsOf_size, List.length_map]; omega)
      rw [hkk i h4, hkk j h5] at z
      exact of_decide_eq_false z
    refine ⟨.ref _, upd H (s.heap.objs.size + 1) (.lst (es'.map fun e => V.ref (ad e))), I.laid (t' := s.toks) (fun _ _ => PyProof.Rows.sortedAll_old) (Nat.le_succ _) ⟨by rw [List.length_map, hsz]; exact hz, es'.map fun e => Value.ref (ad e), ep, ?_, ?_⟩, rfl, q es' _ pe pw (I.hok.fresh (Nat.le_succ _))⟩
    · have z : ∀ l : List α, Vals (l.map fun e => V.ref (ad e)) (l.map fun e => Value.ref (ad e)) := fun l => by
        induction l with
        | nil => exact .nil
        | cons e l ih => exact .cons rfl ih
      exact z es'
    · rw [he', ← eo]
end DL
namespace DL
open PySem PySem.Spec PyProof.Rows L2
/-! ### sorted: texts, or tuples with unlike texts ahead -/
def pairsS : List Dt → Option (List (Str × Dt))
  | [] => some []
  | .tup [.str k, d] :: r => (pairsS r).map ((k, d) :: ·)
  | _ => none
theorem pairsS_map : ∀ {ds : List Dt} {ps : List (Str × Dt)}, pairsS ds = some ps → ds = ps.map fun p => .tup [.str p.1, p.2]
  | [], _, h => by cases h; rfl
  | d :: r, ps, h => by
    unfold pairsS at h
    split at h
    · rename_i e; cases e
    · rename_i k d' r' e
      cases e
      cases q : pairsS r with
      | none => rw [q] at h; cases h
      | some qs =>
        rw [q] at h
        cases h
        rw [pairsS_map q]
        rfl
    · cases h
def sortedPG (_ : Sto) : List Dt → Option Dt
  | [.lst xs] => match pairsS xs with
    | some ps => if (ps.map (·.1)).Nodup then some (.lst ((sortK (·.1) ps).map fun p => .tup [.str p.1, p.2])) else none
    | none => none
  | _ => none
theorem inj_of_nodup {α β : Type} {f : α → β} : ∀ {l : List α}, (l.map f).Nodup → ∀ a b, a ∈ l → b ∈ l → f a = f b → a = b
  | [], _, _, _, h, _, _ => absurd h List.not_mem_nil
  | x :: l, h, a, b, ha, hb, e => by
    rw [List.map_cons, List.nodup_cons] at h
    rcases List.mem_cons.mp ha with rfl | ha'
    · rcases List.mem_cons.mp hb with rfl | hb'
      · rfl
      · exact absurd (e ▸ List.mem_map.mpr ⟨b, hb', rfl⟩) h.1
    · rcases List.mem_cons.mp hb with rfl | hb'
      · exact absurd (e ▸ List.mem_map.mpr ⟨a, ha', rfl⟩) h.1
      · exact inj_of_nodup h.2 a b ha' hb' e
theorem reps_pairs {K : PySem.W.Frag} {F : Hp} : ∀ {ps : List (Str × Dt)} {vs : List V}, Reps K F vs (ps.map fun p => .tup [.str p.1, p.2]) → ∃ es : List (Addr × V × Str × Dt), vs = es.map (fun e => V.ref e.1) ∧ ps = es.map (·.2.2) ∧ ∀ e, e ∈ es → SqT K F e.1 [.str e.2.2.1, e.2.1] ∧ Rep K F e.2.1 e.2.2.2
  | [], vs, h => by cases h; exact ⟨[], rfl, rfl, fun e he => absurd he List.not_mem_nil⟩
  | p :: ps, vs, h => by
    cases h with
    | cons h1 h2 =>
      obtain ⟨es, e1, e2, e3⟩ := reps_pairs h2
      cases h1 with
      | tup g1 gp g2 =>
        cases g2 with
        | cons r1 t1 =>
          cases t1 with
          | cons r2 t2 =>
            cases t2
            cases r1
            rename_i a v
            refine ⟨(a, v, p.1, p.2) :: es, by rw [e1]; rfl, by rw [e2]; rfl, fun e he => ?_⟩
            rcases List.mem_cons.mp he with rfl | he'
            · exact ⟨g1, r2⟩
            · exact e3 e he'
theorem cn_sortedP {K : PySem.W.Frag} : CallN K (rSortP K) sortedPG := by
  intro ft F H s vs xs z Q b rx hg k
  unfold sortedPG at hg
  split at hg
  · split at hg
    · rename_i ds ps q
      split at hg <;> cases hg
      rename_i hn
      obtain ⟨v, rfl, r⟩ := pair1 rx
      obtain ⟨a, vs, rfl, e, rs⟩ := r.lst b
      rw [pairsS_map q] at rs
      obtain ⟨es, rfl, rfl, h3⟩ := reps_pairs rs
      rw [List.map_map] at hn
      have hi : ∀ e e', e ∈ es → e' ∈ es → e.2.2.1 = e'.2.2.1 → e = e' := inj_of_nodup hn
      refine ⟨_, es, fun e => e.1, fun e => e.2.2.1, fun e => e.2.1, a, rfl, SqL.of e, fun e he => sqT_same b.sub (h3 e he).1, hi, fun es' p pm so np => k p _ np (.lst ?_)⟩
      have ez : es' = sortK (fun e => e.2.2.1) es := sortK_eq pm so hi
      have e2 : sortK (fun p : Str × Dt => p.1) (es.map (·.2.2)) = es'.map (·.2.2) := by
        rw [ez]
        exact (sortK_map (k := fun p : Str × Dt => p.1) (f := fun e : Addr × V × Str × Dt => e.2.2) es).symm
      rw [e2]
      have fin : ∀ l : List (Addr × V × Str × Dt), (∀ e, e ∈ l → e ∈ es) → Reps K F (l.map fun e => V.ref e.1) ((l.map (·.2.2)).map fun p => Dt.tup [.str p.1, p.2]) := by
        intro l
        induction l with
        | nil => exact fun _ => .nil
        | cons e l ih =>
          intro hm
          obtain ⟨g1, g2⟩ := h3 e (hm e List.mem_cons_self)
          exact .cons (.tup g1 (.inr (.inr ⟨_, _, rfl, fun b z => by cases z⟩)) (.cons (.str _) (.cons g2 .nil))) (ih fun e' h' => hm e' (List.mem_cons_of_mem _ h'))
      exact fin es' fun e he => pm.mem_iff.mp he
    · cases hg
  · cases hg
def sortedG_ (s : Sto) (xs : List Dt) : Option Dt := match sortedStrG s xs with
  | some d => some d
  | none => match sortedPG s xs with
    | some d => some d
    | none => sortedIntG s xs
theorem call_sortedA {X : Cx} : CallR X (.builtin "sorted") (fun vs H Q => rSortedTA X.K vs H Q ∨ (rSortP X.K vs H Q ∨ rSortedIA X.K vs H Q)) := CallR.or cr_sortedTA (CallR.or call_sortP cr_sortedIA)
theorem cn_sortedA {K : PySem.W.Frag} : CallN K (fun vs H Q => rSortedTA K vs H Q ∨ (rSortP K vs H Q ∨ rSortedIA K vs H Q)) sortedG_ := by
  intro ft F H s vs xs z Q b rx hg k
  unfold sortedG_ at hg
  split at hg
  · rename_i d q
    cases hg
    exact .inl (cn_sortedStr ft F H s vs xs _ Q b rx q k)
  · split at hg
    · rename_i d q
      cases hg
      exact .inr (.inl (cn_sortedP ft F H s vs xs _ Q b rx q k))
    · exact .inr (.inr (cn_sortedInt ft F H s vs xs _ Q b rx hg k))
/-! ### a dict's items, walked -/
def pairD (kv : Key × Dt) : Dt := .tup [keyD kv.1, kv.2]
theorem walk_items {K : PySem.W.Frag} {ft : List Addr} {F1 : Hp} {p : Addr} {od : Obj} {kvs : List (Key × V)} {ks : List (Key × Dt)} (hp : F1 p = some (.frz od (.dK kvs))) (r : Repk K F1 kvs ks) : WalkJ K ft F1 (Iti p od kvs) (ks.map pairD) := fun F H s i e b => by
  have ep : H p = some (.frz od (.dK kvs)) := b.sub p _ (e p _ hp)
  have hl := r.length
  refine ⟨fun h => ⟨ep, by rw [List.length_map] at h; omega⟩, fun d hd => ?_⟩
  rw [List.getElem?_map] at hd
  cases q : ks[i]? with
  | none => rw [q] at hd; cases hd
  | some kd =>
    obtain ⟨k, d'⟩ := kd
    rw [q] at hd
    cases hd
    obtain ⟨v, e1, r1⟩ := Repk.get r q
    have hlt : i < kvs.length := (List.getElem?_eq_some_iff.mp e1).1
    refine ⟨⟨ep, hlt⟩, fun x H3 ⟨T, k2, v2, f1, f2, f3, f4⟩ => ?_⟩
    rw [e1] at f1; cases f1
    subst f2 f4
    obtain ⟨x1, b1⟩ := Go.lay (o := .tup [kV k, v]) b f3
    refine ⟨_, x1, b1, .tup (.inl (.inl upd_same)) (.inr (.inr ⟨_, _, rfl, fun b z => ?_⟩)) (.cons (rep_key k) (.cons (Rep.mono (e.trans x1.sam) _ _ r1) .nil))⟩
    cases k <;> cases z
def itemsI (f : Fe) : Fi := fun env s => match f env s with
  | some (.dct ks, s') => some (ks.map pairD, s')
  | _ => none
theorem i_items {X : Cx} {O : List Nat} {tg iter : Expr} {f : Fe} (h : PI X tg iter (iItems (tD X.K O f))) : PI X tg iter (tI X.K O (itemsI f)) := pi_imp h fun σ H R ⟨g, F, env, s, ds, s', st, hf, k⟩ => by
  unfold itemsI at hf
  split at hf
  · rename_i ks s1 q
    cases hf
    refine ⟨g, F, env, s, _, _, st, q, fun v F' H' x b r => ?_⟩
    cases r with
    | dct h1 h2 => exact ⟨_, _, _, rfl, b.sub _ _ h1, k _ F' H' x b (walk_items h1 h2)⟩
  · cases hf
end DL
namespace DL
open PySem PySem.Spec PyProof.Rows L2
section
variable {X : Cx} {O : List Nat} {e : Expr} {f : Fe}
theorem px_n (h : PE X e (tN X.K O f)) : PE X e (tX true X.K O f) := h
theorem px_d (h : PE X e (tD X.K O f)) : PE X e (tX false X.K O f) := h
end
end DL
namespace DL
open PySem PySem.Spec PyProof.Rows L2
/-! ### the call of a law whose def is known where nothing is being shown -/
theorem law_callG {P : Program} {w : World} {K : PySem.W.Frag} {gl bl : Str → Option Value} {n : Nat} {fl sc : Addr} {fd : FuncData} {pa : Str} {sp : Sp} {t : Shared} {us : List Value} {js : List Int}
    (hK : K.In t.heap) (h1 : t.heap.Ns mainGlobals gl) (h2 : t.heap.Ns builtinsNs bl) (h3 : ∀ y : Str, y ≠ "__name__" → bl y = bootBuiltins y) (h4 : t.heap.NoLimit) (h5 : t.gens = #[])
    (h6 : t.heap.get? sc = some { cls := .type "list", data := .seq us.toArray }) (h7 : IntsAre us js) (h8 : js.length ≤ sizeLine) (room : Room n callerA)
    (G : ∀ bs : Heap, K.In bs → bs.Ns mainGlobals gl → FnG P w K gl bs n fl fd [pa] sp) (hbd : ∀ (r : Shared) (u : Value), BindsTo r fd ⟨[u], []⟩ [(pa, u)])
    (want : ∀ H : Hp, L2.Only H → SqL K H sc (js.map V.int) → sp [.ref sc] H (fun v _ => v = .bl true) fun _ _ _ => False) :
    codeAny (model P w) callerA (.call (.ref fl) ⟨[.ref sc], []⟩) (fun o t' => o = .ok (.ret (.bool true)) ∧ OldK t.heap t'.heap ∧ t'.os = t.os ∧ AllBare t'.gens) t := by
  have vals := vals_ints h7
  have usl := h7.length
  have main : ∀ H : Hp, L2.Only H → SqL K H sc (js.map V.int) → HOk P w H t.heap → (∀ c, H c ≠ none → c = sc) → (H sc ≠ none → K.lookup sc = none) →
      codeAny (model P w) callerA (.call (.ref fl) ⟨[.ref sc], []⟩) (fun o t' => o = .ok (.ret (.bool true)) ∧ OldK t.heap t'.heap ∧ t'.os = t.os ∧ AllBare t'.gens) t := by
    intro H on sq ok tr kn
    have bo : ∀ {c : Addr} {ob : Obj}, t.heap.get? c = some ob → H c = none → (hidT t.heap H).get? c = some ob := fun x y => hidT_get x y
    have nd : ∀ {c : Addr} {ob : Obj} {en : Array DictEntry} {i : Nat}, t.heap.get? c = some ob → ob.data = .dict en i → H c = none := fun {c ob en i} x y => by
      cases z : H c with
      | none => rfl
      | some q =>
        have cc : c = sc := tr c (by rw [z]; simp)
        subst cc
        rw [h6] at x
        cases x
        have y' : Data.seq us.toArray _ = Data.dict en i := y
        cases y'
    have ns : ∀ {c : Addr} {m : Str → Option Value}, t.heap.Ns c m → (hidT t.heap H).Ns c m := fun {c m} ⟨ob, en, i, x, y, r⟩ => ⟨ob, en, i, bo x (nd x y), y, r⟩
    have kin : K.In (hidT t.heap H) := fun c ob x => bo (hK c ob x) (by
      cases z : H c with
      | none => rfl
      | some q =>
        have cc : c = sc := tr c (by rw [z]; simp)
        subst cc
        rw [kn (by rw [z]; simp)] at x
        cases x)
    have mo : Mod K gl (hidT t.heap H) := ⟨kin, ns h1, ⟨bl, ns h2, h3⟩, let ⟨mc, x, y⟩ := h4; ⟨mc, ns x, y⟩⟩
    have en0 : Env0 P w K gl (hidT t.heap H) callerA [] t H := ⟨rfl, mo, fun c ob x => of_hidT x, Nat.le_of_eq (hidT_size _ _), trivial, fun c x => absurd (show c ∈ ([] : List Addr) from x) (by simp), ok, .of_eq h5⟩
    refine codeAny_mono ((G _ kin (ns h1)).run callerA [] t H ⟨[.ref sc], []⟩ [.ref sc] [.ref sc] _ _ room rfl en0 (hbd t (.ref sc)) (.cons rfl .nil) (want H on sq)) fun o t' x => ?_
    match o, x with
    | .error _, x => exact x.elim
    | .ok .next, x => exact x.elim
    | .ok .brk, x => exact x.elim
    | .ok .cont, x => exact x.elim
    | .ok (.ret u), x =>
      obtain ⟨v, H', a1, a2, a3, a4, a5, a6⟩ := x
      have a6' : v = .bl true := a6
      subst a6'
      have a5' : u = Value.bool true := a5
      subst a5'
      refine ⟨rfl, OldK.of_keep fun c ob x => ?_, a1, a2⟩
      cases z : H c with
      | none => exact a3.keep c ob x z (by intro y; exact absurd (show c ∈ ([] : List Addr) from y) (by simp)) (by simp)
      | some q =>
        rcases on c with y | ⟨ob2, xs, y⟩
        · rw [z] at y; cases y
        · obtain ⟨b1, _⟩ := ok c _ y
          obtain ⟨b2, _⟩ := a4 c _ (a3.frzs c ob2 _ y)
          rw [x] at b1; cases b1
          exact b2
  cases hk : K.lookup sc with
  | some ob =>
    have x := hK sc ob hk
    rw [h6] at x
    cases x
    exact main (fun _ => none) (fun _ => .inl rfl) (.inr ⟨_, us.toArray, _, hk, rfl, rfl, rfl, by rw [List.size_toArray, usl]; exact h8, by simpa using vals⟩) (fun c q z => nomatch (show (none : Option HO) = some q from z)) (fun c z => absurd rfl z) fun z => absurd rfl z
  | none =>
    let LO : HO := .frz { cls := .type "list", data := .seq us.toArray } (.lst (js.map V.int))
    have ey : (if sc = sc then some LO else none) = some LO := if_pos rfl
    refine main (fun c => if c = sc then some LO else none) (fun c => ?_) (.inl (.inr ⟨_, ey⟩)) (fun c q z => ?_) (fun c z => ?_) fun _ => hk
    · by_cases e : c = sc
      · exact .inr ⟨_, _, if_pos e⟩
      · exact .inl (if_neg e)
    · by_cases e : c = sc
      · have z' := (if_pos e).symm.trans z
        cases z'
        subst e
        exact ⟨h6, by rw [List.length_map]; exact h8, us, _, vals, h6⟩
      · have z' := (if_neg e).symm.trans z
        cases z'
    · by_cases e : c = sc
      · exact e
      · exact absurd (if_neg e) z
/-- what k_head leaves, from the law's promise -/
theorem walk_ofG {l : PySem.W.OpenLaw} {m n : Nat} {q : Program} {lo : List Str} {XP : (Str → Option Value) → Heap → Prop} {YP : World → Heap → Prop} {d : DefRec} {K : Params → PySem.W.Frag} {sp : World → Sp} {pa : Str}
    (hm : l.most = some m) (hz : m ≤ sizeLine) (hd : d.params.defaults = []) (room : Room n callerA) (hY : ∀ (w : World) (h : Heap), YP w h → (K w.params).In h)
    (F : ∀ (w : World) (gl : Str → Option Value) (fl : Addr) (h : Heap), (K w.params).In h → h.Ns mainGlobals gl → gl d.name = some (.ref fl) →
      ∃ fd : FuncData, (∀ (r : Shared) (u : Value), BindsTo r fd ⟨[u], []⟩ [(pa, u)]) ∧ ∀ bs : Heap, (K w.params).In bs → bs.Ns mainGlobals gl → FnG l.prog w (K w.params) gl bs n fl fd [pa] (sp w))
    (want : ∀ (w : World) (H : Hp) (a : Addr) (js : List Int), js.length ≤ m → L2.Only H → SqL (K w.params) H a (js.map V.int) → sp w [.ref a] H (fun v _ => v = .bl true) fun _ _ _ => False) :
    PySem.W.WalkO q lo XP YP l.row.toRowW d [] (fun f vs => PySem.call f vs) := by
  refine Att.attach_call hm hd fun w s₀ s₁ gl bl fl o pm cd doc a vs js G Y ho hcd hc hg hob hin hln hgn => ?_
  obtain ⟨fd, hb, hF⟩ := F w gl fl _ (hY w _ Y) G.T.g hg
  exact law_callG (hY w _ Y) G.T.g G.T.b G.T.builtins G.T.nolimit hgn hob hin (Nat.le_trans hln hz) room hF hb fun H on sq => want w H a js hln on sq

/-! ### the top of a law: a dict of its own, shared with what it calls -/
/-- four cells -/
def fourD (ks : List Str) (l : List Int) (x y z : Int) : Option Dt := match ks with
  | [a, b, c, d] => some (.dct [(.inr a, .lst (l.map .int)), (.inr b, .int x), (.inr c, .int y), (.inr d, .int z)])
  | [] => some (.lst [.lst (l.map .int), .int x, .int y, .int z])
  | _ => none
/-- behind the statement a dict made in it is opened again -/
theorem ps_unlk {X : Cx} {st : Stmt} {t : TS} (h : PS X st t) : PS X st (fun D σ H => t ⟨fun σ' H' => D.nx σ' H' ∨ ∃ d od u, H d = none ∧ H' d = some (.frz od u) ∧ D.nx σ' (upd H' d u), D.rt, D.bk, D.ct⟩ σ H) := by
  refine ⟨fun pins s σ H D I hw => thn (h.run pins s σ H _ I hw) fun f s1 q => ?_⟩
  cases f with
  | next =>
    obtain ⟨σ', H', I2, q⟩ := q
    rcases q with q | ⟨d, od, u, hn, e, q⟩
    · exact ⟨σ', H', I2, q⟩
    exact ⟨σ', _, I2.unlock e (fun o' u' z => by have := I.base.frzs d o' u' z; rw [hn] at this; cases this), q⟩
  | brk => exact q
  | cont => exact q
  | ret v => exact q
def tShare (K : PySem.W.Frag) (f1 : Fe) (Fr : Fs) : TS := fun D σ H => ∃ (a : Addr) (js : List Int) (N : List Str) (ks : List Str) (l : List Int) (x y z : Int) (d : Dt), σ = L2.start N [.ref a] ∧ 2 ≤ N.length ∧ SqL K H a (js.map V.int) ∧ fourD ks l x y z = some d ∧
  f1 (some (.scr js) :: List.replicate (N.length - 1) none) [] = some (d, []) ∧ (∀ p, ∃ s', Fr ((some (.scr js) :: List.replicate (N.length - 1) none).set 1 (some (.ref p))) [(p, d)] = some (.rt (.bl true), s')) ∧ ∀ H', D.rt (.bl true) H'
theorem ss_share {X : Cx} {st : Stmt} {rest : List Stmt} {f1 : Fe} {Fr : Fs} {O' : List Nat} (h1 : PS X st (tAsg (tD X.K [] f1) (gName 1))) (h2 : PSs X rest (tS X.K [] [] O' Fr)) : PSs X (st :: rest) (tShare X.K f1 Fr) := pss_imp (pss_cons (ps_unlk h1) h2) fun D σ H ⟨a, js, N, ks, l, x, y, z, d, es, hN, hq, hd, hf, hr, hD⟩ => by
  let ok : HO → Bool := fun o => match o with | .frz _ (.dK _) => false | .lst (.ref _ :: _) => false | _ => true
  let F0 : Hp := fun c => if c = a then (H c).filter ok else none
  have sF : Same F0 H := fun c u e => by
    by_cases hc : c = a
    · have e' : (if c = a then (H c).filter ok else none) = some u := e
      rw [if_pos hc] at e'
      exact (Option.filter_eq_some_iff.mp e').1
    · have e' : (if c = a then (H c).filter ok else none) = some u := e
      rw [if_neg hc] at e'; cases e'
  have eF : ∀ o, H a = some o → ok o = true → F0 a = some o := fun o h1 h2 => by
    show (if a = a then (H a).filter ok else none) = some o
    rw [if_pos rfl, h1]
    exact Option.filter_eq_some_iff.mpr ⟨rfl, h2⟩
  have hq0 : SqL X.K F0 a (js.map V.int) := by
    rcases hq with (h | ⟨o, h⟩) | h
    · exact .inl (.inl (eF _ h (by cases js <;> rfl)))
    · exact .inl (.inr ⟨o, eF _ h rfl⟩)
    · exact .inr h
  have b0 : Bs X.K [] F0 H [] := ⟨sF, rfl, .nil, fun c d h => absurd h List.not_mem_nil, fun c h => absurd h List.not_mem_nil⟩
  have st0 := start_stt (N := N) b0 (.cons (.scr hq0) .nil)
  subst es
  refine ⟨⟨[], H, F0⟩, F0, _, [], d, [], st0, hf, fun v F1 H1 x1 b1 r1 => ?_⟩
  unfold fourD at hd
  split at hd
  · rename_i ka kb kc kd
    cases hd
    cases r1 with
    | @dct p od kvs _ ep rk =>
    have hpa : H p = none := by
      rcases x1.new p _ ep with z | z
      · by_cases c : p = a
        · have z' : (if p = a then (H p).filter ok else none) = some (.frz od (.dK kvs)) := z
          rw [if_pos c] at z'
          have := (Option.filter_eq_some_iff.mp z').2
          exact absurd this Bool.false_ne_true
        · have z' : (if p = a then (H p).filter ok else none) = some (.frz od (.dK kvs)) := z
          rw [if_neg c] at z'; cases z'
      · exact z
    let F2 : Hp := fun c => if c = p then none else F1 c
    have f2 : ∀ c, c ≠ p → F2 c = F1 c := fun c hc => if_neg hc
    have np : ∀ {c : Addr} {o : HO}, F1 c = some o → (∀ od u, o ≠ .frz od (.dK u)) → c ≠ p := fun {c o} e h w => by
      subst w
      rw [ep] at e; cases e
      exact h _ _ rfl
    have hcell : Repk X.K F2 kvs [(.inr ka, .lst (l.map .int)), (.inr kb, .int x), (.inr kc, .int y), (.inr kd, .int z)] := by
      cases rk with
      | cons q1 rk =>
        cases rk with
        | cons q2 rk =>
          cases rk with
          | cons q3 rk =>
            cases rk with
            | cons q4 rk =>
              cases rk
              cases q2; cases q3; cases q4
              cases q1 with
              | lst g1 g2 =>
                rw [Reps.of_ints g2] at g1
                exact .cons (.lst ((f2 _ (np g1 fun _ _ w => by cases w)).trans g1) (Reps.ints _)) (.cons (.int _) (.cons (.int _) (.cons (.int _) .nil)))
    have hscr : SqL X.K F2 a (js.map V.int) := by
      rcases hq0 with (h | ⟨o, h⟩) | h
      · have h' := x1.sam _ _ h
        exact .inl (.inl ((f2 _ (np h' fun _ _ w => by cases w)).trans h'))
      · have h' := x1.sam _ _ h
        exact .inl (.inr ⟨o, (f2 _ (np h' fun _ _ w => by cases w)).trans h'⟩)
      · exact .inr h
    have b2 : Bs X.K [p] F2 (upd H1 p (.dK kvs)) [(p, .dct [(.inr ka, .lst (l.map .int)), (.inr kb, .int x), (.inr kc, .int y), (.inr kd, .int z)])] := by
      refine ⟨fun c u e => ?_, rfl, (by simp), fun c dd h => ?_, fun c h => ?_⟩
      · by_cases hc : c = p
        · have e' : (if c = p then none else F1 c) = some u := e
          rw [if_pos hc] at e'; cases e'
        · rw [upd_ne hc]; exact b1.sub c u ((f2 c hc).symm.trans e)
      · rw [List.mem_singleton] at h
        cases h
        exact ⟨_, upd_same, .dct hcell⟩
      · rw [List.mem_singleton] at h
        exact if_pos h
    obtain ⟨s', hs'⟩ := hr p
    refine .inr ⟨p, od, .dK kvs, hpa, b1.sub _ _ ep, ⟨[p], _, F2⟩, F2, _, _, _, s', ⟨b2, ⟨?_, fun i dd _ e => ?_, fun i hi => absurd hi List.not_mem_nil, fun i j q hi => absurd hi List.not_mem_nil⟩, Go.refl⟩, hs', fun v H' F' _ _ rv => ?_⟩
    · rw [List.length_set, List.length_set]
      exact st0.sl.len
    · by_cases h1 : i = 1
      · subst h1
        rw [List.getElem?_set_self (by rw [List.length_cons, List.length_replicate]; omega)] at e
        cases e
        exact ⟨.ref p, List.getElem?_set_self (by rw [st0.sl.len, List.length_append, List.length_map, List.length_replicate]; show 1 < 1 + _; have : ([Dt.scr js] : List Dt).length = 1 := rfl; omega), .ref p⟩
      · rw [List.getElem?_set_ne (Ne.symm h1)] at e
        cases i with
        | zero =>
          cases e
          refine ⟨.ref a, ?_, .scr hscr⟩
          rw [List.getElem?_set_ne (by decide)]
          obtain ⟨v, g1, g2⟩ := st0.sl.pu 0 _ (by simp) rfl
          cases g2 with
          | scr g3 => 
            have : (L2.start N [V.ref a])[0]? = some (some (.ref a)) := rfl
            exact this
        | succ i =>
          rw [List.getElem?_cons_succ, List.getElem?_replicate] at e
          split at e <;> cases e
    · cases rv
      exact hD H'
  · cases hd
    cases r1 with
    | @lst p vs _ ep rk =>
    have hcl : ∃ q w1 w2 w3, vs = [V.ref q, w1, w2, w3] ∧ F1 q = some (.lst (l.map V.int)) ∧ w1 = .int x ∧ w2 = .int y ∧ w3 = .int z := by
      cases rk with
      | cons q1 rk =>
        cases rk with
        | cons q2 rk =>
          cases rk with
          | cons q3 rk =>
            cases rk with
            | cons q4 rk =>
              cases rk
              cases q2; cases q3; cases q4
              cases q1 with
              | lst g1 g2 =>
                rw [Reps.of_ints g2] at g1
                exact ⟨_, _, _, _, rfl, g1, rfl, rfl, rfl⟩
    obtain ⟨q, w1, w2, w3, rfl, eq, rfl, rfl, rfl⟩ := hcl
    have hpa : H p = none := by
      rcases x1.new p _ ep with zz | zz
      · by_cases c : p = a
        · have z' : (if p = a then (H p).filter ok else none) = some (.lst [V.ref q, .int x, .int y, .int z]) := zz
          rw [if_pos c] at z'
          have := (Option.filter_eq_some_iff.mp z').2
          exact absurd this Bool.false_ne_true
        · have z' : (if p = a then (H p).filter ok else none) = some (.lst [V.ref q, .int x, .int y, .int z]) := zz
          rw [if_neg c] at z'; cases z'
      · exact zz
    let F2 : Hp := fun c => if c = p then none else F1 c
    have f2 : ∀ c, c ≠ p → F2 c = F1 c := fun c hc => if_neg hc
    have np : ∀ {c : Addr} {o : HO}, F1 c = some o → (∀ u t, o ≠ .lst (.ref u :: t)) → c ≠ p := fun {c o} e h w => by
      subst w
      rw [ep] at e; cases e
      exact h _ _ rfl
    have nl : ∀ {m : List Int} (u : Addr) (t : List V), HO.lst (m.map V.int) ≠ .lst (.ref u :: t) := fun {m} u t e => by
      cases m with
      | nil => simp at e
      | cons i m => simp at e
    have hcell : Reps X.K F2 [V.ref q, .int x, .int y, .int z] [.lst (l.map .int), .int x, .int y, .int z] := .cons (.lst ((f2 _ (np eq nl)).trans eq) (Reps.ints _)) (.cons (.int _) (.cons (.int _) (.cons (.int _) .nil)))
    have hscr : SqL X.K F2 a (js.map V.int) := by
      rcases hq0 with (h | ⟨o, h⟩) | h
      · have h' := x1.sam _ _ h
        exact .inl (.inl ((f2 _ (np h' nl)).trans h'))
      · have h' := x1.sam _ _ h
        exact .inl (.inr ⟨o, (f2 _ (np h' fun _ _ w => by cases w)).trans h'⟩)
      · exact .inr h
    have b2 : Bs X.K [p] F2 H1 [(p, .lst [.lst (l.map .int), .int x, .int y, .int z])] := by
      refine ⟨fun c u e => ?_, rfl, (by simp), fun c dd h => ?_, fun c h => ?_⟩
      · by_cases hc : c = p
        · have e' : (if c = p then none else F1 c) = some u := e
          rw [if_pos hc] at e'; cases e'
        · exact b1.sub c u ((f2 c hc).symm.trans e)
      · rw [List.mem_singleton] at h
        cases h
        exact ⟨_, b1.sub _ _ ep, .lst hcell⟩
      · rw [List.mem_singleton] at h
        exact if_pos h
    obtain ⟨s', hs'⟩ := hr p
    refine .inl ⟨⟨[p], _, F2⟩, F2, _, _, _, s', ⟨b2, ⟨?_, fun i dd _ e => ?_, fun i hi => absurd hi List.not_mem_nil, fun i j q hi => absurd hi List.not_mem_nil⟩, Go.refl⟩, hs', fun v H' F' _ _ rv => ?_⟩
    · rw [List.length_set, List.length_set]
      exact st0.sl.len
    · by_cases h1 : i = 1
      · subst h1
        rw [List.getElem?_set_self (by rw [List.length_cons, List.length_replicate]; omega)] at e
        cases e
        exact ⟨.ref p, List.getElem?_set_self (by rw [st0.sl.len, List.length_append, List.length_map, List.length_replicate]; show 1 < 1 + _; have : ([Dt.scr js] : List Dt).length = 1 := rfl; omega), .ref p⟩
      · rw [List.getElem?_set_ne (Ne.symm h1)] at e
        cases i with
        | zero =>
          cases e
          refine ⟨.ref a, ?_, .scr hscr⟩
          rw [List.getElem?_set_ne (by decide)]
          obtain ⟨v, g1, g2⟩ := st0.sl.pu 0 _ (by simp) rfl
          cases g2 with
          | scr g3 => 
            have : (L2.start N [V.ref a])[0]? = some (some (.ref a)) := rfl
            exact this
        | succ i =>
          rw [List.getElem?_cons_succ, List.getElem?_replicate] at e
          split at e <;> cases e
    · cases rv
      exact hD H'
  · cases hd
def spLaw (K : PySem.W.Frag) : Sp := fun vs H Q _ => ∃ (a : Addr) (js : List Int), vs = [.ref a] ∧ SqL K H a (js.map V.int) ∧ js.length ≤ 63 ∧ ∀ H', Q (.bl true) H'
end DL
namespace DL
open PySem PySem.Spec PyProof.Rows L2
/-- where a def of the top stands -/
structure FnAt (K : PySem.W.Frag) (mg : Str → Option Value) (x : Str) (st : Stmt) : Prop where
  ex : ∃ f fd, L2.Fun K x x st f fd ∧ mg x = some (.ref f)
section
variable {P : Program} {w : World} {K : PySem.W.Frag} {mg : Str → Option Value} {base : Heap} {x : Str} {st : Stmt} {k : Nat} {ps : List Str} {Fn : List Dt → Sto → Option (Dt × Sto)}
theorem fn_at {h : Heap} {f : Addr} {oc : Value} {od an : Option Addr} {osl : Array (Option Value)} {kV doc pm cdv ct : Value} (KX : K.In h) (G : h.Ns mainGlobals mg) (a : PySem.W.nsIn K mainGlobals x = some (some (.ref f)))
    (l : K.lookup f = some ⟨oc, od, .func (PySem.W.fnOf x x (defArgs st) (defBody st) (defScope st) .none kV doc pm an cdv ct), osl⟩) (c : PySem.W.codeIn K cdv x = true) (kp : PySem.W.keepIn K (.ref f) = true) : FnAt K mg x st :=
  ⟨f, _, fun_mk l c kp, PySem.W.mg_of KX G a⟩
theorem cg_mk (A : FnAt K mg x st) (G : ∀ f fd, L2.Fun K x x st f fd → FnG P w K mg base k f fd ps (spF K ps.length Fn))
    (hb : ∀ (kV doc pm : Value) (an : Option Addr) (cdv ct : Value) (us : List Value), us.length = ps.length → bindArgs (PySem.W.fnOf x x (defArgs st) (defBody st) (defScope st) .none kV doc pm an cdv ct) ⟨us, []⟩ = pure (ps.zip us)) : Cg P w K mg base k x st ps Fn := by
  obtain ⟨f, fd, F, m⟩ := A.ex
  exact ⟨f, fd, F, G f fd F, m, F.binds hb⟩
theorem law_at {fl : Addr} {sp : Sp} {pa : Str} (A : FnAt K mg x st) (hm : mg x = some (.ref fl)) (hb : ∀ (kV doc pm : Value) (an : Option Addr) (cdv ct : Value) (u : Value), bindArgs (PySem.W.fnOf x x (defArgs st) (defBody st) (defScope st) .none kV doc pm an cdv ct) ⟨[u], []⟩ = pure [(pa, u)])
    (G : ∀ f fd, L2.Fun K x x st f fd → ∀ base : Heap, FnG P w K mg base k f fd [pa] sp) : ∃ fd : FuncData, (∀ (r : Shared) (u : Value), BindsTo r fd ⟨[u], []⟩ [(pa, u)]) ∧ ∀ bs : Heap, K.In bs → bs.Ns mainGlobals mg → FnG P w K mg bs k fl fd [pa] sp := by
  obtain ⟨f, fd, F, m⟩ := A.ex
  rw [hm] at m
  injection m with m
  injection m with m
  subst m
  refine ⟨fd, fun r u => ?_, fun bs _ _ => G _ _ F bs⟩
  obtain ⟨oc, od, kV, doc, pm, an, cdv, ct, osl, rfl, lk, hcd⟩ := F.ex
  exact .of_eq (hb kV doc pm an cdv ct u)
end
/-- a law's def, the first row shares the dict -/
theorem ok_lawS {P : Program} {w : World} {K : PySem.W.Frag} {mg : Str → Option Value} {base : Heap} {x pa : Str} {st : Stmt} {f : Addr} {fd : FuncData} {N : List Str} {k : Nat} {f1 : Fe} {Fr : Fs} (F : L2.Fun K x x st f fd) (S : FnScope N [pa] (defScope st)) (hN : 2 ≤ N.length)
    (hb : ∀ X : Cx, (∃ cdv A outer s H E, X = (cxOf CX0 P w K mg base N x (defScope st) f cdv A outer s H E).nox) → Room k X.A → X.A.guards = some [] → PSs X (defBody st) (tShare K f1 Fr))
    (hL : ∀ js : List Int, js.length ≤ 63 → ∃ ks l y z u d, fourD ks l y z u = some d ∧ f1 (some (.scr js) :: List.replicate (N.length - 1) none) [] = some (d, []) ∧ ∀ p, ∃ s', Fr ((some (.scr js) :: List.replicate (N.length - 1) none).set 1 (some (.ref p))) [(p, d)] = some (.rt (.bl true), s')) :
    FnG P w K mg base (k + 1) f fd [pa] (spLaw K) := by
  refine okG F S (fun vs H Q E ⟨a, js, e, _⟩ => by rw [e]; rfl) fun cdv A outer s H vs Q E hr hg ⟨a, js, e, hq, hl, hQ⟩ => ?_
  subst e
  obtain ⟨ks, l, y, z, u, d, h1, h2, h3⟩ := hL js hl
  exact ⟨_, hb _ ⟨cdv, A, outer, s, H, E, rfl⟩ hr hg, a, js, N, ks, l, y, z, u, d, rfl, hN, hq, h1, h2, h3, hQ⟩
end DL
namespace DL
open PySem PySem.Spec PyProof.Rows L2
theorem fn_then {g : Prop} {K : PySem.W.Frag} {mg : Str → Option Value} (x : Str) (st : Stmt) {h : Heap} {f : Addr} {oc : Value} {od an : Option Addr} {osl : Array (Option Value)} {kV doc pm cdv ct : Value} (KX : K.In h) (G : h.Ns mainGlobals mg) (a : PySem.W.nsIn K mainGlobals x = some (some (.ref f)))
    (l : K.lookup f = some ⟨oc, od, .func (PySem.W.fnOf x x (defArgs st) (defBody st) (defScope st) .none kV doc pm an cdv ct), osl⟩) (c : PySem.W.codeIn K cdv x = true) (kp : PySem.W.keepIn K (.ref f) = true) (go : FnAt K mg x st → g) : g := go (fn_at KX G a l c kp)
theorem no_then {g : Prop} {K : PySem.W.Frag} {mg : Str → Option Value} (x : Str) {h : Heap} (KX : K.In h) (G : h.Ns mainGlobals mg) (a : PySem.W.nsIn K mainGlobals x = some none) (go : mg x = none → g) : g := go (PySem.W.mg_none_of KX G a)
end DL
namespace DL
open PySem PySem.Spec PyProof.Rows L2
/-! ### s[::-1] of a text -/
def revZ (z : Str) : Str := ⟨z.cps.toList.reverse.toArray⟩
theorem revZ_len (z : Str) : (revZ z).length = z.length := by
  show (z.cps.toList.reverse.toArray).size = z.cps.size
  rw [List.size_toArray, List.length_reverse, Array.length_toList]
theorem sliceBy_rev (z : Str) (u : Tok) : Txt.sliceBy z none none (-1, u) = revZ z := by
  have h := step_rev_list z u
  have h2 : (List.range z.length).map (fun k => z.cps.getD (z.length - 1 - k) 0) = z.cps.toList.reverse := by
    apply List.ext_getElem
    · rw [List.length_map, List.length_range, List.length_reverse, Array.length_toList]; rfl
    · intro i h1 h2
      rw [List.length_map, List.length_range] at h1
      have h3 : z.length - 1 - i < z.cps.size := by
        have : z.length = z.cps.size := rfl
        omega
      have e : z.length = z.cps.size := rfl
      rw [List.getElem_map, List.getElem_range, List.getElem_reverse, Array.getElem_toList]
      simp only [Array.getD, h3, dif_pos, Array.length_toList]
      rfl
  rw [h2] at h
  unfold revZ
  generalize Txt.sliceBy z none none (-1, u) = y at h
  obtain ⟨y⟩ := y
  rw [← h]
def tRevS (te : TE) : TE := fun σ H Q => te σ H fun x H1 => ∃ z, x = .str z ∧ z.length ≤ sizeLine ∧ Q (.str (revZ z)) H1
section
variable {X : Cx}
theorem pe_revS {e : Expr} {te : TE} {k : Nat} {p1 p2 p3 pos : Pos} (he : PE X e te) : PE X (.Subscript e (.Slice none none (some (.UnaryOp .USub (.Constant (.int 1) k p1) p2)) p3) pos) (tRevS te) := by
  refine ⟨fun pins s σ H Q I h => ?_⟩
  refine Subscript_ (thn (he.run pins s σ H _ I h) fun v s1 ⟨x, H1, I1, r1, q1⟩ => ?_)
  obtain ⟨z, ex, hz, q⟩ := q1
  subst ex
  obtain ⟨t, rfl⟩ := r1
  have hst : PO X (some (.UnaryOp .USub (.Constant (.int 1) k p1) p2)) (tPart (tUn (rU fun i => .int (-i)) (tC (.int 1)))) := po_some (pe_un un_neg pe_int)
  refine wpAny_Slice (thn (po_none.run pins s1 σ H1 (fun o H2 => o = none ∧ H2 = H1) I1 ⟨rfl, rfl⟩) fun vl s2 ⟨l, H2, I2, pl, el, e2⟩ => ?_)
  subst el e2
  refine thn (po_none.run pins s2 σ H2 (fun o H3 => o = none ∧ H3 = H2) I2 ⟨rfl, rfl⟩) fun vu s3 ⟨u, H3, I3, pu, eu, e3⟩ => ?_
  subst eu e3
  refine thn (hst.run pins s3 σ H3 (fun o H4 => o = some (-1) ∧ H4 = H3) I3 ⟨1, rfl, -1, rfl, rfl, rfl⟩) fun vs s4 ⟨o, H4, I4, ps, eo, e4⟩ => ?_
  subst eo e4
  have I5 : Inv X pins σ H4 { s4 with heap := s4.heap.push { cls := .type "slice", data := .fields #[vl, vu, vs] } } := I4.kept (t' := s4.toks) fun b ob q => Heap.get?_push_of_some _ q
  obtain ⟨l, rfl, hl⟩ := IsPart.raw pl
  obtain ⟨u, rfl, hu⟩ := IsPart.raw pu
  obtain ⟨st, rfl, hs⟩ := IsPart.raw ps
  cases l with
  | some a => cases hl
  | none =>
  cases u with
  | some a => cases hu
  | none =>
  cases st with
  | none => cases hs
  | some a =>
  obtain ⟨i, tk⟩ := a
  cases hs
  show wpAny (model X.prog X.w) X.A (subscriptTail e (.Slice none none (some (.UnaryOp .USub (.Constant (.int 1) k p1) p2)) p3) (.str z t) (.ref s4.heap.objs.size)) (EP X pins σ Q) X.xe { s4 with heap := s4.heap.push { cls := .type "slice", data := .fields #[partValue none, partValue none, partValue (some (-1, tk))] } }
  refine tail_any (ops := [.str z t, .ref s4.heap.objs.size]) (typeIs_str _ _ _) F.slot_str_getitem.lookup ?_ (by with_unfolding_all rfl)
  refine wpAny_getItem_str_slice (l := none) (u := none) (st := some (-1, tk)) ⟨_, Heap.get?_push_size _ rfl, rfl, rfl⟩ rfl ?_
  have hrev := sliceBy_rev z tk
  have e1 : sliceMade z t none none (some (-1, tk)) = Made.str (revZ z) := by
    rw [← hrev]
    unfold sliceMade Txt.sliceBy
    have h1 : ¬ (((((some ((-1 : Int), tk)).map (·.1)).getD 1 == 1) && ((slicePicked z none none (some (-1, tk))).length == z.length)) = true) := by
      have : ((((some ((-1 : Int), tk)).map (·.1)).getD 1 == 1)) = false := rfl
      rw [this]; simp
    rw [if_neg h1, if_neg h1]
  rw [e1]
  exact ⟨by rw [revZ_len]; exact hz, .str _, H4, I5.tok _, ⟨_, rfl⟩, q⟩
variable {e : Expr} {O : List Nat} {f : Fe} {pos : Pos}
def revSG (_ : Sto) : Dt → Option Dt
  | .str z => if z.length ≤ sizeLine then some (.str (revZ z)) else none
  | _ => none
theorem d_revS {k : Nat} {p1 p2 p3 : Pos} (he : PE X e (tB X.K O f)) : PE X (.Subscript e (.Slice none none (some (.UnaryOp .USub (.Constant (.int 1) k p1) p2)) p3) pos) (tD X.K O (bind1 f revSG)) := pe_imp (pe_revS he) fun σ H Q ⟨g, F, env, s, d, s', st, hf, k⟩ => by
  obtain ⟨x, q1, q2⟩ := bind1_some hf
  refine ⟨g, F, env, s, x, s', st, q1, fun v F1 H1 x1 b1 r1 => ?_⟩
  cases x <;> simp only [revSG] at q2 <;> try (cases q2; done)
  split at q2 <;> cases q2
  exact ⟨_, r1.str, by assumption, k _ F1 H1 x1 b1 (.str _)⟩
end
end DL
namespace DL
open PySem PySem.Spec PyProof.Rows L2
/-! ### l.extend(t), t a list or a tuple -/
theorem extend_tup (l : Addr) (items : Array Value) (n : Nat) (b : Addr) (dd : Option Addr) (ss : Array (Option Value)) (items2 : Array Value) (n2 : Nat) (hs0 : ¬(!items.isEmpty && Builtin.List.listTooLong (items.size + items2.size)) = true) (hs1 : items.size ≤ sizeLine) (hs2 : items.size + items2.size ≤ sizeLine + 1) :
    Meets (Builtin.«list.extend» ⟨[.ref l, .ref b], []⟩) (fun _ R s => s.heap.get? l = some { cls := .type "list", dict := none, data := .seq items n, slots := #[] } ∧ s.heap.get? b = some { cls := .type "tuple", dict := dd, data := .seq items2 n2, slots := ss } ∧ R (.ok (.ret Value.none)) { s with heap := s.heap.update l (Obj.mapSeq fun x => x ++ items2), toks := s.toks }) :=
  .of_wp fun prog w A R s h => by
    obtain ⟨hh, hgs, hdr, htk, hos⟩ := s
    obtain ⟨h1, h2, h3⟩ := h
    have q1 := PySem.AutoSeq1.sub_tuple_list
    have q2 := PySem.AutoSeq1.sub_tuple_tuple
    have hsz : (items ++ items2).size ≤ sizeLine + 1 := by rw [Array.size_append]; exact hs2
    wp_walk using (wpAny_updateSeq h1 rfl (hz := hs1) (_hz' := hsz)), PySem.AutoSeq1.wpAny_loadPart' h1, PySem.AutoSeq1.wpAny_loadPart' h2
    exact ⟨_, rfl, h3⟩
def rExtT (K : PySem.W.Frag) : V → List V → Hp → VK → Prop := fun x vs H Q => ∃ l b xs zs, x = .ref l ∧ vs = [.ref b] ∧ H l = some (.lst xs) ∧ SqT K H b zs ∧ xs.length + zs.length ≤ sizeLine ∧ Q .non (upd H l (.lst (xs ++ zs)))
theorem mt_extT {X : Cx} : MtM X "list.extend" (rExtT X.K) := by
  intro pins s σ H x vs v us Q I rx rv h
  obtain ⟨l, b, xs, zs, rfl, rfl, hH, hB, hz, q⟩ := h
  cases rx
  obtain ⟨u, rfl, ru⟩ := rv.one
  cases ru
  obtain ⟨z, its, n, r, hl, e⟩ := I.lstM hH
  obtain ⟨its2, r2, ht, z2⟩ := I.tuple hB
  obtain ⟨o, e2, oc, n2, od⟩ := ht
  obtain ⟨oc', dd, od', ss⟩ := o
  cases oc
  cases od
  have hl2 := r2.length
  have hsz : its.toArray.size + its2.toArray.size ≤ sizeLine := by rw [List.size_toArray, List.size_toArray]; omega
  have hlong : ¬ (!its.toArray.isEmpty && Builtin.List.listTooLong (its.toArray.size + its2.toArray.size)) = true := by
    rw [notLongL hsz, Bool.and_false]
    exact Bool.false_ne_true
  refine call_meets F.slot_list_extend ⟨_, e, rfl⟩ F.entry_list_extend (F.args_list_extend_2 _ _)
    (extend_tup l its.toArray n b dd ss its2.toArray n2 hlong (by rw [List.size_toArray]; omega) (by omega)) ⟨e, e2, ?_⟩
  refine ⟨.non, _, I.lset (its' := its ++ its2) hH e (by simp) (r.append r2) ?_, rfl, q⟩
  rw [List.length_append]
  omega
def rExtA (K : PySem.W.Frag) : V → List V → Hp → VK → Prop := fun x vs H Q => rExtend x vs H Q ∨ rExtT K x vs H Q
theorem mt_extA {X : Cx} : MtM X "list.extend" (rExtA X.K) := by
  intro pins s σ H x vs v us Q I rx rv h
  rcases h with h | h
  · exact mt_extend pins s σ H x vs v us Q I rx rv h
  · exact mt_extT pins s σ H x vs v us Q I rx rv h
def extA (i : Nat) (f : Fe) : Fs := fun env s => match f env s, lstAt env i with
  | some (.lst es, s'), some ds => if ds.length + es.length ≤ sizeLine then some (.nx (env.set i (some (.lst (ds ++ es)))), s') else none
  | some (.tup es, s'), some ds => if ds.length + es.length ≤ sizeLine then some (.nx (env.set i (some (.lst (ds ++ es)))), s') else none
  | _, _ => none
section
variable {X : Cx} {L O : List Nat} {call e : Expr} {i j : Nat} {f fk fv : Fe} {pos : Pos}
theorem s_extA (h : PE X call (tBM X.K "list" (rExtA X.K) (tVar i) (tCons (tB X.K O f) tNil))) (hi : i ∈ O := by decide) (hs : swapsWith call none pos.line X.env = pure false := by rfl) : PS X (.Expr call pos) (tS X.K L O O (extA i f)) := ps_imp (ps_expr h hs) fun D σ H ⟨g, F, env, s, out, s', st, hf, k⟩ => by
  unfold extA at hf
  split at hf
  · rename_i es s1 ds q1 q2
    split at hf <;> cases hf
    rename_i hl
    obtain ⟨p, o, d0, e1, e2, e3, r, n, nf, nh⟩ := st.sl.ow i hi
    rw [lstAt_some q2] at e2
    cases e2
    cases r with
    | lst r =>
      rename_i vs
      refine ⟨.ref p, e1, .inl ⟨rfl, vs, SqL.of e3⟩, g, F, env, s, _, _, st, q1, fun v F1 H1 x1 b1 r1 => ?_⟩
      have st1 := st.step x1 b1
      have e4 : H1 p = some (.lst vs) := x1.ext p _ e3 nf
      obtain ⟨a, us, rfl, e5, r5⟩ := r1.lst b1
      refine .inl ⟨p, a, vs, us, rfl, rfl, e4, e5, by rw [r.length, r5.length]; exact hl, ?_⟩
      exact k σ _ F1 x1.sam (st1.change hi e1 e4 (.lst ((Reps.mono x1.sam _ _ r).append r5)))
  · rename_i es s1 ds q1 q2
    split at hf <;> cases hf
    rename_i hl
    obtain ⟨p, o, d0, e1, e2, e3, r, n, nf, nh⟩ := st.sl.ow i hi
    rw [lstAt_some q2] at e2
    cases e2
    cases r with
    | lst r =>
      rename_i vs
      refine ⟨.ref p, e1, .inl ⟨rfl, vs, SqL.of e3⟩, g, F, env, s, _, _, st, q1, fun v F1 H1 x1 b1 r1 => ?_⟩
      have st1 := st.step x1 b1
      have e4 : H1 p = some (.lst vs) := x1.ext p _ e3 nf
      obtain ⟨a, us, rfl, e5, r5⟩ := r1.tup b1
      refine .inr ⟨p, a, vs, us, rfl, rfl, e4, e5, by rw [r.length, r5.length]; exact hl, ?_⟩
      exact k σ _ F1 x1.sam (st1.change hi e1 e4 (.lst ((Reps.mono x1.sam _ _ r).append r5)))
  · cases hf
end
end DL
namespace DL
open PySem PySem.Spec PyProof.Rows L2
/-- the turns that a while loop may take -/
def FUEL : Nat := 1000000000
theorem whileL_mono {c : Ft} {F : Fs} : ∀ {n m : Nat} {env : Env} {s : Sto} {r : Out × Sto}, whileL c F n env s = some r → n ≤ m → whileL c F m env s = some r
  | 0, _, _, _, _, h, _ => by cases h
  | n + 1, 0, _, _, _, _, hm => absurd hm (by omega)
  | n + 1, m + 1, env, s, r, h, hm => by
    unfold whileL at h ⊢
    split at h
    · split at h
      · exact whileL_mono h (by omega)
      · exact whileL_mono h (by omega)
      · exact h
      · exact h
      · cases h
    · exact h
    · cases h
end DL
namespace DL
open PySem PySem.Spec PyProof.Rows L2
/-! ### {k: v for .. in ..} -/
def dcL (st : Tg) (tt : Ft) (tk te : Fe) (w : Env) : List Dt → List (Key × Dt) → Sto → Option (List (Key × Dt) × Sto)
  | [], acc, s => some (acc, s)
  | d :: ds, acc, s => match st w d with
    | none => none
    | some e1 => match tt e1 s with
      | some (true, s1) => match tk e1 s1 with
        | some (k, s2) => match te e1 s2 with
          | some (v, s3) => match keyOf k with
            | some key => if acc.length < sizeLine then dcL st tt tk te w ds (putD acc key v) s3 else none
            | none => none
          | none => none
        | none => none
      | some (false, s1) => dcL st tt tk te w ds acc s1
      | none => none
def dcF (fi : Fi) (st : Tg) (tt : Ft) (tk te : Fe) (vs : List Nat) : Fe := fun env s => match fi env s with
  | some (ds, s1) => match dcL st tt tk te (wipeE env vs) ds [] s1 with
    | some (ks, s2) => some (.dct ks, s2)
    | none => none
  | none => none
section
variable {K : PySem.W.Frag} {O : List Nat} {fi : Fi} {st : Tg} {tt : Ft} {tk te : Fe} {vs : List Nat}
theorem dc_n {gT : TG} {t1 : TT} (hv : ∀ i, i ∈ vs → i ∉ O) (hT : ∀ v σ H Q, tG K O st v σ H Q → gT v σ H Q) (hw : ∀ v σ H Q, gT v (L2.wipe σ vs) H Q → gT v (L2.wipe σ vs) H fun σ' H' => L2.wipe σ' vs = L2.wipe σ vs ∧ Q σ' H') (hY : ∀ σ H Q, tT K O tt σ H Q → t1 σ H Q)
    (σ : L2.St) (H : Hp) (Q : VK) (h : tN K O (dcF fi st tt tk te vs) σ H Q) : tDc (tI K O fi) gT t1 (tD K O tk) (tD K O te) vs σ H Q := by
  obtain ⟨g, F, env, s, d, s', stt, hf, k⟩ := h
  unfold dcF at hf
  split at hf
  · rename_i ds s1 q
    split at hf
    · rename_i ys s2 ql
      cases hf
      refine ⟨g, F, env, s, ds, s1, stt, q, fun J F1 H1 x1 b1 wk D nD => ?_⟩
      have st1 := stt.step x1 b1
      have stw := Stt.wipe st1 vs hv
      have nF1 : F1 D = none := (Go.made (o := .dK []) b1 nD).2.2
      have nft : D ∉ g.ft := b1.nofree nD
      have nH : H D = none := x1.free b1 nD
      have nhe : g.he D = none := st1.go.free st1.bs nD
      have nO : ∀ j, j ∈ O → (L2.wipe σ vs)[j]? ≠ some (some (.ref D)) := fun j hj e => by
        obtain ⟨p, o, d', e1, _, e3, _⟩ := stw.sl.ow j hj
        rw [e] at e1; cases e1
        rw [nD] at e3; cases e3
      refine ⟨fun i m H2 => m = ds.length - i ∧ ∃ F2 s3 acc accD, Stt K g O F2 H2 (L2.wipe σ vs) (wipeE env vs) s3 ∧ Go g.ft F H F2 H2 ∧ Same F1 F2 ∧ F2 D = none ∧ H2 D = some (.dK acc) ∧ Repk K F2 acc accD ∧ dcL st tt tk te (wipeE env vs) (ds.drop i) accD s3 = some (ys, s'),
        ⟨_, rfl, F1, s1, [], [], stw.apart nF1 nft nhe nO, ?_, Same.refl _, nF1, upd_same, .nil, ql⟩, ?_⟩
      · exact x1.trans ⟨fun c u e _ => by rw [upd_ne (ne_of_none e nD)]; exact e, Same.refl _, fun c u e => .inl e⟩ b1
      rintro i m H2 ⟨rfl, F2, s3, acc, accD, st2, go2, sm2, n2, e2, r2, hl⟩
      obtain ⟨w1, w2⟩ := wk F2 H2 s3 i sm2 st2.bs
      cases qd : ds[i]? with
      | none =>
        have hge : ds.length ≤ i := List.getElem?_eq_none_iff.mp qd
        rw [List.drop_eq_nil_of_le hge] at hl
        unfold dcL at hl
        cases hl
        exact .inl ⟨w1 hge, k D _ F2 H2 go2 st2.bs nH n2 e2 (.dct r2)⟩
      | some d =>
        have hlt : i < ds.length := (List.getElem?_eq_some_iff.mp qd).1
        have ed : ds.drop i = d :: ds.drop (i + 1) := by
          rw [List.drop_eq_getElem_cons hlt]
          have := (List.getElem?_eq_some_iff.mp qd).2
          rw [this]
        rw [ed] at hl
        unfold dcL at hl
        obtain ⟨g1, g2⟩ := w2 d qd
        refine .inr ⟨g1, fun H3 => ∃ F3 s4 acc3 accD3, Stt K g O F3 H3 (L2.wipe σ vs) (wipeE env vs) s4 ∧ Go g.ft F H F3 H3 ∧ Same F1 F3 ∧ F3 D = none ∧ H3 D = some (.dK acc3) ∧ Repk K F3 acc3 accD3 ∧ dcL st tt tk te (wipeE env vs) (ds.drop (i + 1)) accD3 s4 = some (ys, s'),
          fun H3 h3 => ⟨ds.length - (i + 1), by omega, rfl, h3⟩, fun x H3 y => ?_⟩
        obtain ⟨F3, x3, b3, r3⟩ := g2 x H3 y
        have st3 := st2.step x3 b3
        split at hl
        · cases hl
        · rename_i en q1
          refine hw _ _ _ _ (hT _ _ _ _ ⟨g, F3, wipeE env vs, s3, d, en, st3, r3, q1, fun σ4 st4 _ => ?_⟩)
          have n3 : F3 D = none := by
            cases z : F3 D with
            | none => rfl
            | some u =>
              rcases x3.new D u z with z1 | z1
              · rw [n2] at z1; cases z1
              · rw [e2] at z1; cases z1
          have e3 : H3 D = some (.dK acc) := x3.ext D _ e2 nft
          have go3 : Go g.ft F H F3 H3 := go2.trans x3 st2.bs
          split at hl
          · rename_i s5 q5
            refine hY _ _ _ ⟨g, F3, en, s3, true, s5, st4, q5, fun F5 H5 x5 b5 => ?_⟩
            refine iteT ?_
            split at hl
            · rename_i kv s6 q6
              split at hl
              · rename_i yv s7 q7
                split at hl
                · rename_i key qk
                  split at hl
                  · rename_i lz
                    refine ⟨g, F5, en, s5, kv, s6, st4.step x5 b5, q6, fun vk F6 H6 x6 b6 rk => ?_⟩
                    refine ⟨g, F6, en, s6, yv, s7, (st4.step x5 b5).step x6 b6, q7, fun v F7 H7 x7 b7 r7 => ?_⟩
                    have x56 := (x5.trans x6 b5)
                    have x57 := x56.trans x7 b6
                    have e7 : H7 D = some (.dK acc) := x57.ext D _ e3 nft
                    have n7 : F7 D = none := by
                      cases z : F7 D with
                      | none => rfl
                      | some u =>
                        rcases x57.new D u z with z1 | z1
                        · rw [n3] at z1; cases z1
                        · rw [e3] at z1; cases z1
                    have st7 := st3.step x57 b7
                    have lz' : acc.length < sizeLine := by rw [r2.length]; exact lz
                    obtain rfl := keyOf_V (ft := g.ft) (H := H6) (.inl rk) qk
                    have r2' := Repk.put key r7 (Repk.mono (x3.sam.trans x57.sam) _ _ r2)
                    refine ⟨acc, key, rfl, e7, lz', F7, s7, _, _, st7.apart n7 nft nhe nO, ?_, (sm2.trans x3.sam).trans x57.sam, n7, upd_same, r2', hl⟩
                    have go7 : Go g.ft F H F7 H7 := go3.trans x57 st3.bs
                    exact ⟨fun c u e nc => by rw [upd_ne (ne_of_none e nH)]; exact go7.ext c u e nc, go7.sam, go7.new⟩
                  · cases hl
                · cases hl
              · cases hl
            · cases hl
          · rename_i s5 q5
            refine hY _ _ _ ⟨g, F3, en, s3, false, s5, st4, q5, fun F5 H5 x5 b5 => ?_⟩
            refine iteF ?_
            have e5 : H5 D = some (.dK acc) := x5.ext D _ e3 nft
            have n5 : F5 D = none := by
              cases z : F5 D with
              | none => rfl
              | some u =>
                rcases x5.new D u z with z1 | z1
                · rw [n3] at z1; cases z1
                · rw [e3] at z1; cases z1
            exact ⟨F5, s5, acc, accD, st3.step x5 b5, go3.trans x5 st3.bs, (sm2.trans x3.sam).trans x5.sam, n5, e5, Repk.mono (x3.sam.trans x5.sam) _ _ r2, hl⟩
          · cases hl
    · cases hf
  · cases hf
end
section
variable {X : Cx} {O : List Nat} {kx vx tg iter : Expr} {ifs : List Expr} {scope : Scope} {own : List (Str × Nat)} {pos spos py : Pos} {fi : Fi} {tt : Ft} {tk te : Fe} {y : Str}
theorem n_dc {i : Nat} (hc : X.calm = true) (hN : X.N.Nodup) (hi : PI X tg iter (tI X.K O fi)) (ok : BlkOk X.N X.env.scope scope own)
    (hg : ∀ (s : Shared) (H : Hp) (C : Addr) (cl : List (Str × Addr)) (fp : List Addr), PG (X.blk s H scope (compEnvC scope cl C X.env) fp) tg (gName i))
    (ht : ∀ (s : Shared) (H : Hp) (C : Addr) (cl : List (Str × Addr)) (fp : List Addr), PTs (X.blk s H scope (compEnvC scope cl C X.env) fp) ifs (tT X.K O tt))
    (hk : ∀ (s : Shared) (H : Hp) (C : Addr) (cl : List (Str × Addr)) (fp : List Addr), PE (X.blk s H scope (compEnvC scope cl C X.env) fp) kx (tD X.K O tk))
    (he : ∀ (s : Shared) (H : Hp) (C : Addr) (cl : List (Str × Addr)) (fp : List Addr), PE (X.blk s H scope (compEnvC scope cl C X.env) fp) vx (tD X.K O te))
    (hv : ∀ j, j ∈ own.map (·.2) → j ∉ O := by decide) (hm : i ∈ own.map (·.2) := by decide) (hs : ∀ x, foldedSetIterable iter X.env x = pure x := by intro _; rfl) :
    PE X (.DictComp kx vx [⟨tg, iter, ifs, 0⟩] scope pos) (tN X.K O (dcF fi (tgN i) tt tk te (own.map (·.2)))) :=
  pe_imp (pe_dc hc hN hi ok hg ht hk he hs) (dc_n hv (nameT (hv i hm)) (fun v σ H Q h => ⟨wipe_set _ _ hm (wipe_wipe _ _), h⟩) fun _ _ _ h => h)
theorem n_dcP {i j : Nat} (hc : X.calm = true) (hN : X.N.Nodup) (hi : PI X tg iter (tI X.K O fi)) (ok : BlkOk X.N X.env.scope scope own)
    (hg : ∀ (s : Shared) (H : Hp) (C : Addr) (cl : List (Str × Addr)) (fp : List Addr), PG (X.blk s H scope (compEnvC scope cl C X.env) fp) tg (gTup X.K 2 (gCons (gName i) (gCons (gName j) gNil))))
    (ht : ∀ (s : Shared) (H : Hp) (C : Addr) (cl : List (Str × Addr)) (fp : List Addr), PTs (X.blk s H scope (compEnvC scope cl C X.env) fp) ifs (tT X.K O tt))
    (hk : ∀ (s : Shared) (H : Hp) (C : Addr) (cl : List (Str × Addr)) (fp : List Addr), PE (X.blk s H scope (compEnvC scope cl C X.env) fp) kx (tD X.K O tk))
    (he : ∀ (s : Shared) (H : Hp) (C : Addr) (cl : List (Str × Addr)) (fp : List Addr), PE (X.blk s H scope (compEnvC scope cl C X.env) fp) vx (tD X.K O te))
    (hv : ∀ j, j ∈ own.map (·.2) → j ∉ O := by decide) (hm : i ∈ own.map (·.2) := by decide) (hm2 : j ∈ own.map (·.2) := by decide) (hs : ∀ x, foldedSetIterable iter X.env x = pure x := by intro _; rfl) :
    PE X (.DictComp kx vx [⟨tg, iter, ifs, 0⟩] scope pos) (tN X.K O (dcF fi (tgP (tgN i) (tgN j)) tt tk te (own.map (·.2)))) :=
  pe_imp (pe_dc hc hN hi ok hg ht hk he hs) (dc_n hv (pairT (hv i hm) (hv j hm2)) (fun v σ H Q ⟨a, xs, e1, e2, e3, v1, r1, e4, v2, r2, e5, e6, q⟩ => ⟨a, xs, e1, e2, e3, v1, r1, e4, v2, r2, e5, e6, wipe_set _ _ hm2 (wipe_set _ _ hm (wipe_wipe _ _)), q⟩) fun _ _ _ h => h)
/-- name = {.. for ..} -/
theorem ps_setDc {i : Nat} {wi : TI} {g : TG} {t1 : TT} {tk tv : TE} (hc : X.calm = true) (hN : X.N.Nodup) (hy : X.N[i]? = some y) (hyl : X.env.scope.names.lookup y = some .local)
    (hsw : swapsWith (.DictComp kx vx [⟨tg, iter, ifs, 0⟩] scope pos) (some (.Name y py)) spos.line X.env = pure true) (hi : PI X tg iter wi) (ok : BlkOk X.N X.env.scope scope own)
    (hg : ∀ (s : Shared) (H : Hp) (C : Addr) (cl : List (Str × Addr)) (fp : List Addr), PG (X.blk s H scope (compEnvC scope cl C X.env) fp) tg g) (ht : ∀ (s : Shared) (H : Hp) (C : Addr) (cl : List (Str × Addr)) (fp : List Addr), PTs (X.blk s H scope (compEnvC scope cl C X.env) fp) ifs t1)
    (hk : ∀ (s : Shared) (H : Hp) (C : Addr) (cl : List (Str × Addr)) (fp : List Addr), PE (X.blk s H scope (compEnvC scope cl C X.env) fp) kx tk)
    (he : ∀ (s : Shared) (H : Hp) (C : Addr) (cl : List (Str × Addr)) (fp : List Addr), PE (X.blk s H scope (compEnvC scope cl C X.env) fp) vx tv) (hs : ∀ x, foldedSetIterable iter X.env x = pure x := by intro _; rfl) :
    PS X (.Assign [.Name y py] (.DictComp kx vx [⟨tg, iter, ifs, 0⟩] scope pos) spos) (tAsg (tDc wi g t1 tk tv (own.map (·.2))) (gName i)) := by
  refine ⟨fun pins s σ H D I h => ?_⟩
  rw [exec_Assign_Name_used _ _ _ _ hsw]
  refine wpAny_bind (wpAny_standAt (wpAny_bind ?_))
  show wpAny _ X.A (do let _ ← comprehension (.DictComp kx vx [⟨tg, iter, ifs, 0⟩] scope pos) scope X.env (firstIterPos [⟨tg, iter, ifs, 0⟩] pos) newDict false (eval iter X.env) (some (assign (.Name y py) X.env))) _ _ s
  have h : tDc wi g t1 tk tv (own.map (·.2)) σ H (fun x H1 => gName i x σ H1 D.nx) := h
  refine wpAny_bind (thn (dc_core (Qf := fun _ s' => SP X pins D .next s') hc hN I hi ok hg ht hk he hs h fun L C s' m H' I' q hn f => ?_) fun _ s' hq => wpAny_pure (wpAny_pure hq))
  show wpAny _ _ (assign (.Name y py) X.env (.ref L)) _ _ _
  refine wpAny_assign_Name (store_ok2 (v := V.ref L) I' hN hy (.inl hyl) rfl (fun s2 I2 ⟨a, sb, ha⟩ => ?_) (.inr hyl))
  obtain ⟨f0, f1, f2, f3, f4, f5⟩ := f
  have haC : C ≠ a := by
    rcases ha with z | z
    · rw [z]; exact f1
    · exact fun e => f4 y a z e.symm
  refine ⟨m, hn.sameBut sb haC, fun h3 sb3 => ?_⟩
  exact ⟨_, H', I2.turned (t' := s2.toks) (fun b o hb e => (sb3.2 b hb).trans e) f0 f1 f3 f4 f5, q⟩
theorem a_dc {z i : Nat} (hc : X.calm = true) (hN : X.N.Nodup) (hy : X.N[z]? = some y) (hyl : X.env.scope.names.lookup y = some .local) (hsw : swapsWith (.DictComp kx vx [⟨tg, iter, ifs, 0⟩] scope pos) (some (.Name y py)) spos.line X.env = pure true) (hi : PI X tg iter (tI X.K O fi)) (ok : BlkOk X.N X.env.scope scope own)
    (hg : ∀ (s : Shared) (H : Hp) (C : Addr) (cl : List (Str × Addr)) (fp : List Addr), PG (X.blk s H scope (compEnvC scope cl C X.env) fp) tg (gName i))
    (ht : ∀ (s : Shared) (H : Hp) (C : Addr) (cl : List (Str × Addr)) (fp : List Addr), PTs (X.blk s H scope (compEnvC scope cl C X.env) fp) ifs (tT X.K O tt))
    (hk : ∀ (s : Shared) (H : Hp) (C : Addr) (cl : List (Str × Addr)) (fp : List Addr), PE (X.blk s H scope (compEnvC scope cl C X.env) fp) kx (tD X.K O tk))
    (he : ∀ (s : Shared) (H : Hp) (C : Addr) (cl : List (Str × Addr)) (fp : List Addr), PE (X.blk s H scope (compEnvC scope cl C X.env) fp) vx (tD X.K O te))
    (hv : ∀ j, j ∈ own.map (·.2) → j ∉ O := by decide) (hm : i ∈ own.map (·.2) := by decide) (hs : ∀ x, foldedSetIterable iter X.env x = pure x := by intro _; rfl) :
    PS X (.Assign [.Name y py] (.DictComp kx vx [⟨tg, iter, ifs, 0⟩] scope pos) spos) (tAsg (tN X.K O (dcF fi (tgN i) tt tk te (own.map (·.2)))) (gName z)) :=
  asg_imp (ps_setDc hc hN hy hyl hsw hi ok hg ht hk he hs) fun σ H Q q => dc_n hv (nameT (hv i hm)) (fun v σ H Q h => ⟨wipe_set _ _ hm (wipe_wipe _ _), h⟩) (fun _ _ _ h => h) σ H Q q
theorem a_dcP {z i j : Nat} (hc : X.calm = true) (hN : X.N.Nodup) (hy : X.N[z]? = some y) (hyl : X.env.scope.names.lookup y = some .local) (hsw : swapsWith (.DictComp kx vx [⟨tg, iter, ifs, 0⟩] scope pos) (some (.Name y py)) spos.line X.env = pure true) (hi : PI X tg iter (tI X.K O fi)) (ok : BlkOk X.N X.env.scope scope own)
    (hg : ∀ (s : Shared) (H : Hp) (C : Addr) (cl : List (Str × Addr)) (fp : List Addr), PG (X.blk s H scope (compEnvC scope cl C X.env) fp) tg (gTup X.K 2 (gCons (gName i) (gCons (gName j) gNil))))
    (ht : ∀ (s : Shared) (H : Hp) (C : Addr) (cl : List (Str × Addr)) (fp : List Addr), PTs (X.blk s H scope (compEnvC scope cl C X.env) fp) ifs (tT X.K O tt))
    (hk : ∀ (s : Shared) (H : Hp) (C : Addr) (cl : List (Str × Addr)) (fp : List Addr), PE (X.blk s H scope (compEnvC scope cl C X.env) fp) kx (tD X.K O tk))
    (he : ∀ (s : Shared) (H : Hp) (C : Addr) (cl : List (Str × Addr)) (fp : List Addr), PE (X.blk s H scope (compEnvC scope cl C X.env) fp) vx (tD X.K O te))
    (hv : ∀ j, j ∈ own.map (·.2) → j ∉ O := by decide) (hm : i ∈ own.map (·.2) := by decide) (hm2 : j ∈ own.map (·.2) := by decide) (hs : ∀ x, foldedSetIterable iter X.env x = pure x := by intro _; rfl) :
    PS X (.Assign [.Name y py] (.DictComp kx vx [⟨tg, iter, ifs, 0⟩] scope pos) spos) (tAsg (tN X.K O (dcF fi (tgP (tgN i) (tgN j)) tt tk te (own.map (·.2)))) (gName z)) :=
  asg_imp (ps_setDc hc hN hy hyl hsw hi ok hg ht hk he hs) fun σ H Q q => dc_n hv (pairT (hv i hm) (hv j hm2)) (fun v σ H Q ⟨a, xs, e1, e2, e3, v1, r1, e4, v2, r2, e5, e6, q⟩ => ⟨a, xs, e1, e2, e3, v1, r1, e4, v2, r2, e5, e6, wipe_set _ _ hm2 (wipe_set _ _ hm (wipe_wipe _ _)), q⟩) (fun _ _ _ h => h) σ H Q q
end
section
variable {X : Cx} {O : List Nat} {elt tg iter : Expr} {ifs : List Expr} {scope : Scope} {own : List (Str × Nat)} {pos spos py : Pos} {fi : Fi} {tt : Ft} {te : Fe} {y : Str}
/-- name = [.. for a, b in ..] -/
theorem a_lcP {z i j : Nat} (hc : X.calm = true) (hN : X.N.Nodup) (hy : X.N[z]? = some y) (hyl : X.env.scope.names.lookup y = some .local) (hsw : swapsWith (.ListComp elt [⟨tg, iter, ifs, 0⟩] scope pos) (some (.Name y py)) spos.line X.env = pure true) (hi : PI X tg iter (tI X.K O fi)) (ok : BlkOk X.N X.env.scope scope own)
    (hg : ∀ (s : Shared) (H : Hp) (C : Addr) (cl : List (Str × Addr)) (fp : List Addr), PG (X.blk s H scope (compEnvC scope cl C X.env) fp) tg (gTup X.K 2 (gCons (gName i) (gCons (gName j) gNil))))
    (ht : ∀ (s : Shared) (H : Hp) (C : Addr) (cl : List (Str × Addr)) (fp : List Addr), PTs (X.blk s H scope (compEnvC scope cl C X.env) fp) ifs (tT X.K O tt))
    (he : ∀ (s : Shared) (H : Hp) (C : Addr) (cl : List (Str × Addr)) (fp : List Addr), PE (X.blk s H scope (compEnvC scope cl C X.env) fp) elt (tD X.K O te))
    (hv : ∀ j, j ∈ own.map (·.2) → j ∉ O := by decide) (hm : i ∈ own.map (·.2) := by decide) (hm2 : j ∈ own.map (·.2) := by decide) (hs : ∀ x, foldedSetIterable iter X.env x = pure x := by intro _; rfl) :
    PS X (.Assign [.Name y py] (.ListComp elt [⟨tg, iter, ifs, 0⟩] scope pos) spos) (tAsg (tN X.K O (lcF fi (tgP (tgN i) (tgN j)) tt te (own.map (·.2)))) (gName z)) :=
  asg_imp (ps_setLc hc hN hy hyl hsw hi ok hg ht he hs) fun σ H Q q => lc_n hv (pairT (hv i hm) (hv j hm2)) (fun v σ H Q ⟨a, xs, e1, e2, e3, v1, r1, e4, v2, r2, e5, e6, q⟩ => ⟨a, xs, e1, e2, e3, v1, r1, e4, v2, r2, e5, e6, wipe_set _ _ hm2 (wipe_set _ _ hm (wipe_wipe _ _)), q⟩) (fun _ _ _ h => h) σ H Q q
end
section
variable {X : Cx} {L O O' : List Nat} {e : Expr} {f : Fe} {pos : Pos}
/-- what is new is stored, and frozen -/
theorem s_setF {i : Nat} {x : Str} {pos' : Pos} (h : PS X (.Assign [.Name x pos'] e pos) (tAsg (tN X.K O f) (gName i)))
    (h1 : ∀ j, j ∈ O' → j ∈ O ∧ j ≠ i := by decide) (h2 : ∀ j, j ∈ O → j ≠ i → j ∈ O' := by decide) : PS X (.Assign [.Name x pos'] e pos) (tS X.K L O O' (setS i f)) := ps_imp (ps_lkout h) fun D σ H ⟨g, F, env, s, out, s', st, hf, k⟩ => by
  unfold setS at hf
  cases q : f env s with
  | none => rw [q] at hf; cases hf
  | some p =>
    obtain ⟨d, s1⟩ := p
    rw [q] at hf
    cases hf
    exact ⟨g, F, env, s, d, _, st, q, fun p o F' H' x b n n' e r => own_lk st.bs x b n n' e r fun F1 H1 x1 b1 rp => k _ H1 F1 x1.sam ((st.step x1 b1).setD rp h1 h2)⟩
end
end DL
namespace DL
open PySem PySem.Spec PyProof.Rows L2
/-! ### three names at once -/
def par3S (i j l : Nat) (f1 f2 f3 : Fe) : Fs := fun env s => if i < env.length ∧ j < env.length ∧ l < env.length then match f1 env s with
  | some (x, s1) => match f2 env s1 with
    | some (y, s2) => match f3 env s2 with
      | some (z, s3) => some (.nx (((env.set i (some x)).set j (some y)).set l (some z)), s3)
      | none => none
    | none => none
  | none => none
  else none
theorem s_par3 {X : Cx} {L O : List Nat} {st : Stmt} {i j l : Nat} {f1 f2 f3 : Fe} (m1 m2 m3 : Bool) (h : PS X st (tPar3 i j l (tCons (tX m1 X.K O f1) (tCons (tX m2 X.K O f2) (tCons (tX m3 X.K O f3) tNil))))) (O' : List Nat)
    (h1 : ∀ a, a ∈ O' → a ∈ ownX m3 (ownX m2 (ownX m1 O i) j) l := by decide) : PS X st (tS X.K L O O' (par3S i j l f1 f2 f3)) := ps_imp (ps_lkout h) fun D σ H ⟨g, F, env, s, out, s', stt, hf, k⟩ => by
  unfold par3S at hf
  split at hf
  · rename_i hl
    split at hf
    · rename_i x s1 q1
      split at hf
      · rename_i y s2 q2
        split at hf
        · rename_i z s3 q3
          cases hf
          refine tX_hand stt q1 fun v F1 H1 x1 b1 r1 z1 => ?_
          have st1 := stt.step x1 b1
          refine tX_hand st1 q2 fun w F2 H2 x2 b2 r2 z2 => ?_
          have st2 := st1.step x2 b2
          refine tX_hand st2 q3 fun u F3 H3 x3 b3 r3 z3 => ⟨v, w, u, rfl, ?_⟩
          have st3 := st2.step x3 b3
          have r1' := (r1.step x2).step x3
          have r2' := r2.step x3
          have hi : i < σ.length := by rw [stt.sl.len]; exact hl.1
          have hj : j < (σ.set i (some v)).length := by rw [List.length_set, stt.sl.len]; exact hl.2.1
          have a1 := st3.setX r1' hl.1
          have r2'' : Hand X.K g (ownX m1 O i) F3 H3 (σ.set i (some v)) m2 w y := r2'.beside (fun e2 e1 => by
            obtain ⟨p2, rfl, n2⟩ := z2 e2
            subst e1
            obtain ⟨p1, o1, rfl, e1, _⟩ := (show ∃ p o, v = .ref p ∧ H1 p = some o ∧ ObR X.K F1 o x ∧ F1 p = none ∧ p ∉ g.ft ∧ g.he p = none ∧ ∀ j, j ∈ O → σ[j]? ≠ some (some (.ref p)) from r1)
            intro zz
            cases zz
            rw [n2] at e1; cases e1) hi
          have a2 := a1.setX r2'' (by rw [List.length_set]; exact hl.2.1)
          have r3' : Hand X.K g (ownX m1 O i) F3 H3 (σ.set i (some v)) m3 u z := r3.beside (fun e3 e1 => by
            obtain ⟨p3, rfl, n3⟩ := z3 e3
            subst e1
            obtain ⟨p1, o1, rfl, e1, _⟩ := (show ∃ p o, v = .ref p ∧ H2 p = some o ∧ ObR X.K F2 o x ∧ F2 p = none ∧ p ∉ g.ft ∧ g.he p = none ∧ ∀ j, j ∈ O → σ[j]? ≠ some (some (.ref p)) from r1.step x2)
            intro zz
            cases zz
            rw [n3] at e1; cases e1) hi
          have r3'' : Hand X.K g (ownX m2 (ownX m1 O i) j) F3 H3 ((σ.set i (some v)).set j (some w)) m3 u z := r3'.beside (fun e3 e2 => by
            obtain ⟨p3, rfl, n3⟩ := z3 e3
            subst e2
            obtain ⟨p2, o2, rfl, e2, _⟩ := (show ∃ p o, w = .ref p ∧ H2 p = some o ∧ ObR X.K F2 o y ∧ F2 p = none ∧ p ∉ g.ft ∧ g.he p = none ∧ ∀ j, j ∈ O → σ[j]? ≠ some (some (.ref p)) from r2)
            intro zz
            cases zz
            rw [n3] at e2; cases e2) hj
          have a3 := a2.setX r3'' (by rw [List.length_set, List.length_set]; exact hl.2.2)
          exact a3.weak h1 fun F4 H4 sm st4 => k _ H4 F4 (((x1.sam.trans x2.sam).trans x3.sam).trans sm) st4
        · cases hf
      · cases hf
    · cases hf
  · cases hf
end DL
namespace DL
open PySem PySem.Spec PyProof.Rows L2
/-! ### l[k] = v, a list: the name's own, or a handle -/
def setI (xs : List Dt) (k : Int) (v : Dt) : Option (List Dt) := (ixN xs.length k).map fun j => xs.set j v
theorem Reps.set {K : PySem.W.Frag} {F : Hp} {v : V} {d : Dt} (r : Rep K F v d) : ∀ {vs : List V} {ds : List Dt} (j : Nat), Reps K F vs ds → Reps K F (vs.set j v) (ds.set j d)
  | [], [], _, h => h
  | [], _ :: _, _, h => by cases h
  | _ :: _, [], _, h => by cases h
  | _ :: _, _ :: _, 0, h => by cases h with | cons _ t => exact .cons r t
  | _ :: _, _ :: _, j + 1, h => by cases h with | cons a t => exact .cons a (Reps.set r j t)
def hputL (i : Nat) (fk fv : Fe) : Fs := fun env s => match fv env s with
  | some (v, s1) => match fk env s1, env[i]? with
    | some (.int k, s2), some (some (.ref a)) => match s2.lookup a with
      | some (.lst xs) => match setI xs k v with
        | some ys => some (.nx env, s2.map fun q => if q.1 = a then (a, .lst ys) else q)
        | none => none
      | _ => none
    | _, _ => none
  | none => none
def dputL (i : Nat) (fk fv : Fe) : Fs := fun env s => match fv env s with
  | some (v, s1) => match fk env s1, lstAt env i with
    | some (.int k, s2), some xs => match setI xs k v with
      | some ys => some (.nx (env.set i (some (.lst ys))), s2)
      | none => none
    | _, _ => none
  | none => none
section
variable {X : Cx} {L O : List Nat} {st : Stmt} {i : Nat} {fk fv : Fe}
theorem setI_some {xs ys : List Dt} {k : Int} {v : Dt} (h : setI xs k v = some ys) : ∃ j, ixN xs.length k = some j ∧ ys = xs.set j v := by
  unfold setI at h
  cases q : ixN xs.length k with
  | none => rw [q] at h; cases h
  | some j => rw [q] at h; cases h; exact ⟨j, rfl, rfl⟩
theorem s_dputL (h : PS X st (tAsg (tD X.K O fv) (gSub (tVar i) (tB X.K O fk) rSetL))) (hi : i ∈ O := by decide) : PS X st (tS X.K L O O (dputL i fk fv)) := ps_imp h fun D σ H ⟨g, F, env, s, out, s', stt, hf, k⟩ => by
  unfold dputL at hf
  split at hf
  · rename_i v s1 q1
    split at hf
    · rename_i j s2 xs q2 q3
      split at hf <;> cases hf
      rename_i ys q4
      obtain ⟨m, e4, rfl⟩ := setI_some q4
      refine ⟨g, F, env, s, v, s1, stt, q1, fun u F1 H1 x1 b1 r1 => ?_⟩
      have st1 := stt.step x1 b1
      obtain ⟨p, o, d0, e1, e2, e3, r, n, nf, nh⟩ := st1.sl.ow i hi
      rw [lstAt_some q3] at e2
      cases e2
      cases r with
      | lst r =>
        rename_i vs
        refine ⟨.ref p, e1, g, F1, env, s1, _, _, st1, q2, fun w F2 H2 x2 b2 r2 => ?_⟩
        have st2 := st1.step x2 b2
        have e5 : H2 p = some (.lst vs) := x2.ext p _ e3 nf
        obtain rfl := r2.int
        refine ⟨p, vs, _, m, rfl, rfl, e5, by rw [r.length]; exact e4, ?_⟩
        exact k σ _ F2 (x1.sam.trans x2.sam) (st2.change hi e1 e5 (.lst (Reps.set (Rep.mono x2.sam _ _ r1) m (Reps.mono x2.sam _ _ r))))
    · cases hf
  · cases hf
theorem s_hputL (h : PS X st (tAsg (tD X.K O fv) (gSub (tVar i) (tB X.K O fk) rSetL))) (hi : i ∉ O := by decide) : PS X st (tS X.K L O O (hputL i fk fv)) := ps_imp h fun D σ H ⟨g, F, env, s, out, s', stt, hf, k⟩ => by
  unfold hputL at hf
  split at hf
  · rename_i v s1 q1
    split at hf
    · rename_i j s2 a q2 q3
      split at hf
      · rename_i xs q5
        split at hf <;> cases hf
        rename_i ys q4
        obtain ⟨m, e6, rfl⟩ := setI_some q4
        refine ⟨g, F, env, s, v, s1, stt, q1, fun u F1 H1 x1 b1 r1 => ?_⟩
        have st1 := stt.step x1 b1
        obtain ⟨va, e1, ra⟩ := st1.sl.pu i _ hi q3
        cases ra
        refine ⟨.ref a, e1, g, F1, env, s1, _, s2, st1, q2, fun w F2 H2 x2 b2 r2 => ?_⟩
        have st2 := st1.step x2 b2
        obtain ⟨ob, e4, r4⟩ := b2.st _ _ (lookup_mem q5)
        cases r4 with
        | lst r4 =>
          obtain rfl := r2.int
          refine ⟨a, _, _, m, rfl, rfl, e4, by rw [r4.length]; exact e6, ?_⟩
          exact k σ _ F2 (x1.sam.trans x2.sam) (st2.put (lookup_ft b2 q5) (.lst (Reps.set (Rep.mono x2.sam _ _ r1) m r4)))
      · cases hf
    · cases hf
  · cases hf
end
/-! ### so many names at once -/
section
variable {X : Cx} {pos tpos pt2 : Pos} {kt k2 : Nat}
theorem ps_parT {elts es : List Expr} {ta : TA} {gs : TGs} {n : Nat} (hc : X.calm = true) (ha : PA X es ta) (hg : PGs X elts gs)
    (hn : (assignEach elts X.env).length = n := by rfl) (hz : n ≤ sizeLine := by decide) (hst : (assignEach elts X.env).findIdx? (·.1) = none := by rfl)
    (hs : swapsWithSole [.Tuple elts kt tpos] (.Tuple es k2 pt2) pos.line X.env = pure false := by rfl)
    (hw : swappedStores [.Tuple elts kt tpos] (.Tuple es k2 pt2) X.env = pure none := by rfl)
    (h1 : (assignEach [.Tuple elts kt tpos] X.env).map (·.2) = [assign (.Tuple elts kt tpos) X.env] := by rfl) :
    PS X (.Assign [.Tuple elts kt tpos] (.Tuple es k2 pt2) pos) (fun D σ H => ta σ H fun vs H1 => vs.length = n ∧ gs vs σ H1 D.nx) := by
  refine ⟨fun pins s σ H D I h => ?_⟩
  refine wpAny_Assign_stores (Tuple_ (thn (ha.run _ pins s σ H _ I h) fun us s1 ⟨vs, H1, I1, r1, hl, q1⟩ => ?_)) hs hw
  have hlen := r1.length
  refine wpAny_newObj_type ?_ (by show us.toArray.size ≤ sizeLine; rw [List.size_toArray]; omega)
  have I2 : Inv X pins σ H1 { s1 with heap := s1.heap.push { cls := .type "tuple", data := .seq us.toArray } } := I1.kept (t' := s1.toks) fun b o e => Heap.get?_push_of_some _ e
  rw [h1]
  refine thn (Q := fun _ s' => ∃ σ' H', Inv X pins σ' H' s' ∧ D.nx σ' H') (assign_Tuple_tuple (I2.ok.hd hc) (IsTup.new s1.heap _) (by rw [hn, List.size_toArray]; omega) hst fun h' hx => ?_) fun _ s2 q => q
  have I3 := I2.kept (h' := h') (t' := s1.toks) fun b o e => hx b o (Nat.ne_of_lt (Heap.lt_size e)) e
  exact hg.run pins _ σ H1 vs _ _ I3 (by simpa using r1) q1
end

def evalL : List Fe → Env → Sto → Option (List Dt × Sto)
  | [], _, s => some ([], s)
  | f :: fs, env, s => match f env s with
    | some (d, s1) => match evalL fs env s1 with
      | some (ds, s2) => some (d :: ds, s2)
      | none => none
    | none => none
def setL : List Nat → List Dt → Env → Env
  | i :: is, d :: ds, env => setL is ds (env.set i (some d))
  | _, _, env => env
def parNS (is : List Nat) (fs : List Fe) : Fs := fun env s => if is.all (fun i => decide (i < env.length)) = true then match evalL fs env s with
  | some (ds, s1) => if is.length = ds.length then some (.nx (setL is ds env), s1) else none
  | none => none
  else none
def tXs (K : PySem.W.Frag) (O : List Nat) : List Bool → List Fe → TA
  | m :: ms, f :: fs => tCons (tX m K O f) (tXs K O ms fs)
  | _, _ => tNil
def gXs : List Nat → TGs
  | [] => gNil
  | i :: is => gCons (gName i) (gXs is)
def ownL : List Bool → List Nat → List Nat → List Nat
  | m :: ms, i :: is, O => ownL ms is (ownX m O i)
  | _, _, O => O
def NeL (v : V) : List Bool → List V → Prop
  | m :: ms, w :: vs => (m = true → v ≠ w) ∧ NeL v ms vs
  | _, _ => True
def Hands (K : PySem.W.Frag) (g : Gd) (O : List Nat) (F H : Hp) (σ : L2.St) : List Bool → List V → List Dt → Prop
  | m :: ms, v :: vs, d :: ds => Hand K g O F H σ m v d ∧ (m = true → NeL v ms vs) ∧ Hands K g O F H σ ms vs ds
  | [], [], [] => True
  | _, _, _ => False
def FrL (H : Hp) : List Bool → List V → Prop
  | m :: ms, w :: vs => (m = true → ∃ p, w = .ref p ∧ H p = none) ∧ FrL H ms vs
  | _, _ => True
def setV : List Nat → List V → L2.St → L2.St
  | i :: is, v :: vs, σ => setV is vs (σ.set i (some v))
  | _, _, σ => σ
section
variable {K : PySem.W.Frag} {g : Gd} {O : List Nat} {F H F' H' : Hp} {σ : L2.St} {env : Env} {s s' : Sto}
theorem Hands.beside {i : Nat} {v : V} {m' : Bool} (hi : i < σ.length) : ∀ {ms : List Bool} {vs : List V} {ds : List Dt}, Hands K g O F H σ ms vs ds → (m' = true → NeL v ms vs) → Hands K g (ownX m' O i) F H (σ.set i (some v)) ms vs ds
  | [], [], [], _, _ => trivial
  | m :: ms, w :: vs, d :: ds, h, n => ⟨h.1.beside (fun a b => (n b).1 a) hi, h.2.1, Hands.beside hi h.2.2 fun b => (n b).2⟩
  | [], [], _ :: _, h, _ => h.elim
  | [], _ :: _, [], h, _ => h.elim
  | [], _ :: _, _ :: _, h, _ => h.elim
  | _ :: _, [], [], h, _ => h.elim
  | _ :: _, [], _ :: _, h, _ => h.elim
  | _ :: _, _ :: _, [], h, _ => h.elim
theorem Hands.store : ∀ {ms : List Bool} {is : List Nat} {vs : List V} {ds : List Dt} {O : List Nat} {σ : L2.St} {env : Env}, Stt K g O F H σ env s → Hands K g O F H σ ms vs ds → is.length = ds.length → is.all (fun i => decide (i < env.length)) = true →
    Stt K g (ownL ms is O) F H (setV is vs σ) (setL is ds env) s
  | [], [], [], [], _, _, _, st, _, _, _ => st
  | m :: ms, i :: is, v :: vs, d :: ds, O, σ, env, st, h, hl, ha => by
    rw [List.all_cons, Bool.and_eq_true] at ha
    have hi := of_decide_eq_true ha.1
    have e1 := st.setX h.1 hi
    exact Hands.store (ms := ms) (is := is) (vs := vs) (ds := ds) (O := ownX m O i) (σ := σ.set i (some v)) (env := env.set i (some d)) e1 (h.2.2.beside (by rw [st.sl.len]; exact hi) h.2.1) (Nat.succ.inj hl) (by rw [List.length_set]; exact ha.2)
  | [], [], [], _ :: _, _, _, _, _, h, _, _ => h.elim
  | [], [], _ :: _, [], _, _, _, _, h, _, _ => h.elim
  | [], [], _ :: _, _ :: _, _, _, _, _, h, _, _ => h.elim
  | [], _ :: _, [], [], _, _, _, _, _, hl, _ => nomatch hl
  | [], _ :: _, [], _ :: _, _, _, _, _, h, _, _ => h.elim
  | [], _ :: _, _ :: _, [], _, _, _, _, h, _, _ => h.elim
  | [], _ :: _, _ :: _, _ :: _, _, _, _, _, h, _, _ => h.elim
  | _ :: _, [], [], [], _, _, _, _, h, _, _ => h.elim
  | _ :: _, [], [], _ :: _, _, _, _, _, h, _, _ => h.elim
  | _ :: _, [], _ :: _, [], _, _, _, _, h, _, _ => h.elim
  | _ :: _, [], _ :: _, _ :: _, _, _, _, _, _, hl, _ => nomatch hl
  | _ :: _, _ :: _, [], [], _, _, _, _, h, _, _ => h.elim
  | _ :: _, _ :: _, [], _ :: _, _, _, _, _, h, _, _ => h.elim
  | _ :: _, _ :: _, _ :: _, [], _, _, _, _, h, _, _ => h.elim
theorem Go.dom (x : Go g.ft F H F' H') (b : Bs K g.ft F' H' s') {p : Addr} (n : H' p = none) : H p = none := by
  cases q : H p with
  | none => rfl
  | some o =>
    by_cases c : p ∈ g.ft
    · obtain ⟨d, o2, _, e, _⟩ := b.has c
      rw [n] at e; cases e
    · rw [x.ext p o q c] at n; cases n
theorem FrL.back (x : Go g.ft F H F' H') (b : Bs K g.ft F' H' s') : ∀ {ms : List Bool} {vs : List V}, FrL H' ms vs → FrL H ms vs
  | [], _, _ => trivial
  | _ :: _, [], _ => trivial
  | _ :: _, _ :: _, h => ⟨fun z => let ⟨p, e, n⟩ := h.1 z; ⟨p, e, Go.dom x b n⟩, FrL.back x b h.2⟩
theorem FrL.ne {p : Addr} {o : HO} (e : H p = some o) : ∀ {ms : List Bool} {vs : List V}, FrL H ms vs → NeL (.ref p) ms vs
  | [], _, _ => trivial
  | _ :: _, [], _ => trivial
  | _ :: _, _ :: _, h => ⟨fun z c => (by
    obtain ⟨q, e1, n⟩ := h.1 z
    rw [← c] at e1
    cases e1
    rw [e] at n; cases n), FrL.ne e h.2⟩
theorem tXs_hand : ∀ {ms : List Bool} {fs : List Fe} {F H : Hp} {s : Sto} {ds : List Dt} {Q : List V → Hp → Prop}, ms.length = fs.length → Stt K g O F H σ env s → evalL fs env s = some (ds, s') →
    (∀ vs F' H', Go g.ft F H F' H' → Bs K g.ft F' H' s' → Hands K g O F' H' σ ms vs ds → FrL H ms vs → Q vs H') → tXs K O ms fs σ H Q
  | [], [], F, H, s, ds, Q, _, st, hf, k => by
    cases hf
    exact k [] F H Go.refl st.bs trivial trivial
  | [], _ :: _, _, _, _, _, _, hl, _, _, _ => nomatch hl
  | _ :: _, [], _, _, _, _, _, hl, _, _, _ => nomatch hl
  | m :: ms, f :: fs, F, H, s, ds, Q, hl, st, hf, k => by
    unfold evalL at hf
    split at hf
    · rename_i d s1 q1
      split at hf <;> cases hf
      rename_i ds' q2
      refine tX_hand st q1 fun v F1 H1 x1 b1 r1 z1 => ?_
      refine tXs_hand (Nat.succ.inj hl) (st.step x1 b1) q2 fun vs F2 H2 x2 b2 r2 z2 => ?_
      refine k (v :: vs) F2 H2 (x1.trans x2 b1) b2 ⟨r1.step x2, fun e => ?_, r2⟩ ⟨z1, FrL.back x1 b1 z2⟩
      subst e
      obtain ⟨p1, o1, rfl, e1, _⟩ := (show ∃ p o, v = .ref p ∧ H1 p = some o ∧ ObR K F1 o d ∧ F1 p = none ∧ p ∉ g.ft ∧ g.he p = none ∧ ∀ j, j ∈ O → σ[j]? ≠ some (some (.ref p)) from r1)
      exact FrL.ne e1 z2
    · cases hf
theorem Hands.len : ∀ {ms : List Bool} {vs : List V} {ds : List Dt}, Hands K g O F H σ ms vs ds → vs.length = ds.length
  | [], [], [], _ => rfl
  | m :: ms, w :: vs, d :: ds, h => congrArg (· + 1) (Hands.len h.2.2)
  | [], [], _ :: _, h => h.elim
  | [], _ :: _, [], h => h.elim
  | [], _ :: _, _ :: _, h => h.elim
  | _ :: _, [], [], h => h.elim
  | _ :: _, [], _ :: _, h => h.elim
  | _ :: _, _ :: _, [], h => h.elim
theorem gXs_set {Q : L2.St → Hp → Prop} : ∀ {is : List Nat} {vs : List V} {σ : L2.St}, is.length = vs.length → Q (setV is vs σ) H → gXs is vs σ H Q
  | [], [], _, _, q => ⟨rfl, q⟩
  | i :: is, v :: vs, σ, hl, q => ⟨v, vs, rfl, gXs_set (Nat.succ.inj hl) q⟩
  | [], _ :: _, _, hl, _ => nomatch hl
  | _ :: _, [], _, hl, _ => nomatch hl
end
theorem s_parN {X : Cx} {L O : List Nat} {st : Stmt} {is : List Nat} {fs : List Fe} {n : Nat} (ms : List Bool) (h : PS X st (fun D σ H => tXs X.K O ms fs σ H fun vs H1 => vs.length = n ∧ gXs is vs σ H1 D.nx)) (hm : ms.length = fs.length) (hn : is.length = n) (O' : List Nat)
    (h1 : ∀ a, a ∈ O' → a ∈ ownL ms is O := by decide) : PS X st (tS X.K L O O' (parNS is fs)) := ps_imp (ps_lkout h) fun D σ H ⟨g, F, env, s, out, s', stt, hf, k⟩ => by
  unfold parNS at hf
  split at hf
  · rename_i hl
    split at hf
    · rename_i ds s1 q1
      split at hf <;> cases hf
      rename_i hz
      refine tXs_hand hm stt q1 fun vs F1 H1 x1 b1 r1 _ => ⟨by rw [r1.len, ← hz, hn], ?_⟩
      refine gXs_set (by rw [r1.len, hz]) ?_
      have st1 := Hands.store (stt.step x1 b1) r1 hz hl
      exact st1.weak h1 fun F2 H2 sm st2 => k _ H2 F2 (x1.sam.trans sm) st2
    · cases hf
  · cases hf

/-! ### expressions that change what a name owns -/
abbrev FeX := Env → Sto → Option (Dt × Env × Sto)
def tDX (K : PySem.W.Frag) (O : List Nat) (f : FeX) : TE := fun σ H Q => ∃ g F env s d env' s', Stt K g O F H σ env s ∧ f env s = some (d, env', s') ∧ ∀ v F' H', Same F F' → Stt K g O F' H' σ env' s' → Rep K F' v d → Q v H'
/-- D[L.pop()], D a dict -/
def ixPopF (fa : Fe) (i : Nat) : FeX := fun env s => match fa env s with
  | some (.dct ks, s1) => match lstAt env i with
    | some ds => match ds[ds.length - 1]? with
      | some d => match keyOf d with
        | some k => match valD ks k with
          | some v => some (v, env.set i (some (.lst ds.dropLast)), s1)
          | none => none
        | none => none
      | none => none
    | none => none
  | _ => none
abbrev FiX := Env → Sto → Option (List Dt × Env × Sto)
def tIX (K : PySem.W.Frag) (O : List Nat) (f : FiX) : TI := fun σ H R => ∃ g F env s ds env' s', Stt K g O F H σ env s ∧ f env s = some (ds, env', s') ∧ ∀ J F' H', Same F F' → Stt K g O F' H' σ env' s' → WalkJ K g.ft F' J ds → R J H'
def seqO3 : Dt → Option (List Dt)
  | .lst xs => some xs
  | .tup xs => some xs
  | .str z => some (z.cps.toList.map fun c => .str ⟨#[c]⟩)
  | _ => none
def seqX (f : FeX) : FiX := fun env s => match f env s with
  | some (x, env', s') => match seqO3 x with
    | some xs => some (xs, env', s')
    | none => none
  | none => none
def forXF (fi : FiX) (st : Tg) (F : Fs) : Fs := fun env s => match fi env s with
  | some (ds, e1, s1) => loopF st F ds e1 s1
  | none => none
section
variable {X : Cx} {L O : List Nat} {tg e o ix iter : Expr} {i : Nat} {fa : Fe} {f : FeX} {fi : FiX} {t : Tg} {F : Fs} {body : List Stmt} {pos : Pos}
theorem x_ixPop (hu : X.A.units + 1 < cLine) (ho : PE X o (tD X.K O fa)) (hp : PE X ix (tBM0 X.K "list" rPop (tVar i))) (hi : i ∈ O := by decide) (hs : NoSl ix := by intro _ _; rfl) : PE X (.Subscript o ix pos) (tDX X.K O (ixPopF fa i)) := pe_imp (pe_dget hu ho hp hs) fun σ H Q ⟨g, F, env, s, d, env', s', st, hf, k⟩ => by
  unfold ixPopF at hf
  split at hf
  · rename_i ks s1 q1
    split at hf
    · rename_i ds q2
      split at hf
      · rename_i d0 q3
        split at hf
        · rename_i key q4
          split at hf <;> cases hf
          rename_i q5
          refine ⟨g, F, env, s, _, _, st, q1, fun v F1 H1 x1 b1 r1 => ?_⟩
          have st1 := st.step x1 b1
          obtain ⟨p, o2, d2, e1, e2, e3, r, n, nf, nh⟩ := st1.sl.ow i hi
          rw [lstAt_some q2] at e2
          cases e2
          cases r with
          | lst r =>
            rename_i vs
            obtain ⟨u, e5, r5⟩ := r.get q3
            have rd : Reps X.K F1 vs.dropLast ds.dropLast := by
              rw [List.dropLast_eq_take, List.dropLast_eq_take, r.length]
              exact r.take _
            have st2 := st1.change hi e1 e3 (.lst rd)
            refine ⟨.ref p, e1, .inl ⟨rfl, vs, SqL.of e3⟩, p, vs, u, rfl, rfl, e3, by rw [r.length]; exact e5, ?_⟩
            cases r1 with
            | @dct a od kvs _ ep rk =>
              obtain ⟨w, g1, g2⟩ := (rk.val key).1 _ q5
              obtain rfl := keyOf_V (ft := g.ft) (H := upd H1 p (.lst vs.dropLast)) (.inl r5) q4
              refine ⟨_, w, rfl, ?_, k w F1 _ x1.sam st2 g2⟩
              rw [← g1]
              exact .inl ⟨kvs, key, .inr ⟨od, st2.bs.sub _ _ ep⟩, rfl, rfl⟩
        · cases hf
      · cases hf
    · cases hf
  · cases hf
theorem i_seqX (hl : PI X tg e (iList X.K (tDX X.K O f))) (ht : PI X tg e (iTup X.K (tDX X.K O f))) (hs : PI X tg e (iStr (tDX X.K O f))) : PI X tg e (tIX X.K O (seqX f)) := pi_imp (pi_or hl (pi_or ht hs)) fun σ H R ⟨g, F, env, s, ds, env', s', st, hf, k⟩ => by
  unfold seqX at hf
  split at hf
  · rename_i x e1 s1 q
    split at hf <;> cases hf
    rename_i q2
    cases x <;> simp only [seqO3] at q2 <;> try (cases q2; done)
    · cases q2
      refine .inr (.inr ⟨g, F, env, s, _, _, s', st, q, fun v F' H' x st' r => ?_⟩)
      cases r
      exact ⟨_, rfl, k _ F' H' x st' (walk_str _)⟩
    · cases q2
      refine .inr (.inl ⟨g, F, env, s, _, _, s', st, q, fun v F' H' x st' r => ?_⟩)
      cases r with
      | tup h1 hp h2 => exact ⟨_, rfl, ⟨_, sqT_same st'.bs.sub h1⟩, k _ F' H' x st' (walk_tup h1 h2)⟩
    · cases q2
      refine .inl ⟨g, F, env, s, _, _, s', st, q, fun v F' H' x st' r => ?_⟩
      cases r with
      | lst h1 h2 => exact ⟨_, rfl, ⟨_, SqL.of (st'.bs.sub _ _ h1)⟩, k _ F' H' x st' (walk_list (fun F2 H2 e1 e2 => SqL.of (e2 _ _ (e1 _ _ h1))) h2)⟩
  · cases hf
theorem s_forX (hp : PassesOwn (model X.prog X.w) X.A X.env X.xe) (hc : X.calm = true) (hi : PI X tg iter (tIX X.K O fi)) (hg : PG X tg (tG X.K O t)) (hb : PSs X body (tS X.K O O O F))
    (hs : ∀ x, foldedSetIterable iter X.env x = pure x := by intro _; rfl) : PS X (.For tg iter body [] pos) (tS X.K L O O (forXF fi t F)) := ps_imp (ps_for hp hc hi hg hb hs) fun D σ H ⟨g, F0, env, s, out, s', st, hf, k⟩ => by
  unfold forXF at hf
  split at hf
  · rename_i ds env1 s1 q
    refine ⟨g, F0, env, s, ds, env1, s1, st, q, fun J F1 H1 x1 st1 wk => ?_⟩
    refine ⟨fun i m σ2 H2 => m = ds.length - i ∧ ∃ F2 env2 s2, Stt X.K g O F2 H2 σ2 env2 s2 ∧ Same F1 F2 ∧ loopF t F (ds.drop i) env2 s2 = some (out, s'), ⟨_, rfl, F1, env1, s1, st1, Same.refl _, hf⟩, ?_⟩
    rintro i m σ2 H2 ⟨rfl, F2, env2, s2, st2, sm, hl⟩
    obtain ⟨w1, w2⟩ := wk F2 H2 s2 i sm st2.bs
    cases qd : ds[i]? with
    | none =>
      have hge : ds.length ≤ i := List.getElem?_eq_none_iff.mp qd
      rw [List.drop_eq_nil_of_le hge] at hl
      unfold loopF at hl
      cases hl
      exact .inl ⟨w1 hge, k σ2 H2 F2 (x1.trans sm) st2⟩
    | some d =>
      have hlt : i < ds.length := (List.getElem?_eq_some_iff.mp qd).1
      have ed : ds.drop i = d :: ds.drop (i + 1) := by
        rw [List.drop_eq_getElem_cons hlt]
        have := (List.getElem?_eq_some_iff.mp qd).2
        rw [this]
      rw [ed] at hl
      unfold loopF at hl
      obtain ⟨g1, g2⟩ := w2 d qd
      refine .inr ⟨g1, fun σ3 H3 => ∃ F3 env3 s3, Stt X.K g O F3 H3 σ3 env3 s3 ∧ Same F1 F3 ∧ loopF t F (ds.drop (i + 1)) env3 s3 = some (out, s'), fun σ3 H3 ⟨F3, env3, s3, st3, sm3, hl3⟩ => ⟨ds.length - (i + 1), by omega, rfl, F3, env3, s3, st3, sm3, hl3⟩, fun x H3 y => ?_⟩
      obtain ⟨F3, x3, b3, r3⟩ := g2 x H3 y
      have st3 := st2.step x3 b3
      split at hl
      · cases hl
      · rename_i e1 q1
        refine ⟨g, F3, env2, s2, d, e1, st3, r3, q1, fun σ4 st4 _ => ?_⟩
        split at hl
        · rename_i e2 s5 q5
          exact ⟨g, F3, e1, s2, .nx e2, s5, st4, q5, fun σ6 H6 F6 e6 st6 => ⟨F6, e2, s5, st6, (sm.trans x3.sam).trans e6, hl⟩⟩
        · rename_i e2 s5 q5
          exact ⟨g, F3, e1, s2, .ct e2, s5, st4, q5, fun σ6 H6 F6 e6 st6 => ⟨F6, e2, s5, st6, (sm.trans x3.sam).trans e6, hl⟩⟩
        · rename_i e2 s5 q5
          cases hl
          exact ⟨g, F3, e1, s2, .bk e2, _, st4, q5, fun σ6 H6 F6 e6 st6 => k σ6 H6 F6 (((x1.trans sm).trans x3.sam).trans e6) st6⟩
        · rename_i d5 s5 q5
          cases hl
          exact ⟨g, F3, e1, s2, .rt d5, _, st4, q5, k⟩
        · cases hl
  · cases hf
end
end DL
namespace DL
open PySem PySem.Spec PyProof.Rows L2
def Fis_integer : Fs := (retS (andV (bind1 (fVar 0) (isiG "int")) (notV (bind1 (fVar 0) (isiG "bool")))))
def Vis_integer : List Dt → Sto → Option (Dt × Sto) := fnV 1 Fis_integer
def Fis_thing : Fs := (retS (andV (bind1 (fVar 0) (isiG "str")) (bindA (aCons (lcF (seqF (fVar 0)) (tgN 1) yesT (chain3 (fC (.str "a")) (fVar 1) (fC (.str "z")) leG leG) [1]) aNil) allG)))
def Vis_thing : List Dt → Sto → Option (Dt × Sto) := fnV 2 Fis_thing
def Fis_pair : Fs := (retS (andV (bind1 (fVar 0) (isiG "tuple")) (bind2 (bindA (aCons (fVar 0) aNil) lenG) (fC (.int 2)) eqG)))
def Vis_pair : List Dt → Sto → Option (Dt × Sto) := fnV 1 Fis_pair
def Fis_rising : Fs := (retS (bindA (aCons (lcF (rngF1 (bind2 (bindA (aCons (fVar 0) aNil) lenG) (fC (.int 1)) subG)) (tgN 1) yesT (bind2 (bind2 (fVar 0) (fVar 1) ixA) (bind2 (fVar 0) (bind2 (fVar 1) (fC (.int 1)) addAll) ixA) ltG) [1]) aNil) allG))
def Vis_rising : List Dt → Sto → Option (Dt × Sto) := fnV 2 Fis_rising
def Fletters_reached : Fs := (seqS (setNS 2 emptyG) (seqS (setNS 3 (bindA (aCons (bind2 (fVar 0) (fVar 1) ixA) aNil) toLstG)) (seqS (whileS (truF (fVar 3)) (seqS (popS 3 4) (ifS (asB (bind2 (fVar 4) (fVar 2) notinA)) (seqS (dputS 2 (fVar 4) (fC (.bl true))) (extA 3 (bind2 (fVar 0) (fVar 4) ixA))) skipS)) FUEL) (retS (bindA (aCons (bindA (aCons (bindA (aCons (fVar 2) aNil) toLstG) aNil) sortedG_) aNil) toTupG)))))
def Vletters_reached : List Dt → Sto → Option (Dt × Sto) := fnV 5 Fletters_reached
def Fis_number : Fs := (retS (andV (callF Vis_integer (aCons (fVar 0) aNil)) (bind2 (fVar 0) (fC (.int 0)) geG)))
def Vis_number : List Dt → Sto → Option (Dt × Sto) := fnV 1 Fis_number
def Fis_letter : Fs := (retS (andV (callF Vis_thing (aCons (fVar 0) aNil)) (bind2 (bindA (aCons (fVar 0) aNil) lenG) (fC (.int 1)) eqG)))
def Vis_letter : List Dt → Sto → Option (Dt × Sto) := fnV 1 Fis_letter
def Fis_things : Fs := (retS (andV (bind1 (fVar 0) (isiG "tuple")) (andV (bindA (aCons (lcF (seqF (fVar 0)) (tgN 1) yesT (callF Vis_thing (aCons (fVar 1) aNil)) [1]) aNil) allG) (callF Vis_rising (aCons (fVar 0) aNil)))))
def Vis_things : List Dt → Sto → Option (Dt × Sto) := fnV 2 Fis_things
def Fis_count : Fs := (retS (andV (callF Vis_integer (aCons (fVar 0) aNil)) (bind2 (fVar 0) (fC (.int 1)) geG)))
def Vis_count : List Dt → Sto → Option (Dt × Sto) := fnV 1 Fis_count
def Fis_weights : Fs := (retS (andV (bind1 (fVar 0) (isiG "tuple")) (bindA (aCons (lcF (seqF (fVar 0)) (tgN 1) yesT (callF Vis_count (aCons (fVar 1) aNil)) [1]) aNil) allG)))
def Vis_weights : List Dt → Sto → Option (Dt × Sto) := fnV 2 Fis_weights
def Fis_letter_set : Fs := (retS (andV (callF Vis_things (aCons (fVar 0) aNil)) (bindA (aCons (lcF (seqF (fVar 0)) (tgN 1) yesT (bind2 (bindA (aCons (fVar 1) aNil) lenG) (fC (.int 1)) eqG) [1]) aNil) allG)))
def Vis_letter_set : List Dt → Sto → Option (Dt × Sto) := fnV 2 Fis_letter_set
def Fis_putting : Fs := (retS (andV (callF Vis_letter (aCons (fVar 0) aNil)) (andV (callF Vis_thing (aCons (fVar 1) aNil)) (bind2 (fVar 1) (fVar 0) neG))))
def Vis_putting : List Dt → Sto → Option (Dt × Sto) := fnV 2 Fis_putting
def Fis_entry : Fs := (retS (andV (callF Vis_pair (aCons (fVar 0) aNil)) (andV (callF Vis_letter (aCons (bind2 (fVar 0) (fC (.int 0)) ixA) aNil)) (callF Vis_letter_set (aCons (bind2 (fVar 0) (fC (.int 1)) ixA) aNil)))))
def Vis_entry : List Dt → Sto → Option (Dt × Sto) := fnV 1 Fis_entry
def Fis_letters : Fs := (seqS (ifS (orT (notT (truF (bind1 (fVar 0) (isiG "tuple")))) (notT (truF (bindA (aCons (lcF (seqF (fVar 0)) (tgN 1) yesT (callF Vis_entry (aCons (fVar 1) aNil)) [1]) aNil) allG)))) (retS (fC (.bl false))) skipS) (retS (callF Vis_rising (aCons (lcF (seqF (fVar 0)) (tgN 1) yesT (bind2 (fVar 1) (fC (.int 0)) ixA) [1]) aNil))))
def Vis_letters : List Dt → Sto → Option (Dt × Sto) := fnV 2 Fis_letters
def Fletters_of : Fs := (retS (bindA (aCons (lcF (seqF (bind2 (fVar 0) (fC (.int 0)) ixA)) (tgN 1) yesT (bind2 (fVar 1) (fC (.int 0)) ixA) [1]) aNil) toTupG))
def Vletters_of : List Dt → Sto → Option (Dt × Sto) := fnV 2 Fletters_of
def Fhas_letters : Fs := (seqS (setS 2 (callF Vletters_of (aCons (fVar 0) aNil))) (retS (andV (callF Vis_thing (aCons (fVar 1) aNil)) (bindA (aCons (lcF (seqF (fVar 1)) (tgN 3) yesT (bind2 (fVar 3) (fVar 2) inA) [3]) aNil) allG))))
def Vhas_letters : List Dt → Sto → Option (Dt × Sto) := fnV 4 Fhas_letters
def Fneed_letter : Fs := (ifS (asB (bind2 (fVar 1) (callF Vletters_of (aCons (fVar 0) aNil)) notinA)) neverS skipS)
def Vneed_letter : List Dt → Sto → Option (Dt × Sto) := fnV 2 Fneed_letter
def Fnearest : Fs := (seqS (setS 2 (bind2 (fVar 0) (fVar 1) ixA)) (seqS (setS 3 (lc2F (seqF (fVar 2)) (tgN 4) (seqF (callF Vletters_reached (aCons (fVar 0) (aCons (fVar 4) aNil)))) (tgN 5) yesT (fVar 5) [4, 5] [5])) (retS (bindA (aCons (lcF (seqF (fVar 2)) (tgN 6) (asB (bind2 (fVar 6) (fVar 3) notinA)) (fVar 6) [6]) aNil) toTupG))))
def Vnearest : List Dt → Sto → Option (Dt × Sto) := fnV 7 Fnearest
def Flessers_of : Fs := (seqS (dropS (callF Vneed_letter (aCons (fVar 0) (aCons (fVar 1) aNil)))) (retS (bind2 (bindA (aCons (bind2 (fVar 0) (fC (.int 0)) ixA) aNil) toDctG) (fVar 1) ixA)))
def Vlessers_of : List Dt → Sto → Option (Dt × Sto) := fnV 2 Flessers_of
def Fletters_below : Fs := (seqS (dropS (callF Vneed_letter (aCons (fVar 0) (aCons (fVar 1) aNil)))) (retS (callF Vletters_reached (aCons (bindA (aCons (bind2 (fVar 0) (fC (.int 0)) ixA) aNil) toDctG) (aCons (fVar 1) aNil)))))
def Vletters_below : List Dt → Sto → Option (Dt × Sto) := fnV 2 Fletters_below
def Fnext_lessers : Fs := (seqS (dropS (callF Vneed_letter (aCons (fVar 0) (aCons (fVar 1) aNil)))) (retS (callF Vnearest (aCons (bindA (aCons (bind2 (fVar 0) (fC (.int 0)) ixA) aNil) toDctG) (aCons (fVar 1) aNil)))))
def Vnext_lessers : List Dt → Sto → Option (Dt × Sto) := fnV 2 Fnext_lessers
def Fcomes_from : Fs := (seqS (setS 3 (fC (.int 0))) (seqS (forF (seqF (fVar 2)) (tgN 4) (ifS (andT (asB (bind2 (fVar 3) (bindA (aCons (fVar 1) aNil) lenG) ltG)) (asB (bind2 (bind2 (fVar 1) (fVar 3) ixA) (bind2 (fVar 0) (fVar 4) ixA) inA))) (setS 3 (bind2 (fVar 3) (fC (.int 1)) addAll)) skipS)) (retS (bind2 (fVar 3) (bindA (aCons (fVar 1) aNil) lenG) eqG))))
def Vcomes_from : List Dt → Sto → Option (Dt × Sto) := fnV 5 Fcomes_from
def Fdowns_of : Fs := (seqS (setS 1 (bindA (aCons (bind2 (fVar 0) (fC (.int 0)) ixA) aNil) toDctG)) (retS (dcF (seqF (fVar 1)) (tgN 2) yesT (fVar 2) (bind2 (bindA (aCons (fVar 2) aNil) tupG) (callF Vletters_reached (aCons (fVar 1) (aCons (fVar 2) aNil))) addAll) [2])))
def Vdowns_of : List Dt → Sto → Option (Dt × Sto) := fnV 3 Fdowns_of
def Fneed_thing : Fs := (ifS (notT (truF (callF Vhas_letters (aCons (fVar 0) (aCons (fVar 1) aNil))))) neverS skipS)
def Vneed_thing : List Dt → Sto → Option (Dt × Sto) := fnV 3 Fneed_thing
def Fis_at_most : Fs := (seqS (dropS (callF Vneed_thing (aCons (fVar 0) (aCons (fVar 1) (aCons (fC (.str "u")) aNil))))) (seqS (dropS (callF Vneed_thing (aCons (fVar 0) (aCons (fVar 2) (aCons (fC (.str "v")) aNil))))) (retS (callF Vcomes_from (aCons (callF Vdowns_of (aCons (fVar 0) aNil)) (aCons (fVar 1) (aCons (fVar 2) aNil)))))))
def Vis_at_most : List Dt → Sto → Option (Dt × Sto) := fnV 3 Fis_at_most
def Fthings_at_most : Fs := (seqS (dropS (callF Vneed_thing (aCons (fVar 0) (aCons (fVar 1) (aCons (fC (.str "x")) aNil))))) (seqS (setS 2 (callF Vdowns_of (aCons (fVar 0) aNil))) (seqS (setNS 3 (dispF [((fC (.str "")), (fC (.bl true)))])) (seqS (forF (seqF (fVar 1)) (tgN 4) (forF (seqF (bindA (aCons (fVar 3) aNil) toLstG)) (tgN 5) (forF (seqF (bind2 (fVar 2) (fVar 4) ixA)) (tgN 6) (dputS 3 (bind2 (fVar 5) (fVar 6) addAll) (fC (.bl true)))))) (retS (bindA (aCons (bindA (aCons (bindA (aCons (fVar 3) aNil) toLstG) aNil) sortedG_) aNil) toTupG))))))
def Vthings_at_most : List Dt → Sto → Option (Dt × Sto) := fnV 7 Fthings_at_most
def Fput_in : Fs := (retS (bind2 (bind2 (bindS (fVar 0) oNone (oSome (fVar 2)) sliceG) (bindA (aCons (fVar 1) aNil) tupG) addAll) (bindS (fVar 0) (oSome (fVar 2)) oNone sliceG) addAll))
def Vput_in : List Dt → Sto → Option (Dt × Sto) := fnV 3 Fput_in
def Ftaken_out : Fs := (retS (bind2 (bindS (fVar 0) oNone (oSome (fVar 1)) sliceG) (bindS (fVar 0) (oSome (bind2 (fVar 1) (fC (.int 1)) addAll)) oNone sliceG) addAll))
def Vtaken_out : List Dt → Sto → Option (Dt × Sto) := fnV 2 Ftaken_out
def Fneed_rule : Fs := (ifS (orT (notT (truF (callF Vis_number (aCons (fVar 1) aNil)))) (asB (bind2 (fVar 1) (bindA (aCons (bind2 (fVar 0) (fC (.int 1)) ixA) aNil) lenG) geG))) neverS skipS)
def Vneed_rule : List Dt → Sto → Option (Dt × Sto) := fnV 3 Fneed_rule
def Fwithout_rule : Fs := (seqS (unpS 2 3 (fVar 0)) (seqS (dropS (callF Vneed_rule (aCons (fVar 0) (aCons (fVar 1) (aCons (fC (.str "k")) aNil))))) (retS (bindA (aCons (fVar 2) (aCons (callF Vtaken_out (aCons (fVar 3) (aCons (fVar 1) aNil))) aNil)) tupG))))
def Vwithout_rule : List Dt → Sto → Option (Dt × Sto) := fnV 4 Fwithout_rule
def Fmoved_rule : Fs := (seqS (unpS 3 4 (fVar 0)) (seqS (dropS (callF Vneed_rule (aCons (fVar 0) (aCons (fVar 1) (aCons (fC (.str "k")) aNil))))) (seqS (dropS (callF Vneed_rule (aCons (fVar 0) (aCons (fVar 2) (aCons (fC (.str "at")) aNil))))) (retS (bindA (aCons (fVar 3) (aCons (callF Vput_in (aCons (callF Vtaken_out (aCons (fVar 4) (aCons (fVar 1) aNil))) (aCons (bind2 (fVar 4) (fVar 1) ixA) (aCons (fVar 2) aNil)))) aNil)) tupG)))))
def Vmoved_rule : List Dt → Sto → Option (Dt × Sto) := fnV 5 Fmoved_rule
def Fmirrored_rule : Fs := (seqS (ifS (asB (bind2 (bind2 (fVar 0) (fC (.int 0)) ixA) (fC (.str "empty")) eqG)) (retS (fVar 0)) skipS) (seqS (setS 1 (ifV (asB (bind2 (bind2 (fVar 0) (bind1 (fC (.int 1)) negG) ixA) (fC (.str "left")) eqG)) (fC (.str "right")) (fC (.str "left")))) (retS (bind2 (bindS (fVar 0) oNone (oSome (bind1 (fC (.int 1)) negG)) sliceG) (bindA (aCons (fVar 1) aNil) tupG) addAll))))
def Vmirrored_rule : List Dt → Sto → Option (Dt × Sto) := fnV 2 Fmirrored_rule
def Frenamed_set : Fs := (retS (bindA (aCons (bindA (aCons (lcF (seqF (fVar 0)) (tgN 2) yesT (bind2 (fVar 1) (fVar 2) ixA) [2]) aNil) sortedG_) aNil) toTupG))
def Vrenamed_set : List Dt → Sto → Option (Dt × Sto) := fnV 3 Frenamed_set
def Frenamed_rule : Fs := (seqS (ifS (asB (bind2 (bind2 (fVar 0) (fC (.int 0)) ixA) (fC (.str "put")) neG)) (retS (fVar 0)) skipS) (seqS (setS 2 (bind2 (toStrOnly (fC (.str ""))) (lcF (seqF (bind2 (fVar 0) (fC (.int 2)) ixA)) (tgN 3) yesT (bind2 (fVar 1) (fVar 3) ixA) [3]) joinG)) (retS (bindA (aCons (fC (.str "put")) (aCons (bind2 (fVar 1) (bind2 (fVar 0) (fC (.int 1)) ixA) ixA) (aCons (fVar 2) (aCons (bind2 (fVar 0) (fC (.int 3)) ixA) aNil)))) tupG))))
def Vrenamed_rule : List Dt → Sto → Option (Dt × Sto) := fnV 4 Frenamed_rule
def Fmirrored : Fs := (seqS (unpS 1 2 (fVar 0)) (retS (bindA (aCons (fVar 1) (aCons (bindA (aCons (lcF (seqF (fVar 2)) (tgN 3) yesT (callF Vmirrored_rule (aCons (fVar 3) aNil)) [3]) aNil) toTupG) aNil)) tupG)))
def Vmirrored : List Dt → Sto → Option (Dt × Sto) := fnV 4 Fmirrored
def Fis_naming : Fs := (retS (andV (callF Vis_pair (aCons (fVar 0) aNil)) (andV (callF Vis_letter (aCons (bind2 (fVar 0) (fC (.int 0)) ixA) aNil)) (callF Vis_letter (aCons (bind2 (fVar 0) (fC (.int 1)) ixA) aNil)))))
def Vis_naming : List Dt → Sto → Option (Dt × Sto) := fnV 1 Fis_naming
def Fwith_letter : Fs := (seqS (unpS 3 4 (fVar 0)) (seqS (setS 5 (callF Vletters_of (aCons (fVar 0) aNil))) (seqS (ifS (orT (notT (truF (callF Vis_letter (aCons (fVar 1) aNil)))) (asB (bind2 (fVar 1) (fVar 5) inA))) neverS skipS) (seqS (ifS (orT (notT (truF (callF Vis_letter_set (aCons (fVar 2) aNil)))) (notT (truF (bindA (aCons (lcF (seqF (fVar 2)) (tgN 6) yesT (bind2 (fVar 6) (fVar 5) inA) [6]) aNil) allG)))) neverS skipS) (retS (bindA (aCons (bindA (aCons (bindA (aCons (bind2 (fVar 3) (bindA (aCons (bindA (aCons (fVar 1) (aCons (fVar 2) aNil)) tupG) aNil) tupG) addAll) aNil) sortedG_) aNil) toTupG) (aCons (fVar 4) aNil)) tupG))))))
def Vwith_letter : List Dt → Sto → Option (Dt × Sto) := fnV 7 Fwith_letter
def Fthing_word : Fs := (retS (orV (fVar 0) (fC (.str "-"))))
def Vthing_word : List Dt → Sto → Option (Dt × Sto) := fnV 1 Fthing_word
def Fletter_line : Fs := (seqS (ifS (notT (truF (callF Vis_entry (aCons (fVar 0) aNil)))) neverS skipS) (seqS (unpS 1 2 (fVar 0)) (retS (bind2 (toStrOnly (fC (.str " "))) (bindA (aCons (fC (.str "letter")) (aCons (fVar 1) (aCons (orV (bind2 (toStrOnly (fC (.str ","))) (fVar 2) joinG) (fC (.str "-"))) aNil))) lstG) joinG))))
def Vletter_line : List Dt → Sto → Option (Dt × Sto) := fnV 3 Fletter_line
def Flessers_in : Fs := (retS (ifV (asB (bind2 (fVar 0) (fC (.str "-")) eqG)) (bindA aNil tupG) (bindA (aCons (bind2 (toStrOnly (fVar 0)) (fC (.str ",")) splitG) aNil) toTupG)))
def Vlessers_in : List Dt → Sto → Option (Dt × Sto) := fnV 1 Flessers_in
def Fthing_in : Fs := (retS (ifV (asB (bind2 (fVar 0) (fC (.str "-")) eqG)) (fC (.str "")) (fVar 0)))
def Vthing_in : List Dt → Sto → Option (Dt × Sto) := fnV 1 Fthing_in
def Fpart_in : Fs := (seqS (ifS (asB (bind2 (fVar 0) (fC (.str "number")) eqG)) (retS (bindA (aCons (fVar 1) aNil) intG)) skipS) (retS (callF Vthing_in (aCons (fVar 1) aNil))))
def Vpart_in : List Dt → Sto → Option (Dt × Sto) := fnV 2 Fpart_in
def Fis_written_thing : Fs := (retS (orV (bind2 (fVar 0) (fC (.str "-")) eqG) (andV (callF Vis_thing (aCons (fVar 0) aNil)) (bind2 (fVar 0) (fC (.str "")) neG))))
def Vis_written_thing : List Dt → Sto → Option (Dt × Sto) := fnV 1 Fis_written_thing
def Fneed_line : Fs := (seqS (ifS (notT (truF (bind1 (fVar 0) (isiG "str")))) neverS skipS) (ifS (notT (truF (callF Vis_number (aCons (fVar 1) aNil)))) neverS skipS))
def Vneed_line : List Dt → Sto → Option (Dt × Sto) := fnV 2 Fneed_line
def Fentry_of : Fs := (seqS (ifS (asB (bind2 (bind2 (fVar 0) (fC (.int 0)) ixA) (fC (.str "letter")) neG)) neverS skipS) (seqS (ifS (orT (asB (bind2 (bindA (aCons (fVar 0) aNil) lenG) (fC (.int 2)) ltG)) (orT (notT (truF (callF Vis_letter (aCons (bind2 (fVar 0) (fC (.int 1)) ixA) aNil)))) (asB (bind2 (bind2 (fVar 0) (fC (.int 1)) ixA) (fVar 2) leG)))) neverS skipS) (seqS (ifS (orT (asB (bind2 (bindA (aCons (fVar 0) aNil) lenG) (fC (.int 3)) ltG)) (notT (truF (callF Vis_letter_set (aCons (callF Vlessers_in (aCons (bind2 (fVar 0) (fC (.int 2)) ixA) aNil)) aNil))))) neverS skipS) (seqS (ifS (asB (bind2 (bindA (aCons (fVar 0) aNil) lenG) (fC (.int 3)) gtG)) neverS skipS) (retS (bindA (aCons (bind2 (fVar 0) (fC (.int 1)) ixA) (aCons (callF Vlessers_in (aCons (bind2 (fVar 0) (fC (.int 2)) ixA) aNil)) aNil)) tupG))))))
def Ventry_of : List Dt → Sto → Option (Dt × Sto) := fnV 3 Fentry_of
def Fplaces : Fs := (seqS (setS 2 (bind1 (fVar 0) rg1G)) (retS (ifV (asB (bind2 (fVar 1) (fC (.str "left")) eqG)) (fVar 2) (bind1 (fVar 2) revG))))
def Vplaces : List Dt → Sto → Option (Dt × Sto) := fnV 3 Fplaces
def Fresults_of : Fs := (seqS (setS 3 (bind2 (fVar 1) (fC (.int 0)) ixA)) (seqS (ifS (asB (bind2 (fVar 3) (fC (.str "drop")) eqG)) (seqS (setS 4 (bind2 (fVar 1) (fC (.int 1)) ixA)) (retS (lcF (seqF (callF Vplaces (aCons (bind2 (bind2 (bindA (aCons (fVar 2) aNil) lenG) (fVar 4) subG) (fC (.int 1)) addAll) (aCons (bind2 (fVar 1) (fC (.int 2)) ixA) aNil)))) (tgN 7) yesT (bind2 (bindS (fVar 2) oNone (oSome (fVar 7)) sliceG) (bindS (fVar 2) (oSome (bind2 (fVar 7) (fVar 4) addAll)) oNone sliceG) addAll) [7]))) skipS) (seqS (ifS (asB (bind2 (fVar 3) (fC (.str "half")) eqG)) (seqS (setS 5 (bind2 (bindA (aCons (fVar 2) aNil) lenG) (fC (.int 2)) divG)) (retS (bindA (aCons (ifV (asB (bind2 (bind2 (fVar 1) (fC (.int 1)) ixA) (fC (.str "left")) eqG)) (bindS (fVar 2) oNone (oSome (fVar 5)) sliceG) (bindS (fVar 2) (oSome (bind2 (bindA (aCons (fVar 2) aNil) lenG) (fVar 5) subG)) oNone sliceG)) aNil) lstG))) skipS) (seqS (ifS (asB (bind2 (fVar 3) (fC (.str "empty")) eqG)) (retS (bindA (aCons (fC (.str "")) aNil) lstG)) skipS) (seqS (ifS (asB (bind2 (fVar 3) (fC (.str "lower")) eqG)) (seqS (setS 6 (bindA (aCons (bind2 (fVar 0) (fC (.int 0)) ixA) aNil) toDctG)) (retS (lc2F (seqF (callF Vplaces (aCons (bindA (aCons (fVar 2) aNil) lenG) (aCons (bind2 (fVar 1) (fC (.int 1)) ixA) aNil)))) (tgN 7) (seqF (bind2 (fVar 6) (bind2 (fVar 2) (fVar 7) ixA) ixA)) (tgN 8) yesT (bind2 (bind2 (bindS (fVar 2) oNone (oSome (fVar 7)) sliceG) (fVar 8) addAll) (bindS (fVar 2) (oSome (bind2 (fVar 7) (fC (.int 1)) addAll)) oNone sliceG) addAll) [7, 8] [8]))) skipS) (retS (lcF (seqF (callF Vplaces (aCons (bindA (aCons (fVar 2) aNil) lenG) (aCons (bind2 (fVar 1) (fC (.int 3)) ixA) aNil)))) (tgN 7) (asB (bind2 (bind2 (fVar 2) (fVar 7) ixA) (bind2 (fVar 1) (fC (.int 1)) ixA) eqG)) (bind2 (bind2 (bindS (fVar 2) oNone (oSome (fVar 7)) sliceG) (bind2 (fVar 1) (fC (.int 2)) ixA) addAll) (bindS (fVar 2) (oSome (bind2 (fVar 7) (fC (.int 1)) addAll)) oNone sliceG) addAll) [7])))))))
def Vresults_of : List Dt → Sto → Option (Dt × Sto) := fnV 9 Fresults_of
def Fled_steps : Fs := (seqS (setS 3 (bind2 (bind2 (fVar 2) (bindA (aCons (bind2 (fVar 0) (fC (.int 1)) ixA) aNil) lenG) rg2G) (bind1 (fVar 2) rg1G) catG)) (seqS (setNS 4 emptyG) (seqS (forF (seqF (fVar 3)) (tgN 5) (forF (seqF (callF Vresults_of (aCons (fVar 0) (aCons (bind2 (bind2 (fVar 0) (fC (.int 1)) ixA) (fVar 5) ixA) (aCons (fVar 1) aNil))))) (tgN 6) (ifS (andT (asB (bind2 (fVar 6) (fVar 1) neG)) (asB (bind2 (fVar 6) (fVar 4) notinA))) (dputS 4 (fVar 6) (fVar 5)) skipS))) (retS (bindA (aCons (lcF (itemsI (fVar 4)) (tgP (tgN 6) (tgN 5)) yesT (bindA (aCons (fVar 6) (aCons (fVar 5) aNil)) tupG) [6, 5]) aNil) toTupG)))))
def Vled_steps : List Dt → Sto → Option (Dt × Sto) := fnV 7 Fled_steps
def Fsteps_of : Fs := (seqS (dropS (callF Vneed_thing (aCons (fVar 0) (aCons (fVar 1) (aCons (fC (.str "x")) aNil))))) (retS (bindA (aCons (lcF (seqF (callF Vled_steps (aCons (fVar 0) (aCons (fVar 1) (aCons (fC (.int 0)) aNil))))) (tgP (tgN 2) (tgN 3)) yesT (fVar 2) [2, 3]) aNil) toTupG)))
def Vsteps_of : List Dt → Sto → Option (Dt × Sto) := fnV 4 Fsteps_of
def F_wall : Fs := (whileS (truF (fC (.bl true))) skipS FUEL)
def V_wall : List Dt → Sto → Option (Dt × Sto) := fnV 1 F_wall
def Frule_steps : Fs := (seqS (dropS (callF Vneed_rule (aCons (fVar 0) (aCons (fVar 1) (aCons (fC (.str "k")) aNil))))) (seqS (dropS (callF Vneed_thing (aCons (fVar 0) (aCons (fVar 2) (aCons (fC (.str "x")) aNil))))) (seqS (setNS 3 emptyG) (seqS (forF (seqF (callF Vresults_of (aCons (fVar 0) (aCons (bind2 (bind2 (fVar 0) (fC (.int 1)) ixA) (fVar 1) ixA) (aCons (fVar 2) aNil))))) (tgN 4) (ifS (asB (bind2 (fVar 4) (fVar 2) neG)) (dputS 3 (fVar 4) (fC (.bl true))) skipS)) (retS (bindA (aCons (bindA (aCons (fVar 3) aNil) toLstG) aNil) toTupG))))))
def Vrule_steps : List Dt → Sto → Option (Dt × Sto) := fnV 5 Frule_steps
def Fdoes_fall : Fs := (retS (orV (bind2 (bind2 (fVar 1) (fC (.int 0)) ixA) (fC (.str "put")) neG) (orV (bind2 (bind2 (fVar 1) (fC (.int 2)) ixA) (fC (.str "")) eqG) (bind2 (bind2 (fVar 1) (fC (.int 2)) ixA) (callF Vletters_below (aCons (fVar 0) (aCons (bind2 (fVar 1) (fC (.int 1)) ixA) aNil))) inA))))
def Vdoes_fall : List Dt → Sto → Option (Dt × Sto) := fnV 2 Fdoes_fall
def Fis_falling : Fs := (retS (bindA (aCons (lcF (seqF (bind2 (fVar 0) (fC (.int 1)) ixA)) (tgN 1) yesT (callF Vdoes_fall (aCons (fVar 0) (aCons (fVar 1) aNil))) [1]) aNil) allG))
def Vis_falling : List Dt → Sto → Option (Dt × Sto) := fnV 2 Fis_falling
def Fgiven_words : Fs := (seqS (setNS 2 (lcF (seqF (bind2 (fVar 0) (fC (.int 1)) ixA)) (tgN 3) (andT (asB (bind2 (bind2 (fVar 3) (fC (.int 0)) ixA) (fC (.str "put")) eqG)) (asB (bind2 (bind2 (fVar 3) (fC (.int 1)) ixA) (fVar 1) eqG))) (bind2 (fVar 3) (fC (.int 2)) ixA) [3])) (seqS (ifS (truF (bindA (aCons (lcF (seqF (bind2 (fVar 0) (fC (.int 1)) ixA)) (tgN 3) yesT (bind2 (bind2 (fVar 3) (fC (.int 0)) ixA) (fC (.str "lower")) eqG) [3]) aNil) anyG)) (extA 2 (bind2 (bindA (aCons (bind2 (fVar 0) (fC (.int 0)) ixA) aNil) toDctG) (fVar 1) ixA)) skipS) (retS (fVar 2))))
def Vgiven_words : List Dt → Sto → Option (Dt × Sto) := fnV 4 Fgiven_words
def Fring_of : Fs := (seqS (setS 1 (callF Vletters_of (aCons (fVar 0) aNil))) (seqS (setS 2 (dcF (seqF (fVar 1)) (tgN 4) yesT (fVar 4) (bind2 (toStrOnly (fC (.str ""))) (callF Vgiven_words (aCons (fVar 0) (aCons (fVar 4) aNil))) joinG) [4])) (whileS (truF (fC (.bl true))) (seqS (setS 3 (bindA (aCons (lcF (seqF (fVar 1)) (tgN 4) (truF (bindA (aCons (lcF (seqF (bind2 (fVar 2) (fVar 4) ixA)) (tgN 5) yesT (bind2 (fVar 5) (fVar 1) inA) [5]) aNil) anyG)) (fVar 4) [4]) aNil) toTupG)) (seqS (ifS (asB (bind2 (fVar 3) (fVar 1) eqG)) (retS (fVar 1)) skipS) (setS 1 (fVar 3)))) FUEL)))
def Vring_of : List Dt → Sto → Option (Dt × Sto) := fnV 6 Fring_of
def Fis_ending : Fs := (retS (bind2 (callF Vring_of (aCons (fVar 0) aNil)) (bindA aNil tupG) eqG))
def Vis_ending : List Dt → Sto → Option (Dt × Sto) := fnV 1 Fis_ending
def Fneed_ending : Fs := (seqS (setS 1 (callF Vring_of (aCons (fVar 0) aNil))) (ifS (asB (bind2 (fVar 1) (bindA aNil tupG) neG)) neverS skipS))
def Vneed_ending : List Dt → Sto → Option (Dt × Sto) := fnV 2 Fneed_ending
def Fis_failing : Fs := (seqS (unpS 3 4 (fVar 1)) (seqS (ifS (asB (bind2 (fVar 3) (fC (.str "causes")) eqG)) (seqS (setS 5 (callF Vdowns_of (aCons (fVar 0) aNil))) (retS (bindA (aCons (lcF (seqF (fVar 4)) (tgN 6) yesT (callF Vcomes_from (aCons (fVar 5) (aCons (fVar 6) (aCons (fVar 2) aNil)))) [6]) aNil) anyG))) skipS) (seqS (ifS (asB (bind2 (fVar 3) (fC (.str "only")) eqG)) (retS (bind2 (fVar 2) (fVar 4) inA)) skipS) (seqS (ifS (asB (bind2 (fVar 3) (fC (.str "but")) eqG)) (retS (bind2 (fVar 2) (fVar 4) notinA)) skipS) (retS (bindA (aCons (lcF (seqF (fVar 2)) (tgN 7) yesT (bind2 (fVar 7) (fVar 4) inA) [7]) aNil) anyG))))))
def Vis_failing : List Dt → Sto → Option (Dt × Sto) := fnV 8 Fis_failing
def Fneed_notes : Fs := (ifS (notT (truF (bind1 (fVar 0) (isiG "bool")))) neverS skipS)
def Vneed_notes : List Dt → Sto → Option (Dt × Sto) := fnV 1 Fneed_notes
def Fneed_at_most : Fs := (seqS (dropS (callF Vneed_thing (aCons (fVar 0) (aCons (fVar 1) (aCons (fVar 3) aNil))))) (ifS (notT (truF (callF Vcomes_from (aCons (callF Vdowns_of (aCons (fVar 0) aNil)) (aCons (fVar 1) (aCons (fVar 2) aNil)))))) neverS skipS))
def Vneed_at_most : List Dt → Sto → Option (Dt × Sto) := fnV 4 Fneed_at_most
def Fhas_drop : Fs := (retS (bindA (aCons (lcF (seqF (bind2 (fVar 0) (fC (.int 1)) ixA)) (tgN 1) yesT (andV (bind2 (bind2 (fVar 1) (fC (.int 0)) ixA) (fC (.str "drop")) eqG) (bind2 (bind2 (fVar 1) (fC (.int 1)) ixA) (fC (.int 1)) eqG)) [1]) aNil) anyG))
def Vhas_drop : List Dt → Sto → Option (Dt × Sto) := fnV 2 Fhas_drop
def Fhas_lower : Fs := (retS (bindA (aCons (lcF (seqF (bind2 (fVar 0) (fC (.int 1)) ixA)) (tgN 1) yesT (bind2 (bind2 (fVar 1) (fC (.int 0)) ixA) (fC (.str "lower")) eqG) [1]) aNil) anyG))
def Vhas_lower : List Dt → Sto → Option (Dt × Sto) := fnV 2 Fhas_lower
def Fdoes_put : Fs := (retS (bindA (aCons (lcF (seqF (bind2 (fVar 0) (fC (.int 1)) ixA)) (tgN 3) yesT (andV (bind2 (bind2 (fVar 3) (fC (.int 0)) ixA) (fC (.str "put")) eqG) (bind2 (bindS (fVar 3) (oSome (fC (.int 1))) (oSome (fC (.int 3))) sliceG) (bindA (aCons (fVar 1) (aCons (fVar 2) aNil)) tupG) eqG)) [3]) aNil) anyG))
def Vdoes_put : List Dt → Sto → Option (Dt × Sto) := fnV 4 Fdoes_put
def Fplace_of : Fs := (seqS (setS 3 (fC (.int 0))) (seqS (whileS (notT (truF (callF Vcomes_from (aCons (fVar 0) (aCons (fVar 2) (aCons (bind2 (fVar 1) (fVar 3) ixA) aNil)))))) (setS 3 (bind2 (fVar 3) (fC (.int 1)) addAll)) FUEL) (retS (fVar 3))))
def Vplace_of : List Dt → Sto → Option (Dt × Sto) := fnV 4 Fplace_of
def Fleaves_out_all : Fs := (seqS (setS 1 (lcF (seqF (callF Vletters_of (aCons (fVar 0) aNil))) (tgN 2) (asB (bind2 (callF Vlessers_of (aCons (fVar 0) (aCons (fVar 2) aNil))) (bindA aNil tupG) eqG)) (fVar 2) [2])) (retS (orV (callF Vhas_drop (aCons (fVar 0) aNil)) (bindA (aCons (lcF (seqF (fVar 1)) (tgN 2) yesT (callF Vdoes_put (aCons (fVar 0) (aCons (fVar 2) (aCons (fC (.str "")) aNil)))) [2]) aNil) allG))))
def Vleaves_out_all : List Dt → Sto → Option (Dt × Sto) := fnV 3 Fleaves_out_all
def Flowers_all : Fs := (seqS (setS 1 (lc2F (seqF (callF Vletters_of (aCons (fVar 0) aNil))) (tgN 2) (seqF (callF Vnext_lessers (aCons (fVar 0) (aCons (fVar 2) aNil)))) (tgN 3) yesT (bindA (aCons (fVar 2) (aCons (fVar 3) aNil)) tupG) [2, 3] [3])) (retS (orV (callF Vhas_lower (aCons (fVar 0) aNil)) (bindA (aCons (lcF (seqF (fVar 1)) (tgP (tgN 2) (tgN 3)) yesT (callF Vdoes_put (aCons (fVar 0) (aCons (fVar 2) (aCons (fVar 3) aNil)))) [2, 3]) aNil) allG))))
def Vlowers_all : List Dt → Sto → Option (Dt × Sto) := fnV 4 Flowers_all
def Fways_from : Fs := (seqS (setNS 2 (dispF [((fVar 1), (fVar 1))])) (seqS (setNS 3 (bindA (aCons (fVar 1) aNil) lstG)) (seqS (setS 4 (fC (.int 0))) (seqS (whileS (asB (bind2 (fVar 4) (bindA (aCons (fVar 3) aNil) lenG) ltG)) (seqS (setS 5 (bind2 (fVar 3) (fVar 4) ixA)) (seqS (forF (seqF (callF Vsteps_of (aCons (fVar 0) (aCons (fVar 5) aNil)))) (tgN 6) (ifS (asB (bind2 (fVar 6) (fVar 2) notinA)) (seqS (dputS 2 (fVar 6) (fVar 5)) (appS 3 (fVar 6))) skipS)) (setS 4 (bind2 (fVar 4) (fC (.int 1)) addAll)))) FUEL) (retS (fVar 2))))))
def Vways_from : List Dt → Sto → Option (Dt × Sto) := fnV 7 Fways_from
def Fpossible_ends : Fs := (seqS (dropS (callF Vneed_thing (aCons (fVar 0) (aCons (fVar 1) (aCons (fC (.str "x")) aNil))))) (seqS (dropS (callF Vneed_ending (aCons (fVar 0) aNil))) (retS (bindA (aCons (bindA (aCons (bindA (aCons (callF Vways_from (aCons (fVar 0) (aCons (fVar 1) aNil))) aNil) toLstG) aNil) sortedG_) aNil) toTupG))))
def Vpossible_ends : List Dt → Sto → Option (Dt × Sto) := fnV 2 Fpossible_ends
def Fway_to : Fs := (seqS (dropS (callF Vneed_thing (aCons (fVar 0) (aCons (fVar 1) (aCons (fC (.str "x")) aNil))))) (seqS (dropS (callF Vneed_thing (aCons (fVar 0) (aCons (fVar 2) (aCons (fC (.str "z")) aNil))))) (seqS (dropS (callF Vneed_ending (aCons (fVar 0) aNil))) (seqS (setS 3 (callF Vways_from (aCons (fVar 0) (aCons (fVar 1) aNil)))) (seqS (ifS (asB (bind2 (fVar 2) (fVar 3) notinA)) (retS (fC .non)) skipS) (seqS (setNS 4 (bindA (aCons (fVar 2) aNil) lstG)) (seqS (whileS (asB (bind2 (bind2 (fVar 4) (bind1 (fC (.int 1)) negG) ixA) (fVar 1) neG)) (appS 4 (bind2 (fVar 3) (bind2 (fVar 4) (bind1 (fC (.int 1)) negG) ixA) ixA)) FUEL) (retS (bindA (aCons (bind1 (fVar 4) revG) aNil) toTupG)))))))))
def Vway_to : List Dt → Sto → Option (Dt × Sto) := fnV 5 Fway_to
def Ftest_for : Fs := (seqS (setS 3 (callF Vway_to (aCons (fVar 0) (aCons (fVar 1) (aCons (fVar 2) aNil))))) (seqS (ifS (asB (bind2 (fVar 3) (fC .non) isNG)) (retS (fC .non)) skipS) (retS (bindA (aCons (fC (.str "only")) (aCons (bindA (aCons (bindA (aCons (bindA (aCons (fVar 3) aNil) toLstG) aNil) sortedG_) aNil) toTupG) aNil)) tupG))))
def Vtest_for : List Dt → Sto → Option (Dt × Sto) := fnV 4 Ftest_for
def Fendless_test : Fs := (seqS (setS 1 (callF Vring_of (aCons (fVar 0) aNil))) (seqS (ifS (asB (bind2 (fVar 1) (bindA aNil tupG) eqG)) (retS (fC .non)) skipS) (retS (bindA (aCons (bind2 (fVar 1) (fC (.int 0)) ixA) (aCons (bindA (aCons (fC (.str "has")) (aCons (fVar 1) aNil)) tupG) aNil)) tupG))))
def Vendless_test : List Dt → Sto → Option (Dt × Sto) := fnV 2 Fendless_test
def Fsteps_from : Fs := (retS (dcF (seqF (callF Vways_from (aCons (fVar 0) (aCons (fVar 1) aNil)))) (tgN 2) yesT (fVar 2) (callF Vsteps_of (aCons (fVar 0) (aCons (fVar 2) aNil))) [2]))
def Vsteps_from : List Dt → Sto → Option (Dt × Sto) := fnV 3 Fsteps_from
def Fsum_to : Fs := (retS (bind2 (bind2 (fVar 0) (bind2 (fVar 0) (fC (.int 1)) addAll) mulG) (fC (.int 2)) divG))
def Vsum_to : List Dt → Sto → Option (Dt × Sto) := fnV 1 Fsum_to
def Fwalk_by : Fs := (seqS (setS 3 (fVar 1)) (seqS (setS 4 (fC (.int 0))) (seqS (whileS (asB (bind2 (fVar 4) (bindA (aCons (bind2 (fVar 0) (fVar 3) ixA) aNil) lenG) ltG)) (seqS (setS 5 (bind2 (bind2 (fVar 0) (fVar 3) ixA) (fVar 4) ixA)) (seqS (ifS (asB (bind2 (fVar 5) (fVar 2) notinA)) (retS (bindA (aCons (fC (.bl true)) (aCons (fVar 5) aNil)) tupG)) skipS) (ifS (truF (bind2 (fVar 2) (fVar 5) ixA)) (par2S 3 4 (fVar 5) (fC (.int 0))) (setS 4 (bind2 (fVar 4) (fC (.int 1)) addAll))))) FUEL) (retS (bindA (aCons (fC (.bl false)) (aCons (fVar 3) aNil)) tupG)))))
def Vwalk_by : List Dt → Sto → Option (Dt × Sto) := fnV 6 Fwalk_by
def Fwalks_by : Fs := (seqS (setNS 3 (bindA aNil lstG)) (seqS (forF (seqF (fVar 0)) (tgN 4) (seqS (unpS 5 6 (callF Vwalk_by (aCons (fVar 4) (aCons (fVar 1) (aCons (fVar 2) aNil))))) (seqS (ifS (truF (fVar 5)) (retS (bindA (aCons (fVar 6) (aCons (bindA aNil tupG) aNil)) tupG)) skipS) (appS 3 (fVar 6))))) (retS (bindA (aCons (fC .non) (aCons (bindA (aCons (fVar 3) aNil) toTupG) aNil)) tupG))))
def Vwalks_by : List Dt → Sto → Option (Dt × Sto) := fnV 7 Fwalks_by
def Fneed_length : Fs := (ifS (notT (truF (callF Vis_number (aCons (fVar 0) aNil)))) neverS skipS)
def Vneed_length : List Dt → Sto → Option (Dt × Sto) := fnV 1 Fneed_length
def Fcuts : Fs := (seqS (setNS 3 (bindA aNil lstG)) (seqS (forF (seqF (fVar 0)) (tgN 4) (seqS (ifS (andT (asB (bind2 (bind2 (fVar 4) (fC (.int 0)) ixA) (fC (.str "drop")) eqG)) (asB (bind2 (bind2 (fVar 2) (bind2 (fVar 4) (fC (.int 1)) ixA) addAll) (fVar 1) leG))) (appS 3 (bind2 (fVar 4) (fC (.int 1)) ixA)) skipS) (seqS (ifS (andT (asB (bind2 (fVar 4) (bindA (aCons (fC (.str "half")) (aCons (fC (.str "left")) aNil)) tupG) eqG)) (asB (bind2 (fVar 2) (bind2 (fVar 1) (fC (.int 2)) divG) eqG))) (appS 3 (bind2 (fVar 1) (fVar 2) subG)) skipS) (seqS (ifS (andT (asB (bind2 (fVar 4) (bindA (aCons (fC (.str "half")) (aCons (fC (.str "right")) aNil)) tupG) eqG)) (asB (bind2 (fVar 2) (fC (.int 0)) eqG))) (appS 3 (bind2 (fVar 1) (bind2 (fVar 1) (fC (.int 2)) divG) subG)) skipS) (ifS (andT (asB (bind2 (fVar 4) (bindA (aCons (fC (.str "empty")) aNil) tupG) eqG)) (asB (bind2 (fVar 2) (fC (.int 0)) eqG))) (appS 3 (fVar 1)) skipS))))) (retS (fVar 3))))
def Vcuts : List Dt → Sto → Option (Dt × Sto) := fnV 5 Fcuts
def Ffails_word : Fs := (retS (ifV (truF (fVar 0)) (fC (.str "fails")) (fC (.str "passes"))))
def Vfails_word : List Dt → Sto → Option (Dt × Sto) := fnV 1 Ffails_word
def Fknown_of : Fs := (seqS (setS 2 (callF Vdowns_of (aCons (bind2 (fVar 0) (fC (.str "book")) ixA) aNil))) (seqS (ifS (truF (bindA (aCons (lcF (seqF (bind2 (fVar 0) (fC (.str "failing")) ixA)) (tgN 3) yesT (callF Vcomes_from (aCons (fVar 2) (aCons (fVar 3) (aCons (fVar 1) aNil)))) [3]) aNil) anyG)) (retS (fC (.bl true))) skipS) (seqS (ifS (truF (bindA (aCons (lcF (seqF (bind2 (fVar 0) (fC (.str "passing")) ixA)) (tgN 4) yesT (callF Vcomes_from (aCons (fVar 2) (aCons (fVar 1) (aCons (fVar 4) aNil)))) [4]) aNil) anyG)) (retS (fC (.bl false))) skipS) (retS (fC .non)))))
def Vknown_of : List Dt → Sto → Option (Dt × Sto) := fnV 5 Fknown_of
def Freason_against_told : Fs := (seqS (ifS (notT (truF (callF Vhas_letters (aCons (bind2 (fVar 0) (fC (.str "book")) ixA) (aCons (fVar 1) aNil))))) (retS (fC (.str "thing"))) skipS) (seqS (setS 3 (callF Vknown_of (aCons (fVar 0) (aCons (fVar 1) aNil)))) (seqS (ifS (asB (bind2 (fVar 3) (fC .non) isNG)) (retS (fC .non)) skipS) (retS (ifV (asB (bind2 (fVar 3) (fVar 2) eqG)) (fC (.str "same")) (fC (.str "against")))))))
def Vreason_against_told : List Dt → Sto → Option (Dt × Sto) := fnV 4 Freason_against_told
def Freason_against_start : Fs := (seqS (ifS (notT (truF (callF Vhas_letters (aCons (bind2 (fVar 0) (fC (.str "book")) ixA) (aCons (fVar 1) aNil))))) (retS (fC (.str "thing"))) skipS) (seqS (ifS (asB (bind2 (callF Vknown_of (aCons (fVar 0) (aCons (fVar 1) aNil))) (fC (.bl false)) isNG)) (retS (fC (.str "against"))) skipS) (retS (ifV (asB (bind2 (fVar 1) (bind2 (bind2 (fVar 0) (fC (.str "walk")) ixA) (bind1 (fC (.int 1)) negG) ixA) eqG)) (fC (.str "same")) (fC .non)))))
def Vreason_against_start : List Dt → Sto → Option (Dt × Sto) := fnV 2 Freason_against_start
def Fwritten_in : Fs := (seqS (ifS (asB (bind2 (fVar 0) (fC (.str "fails")) eqG)) (retS (bind2 (fVar 1) (fC (.str "fails")) eqG)) skipS) (seqS (ifS (asB (bind2 (fVar 0) (fC (.str "number")) eqG)) (retS (bindA (aCons (fVar 1) aNil) intG)) skipS) (seqS (ifS (asB (bind2 (fVar 0) (fC (.str "manner")) eqG)) (retS (fVar 1)) skipS) (retS (callF Vthing_in (aCons (fVar 1) aNil))))))
def Vwritten_in : List Dt → Sto → Option (Dt × Sto) := fnV 2 Fwritten_in
def Flines_row : Fs := (retS (orV (bind2 (toStrOnly (fC (.str " / "))) (fVar 0) joinG) (fC (.str "-"))))
def Vlines_row : List Dt → Sto → Option (Dt × Sto) := fnV 1 Flines_row
def Fquestion_word : Fs := (retS (ifV (asB (bind2 (fVar 0) (fC .non) isNG)) (fC (.str ".")) (callF Vthing_word (aCons (fVar 0) aNil))))
def Vquestion_word : List Dt → Sto → Option (Dt × Sto) := fnV 1 Fquestion_word
def Fthings_row : Fs := (retS (orV (bind2 (toStrOnly (fC (.str " "))) (lcF (seqF (fVar 0)) (tgN 1) yesT (callF Vthing_word (aCons (fVar 1) aNil)) [1]) joinG) (fC (.str "."))))
def Vthings_row : List Dt → Sto → Option (Dt × Sto) := fnV 2 Fthings_row
end DL
namespace DL
open PySem PySem.Spec PyProof.Rows L2
def F_law_tape_k01 : Fs := (retS (bindA (aCons (bindS (fVar 0) oNone (oSome (fC (.int 63))) sliceG) (aCons (fC (.int 0)) (aCons (fC (.int 0)) (aCons (fC (.int 0)) aNil)))) lstG))
def V_law_tape_k01 : List Dt → Sto → Option (Dt × Sto) := fnV 1 F_law_tape_k01
def F_law_draw_k01_k01 : Fs := (seqS (hputL 0 (fC (.int 3)) (bind2 (bind2 (fVar 0) (fC (.int 3)) ixA) (fC (.int 1)) addAll)) (seqS (ifS (asB (bind2 (bind2 (fVar 0) (fC (.int 2)) ixA) (fC (.int 0)) gtG)) (seqS (setS 2 (bind2 (bindA (aCons (bind2 (fVar 0) (fC (.int 2)) ixA) aNil) intG) (fVar 1) modG)) (seqS (hputL 0 (fC (.int 2)) (bind2 (bind2 (fVar 0) (fC (.int 2)) ixA) (fVar 1) divG)) (retS (fVar 2)))) skipS) (seqS (setS 3 (bind2 (fVar 0) (fC (.int 1)) ixA)) (seqS (hputL 0 (fC (.int 1)) (bind2 (fVar 3) (fC (.int 1)) addAll)) (seqS (setS 4 (ifV (asB (bind2 (bind2 (fVar 0) (fC (.int 0)) ixA) (bindA aNil lstG) neG)) (bind2 (bind2 (fVar 0) (fC (.int 0)) ixA) (bind2 (bindA (aCons (fVar 3) aNil) intG) (bindA (aCons (bind2 (fVar 0) (fC (.int 0)) ixA) aNil) lenG) modG) ixA) (fC (.int 151)))) (seqS (ifS (andT (asB (bind2 (fVar 4) (bind2 (fC (.int 10)) (fC (.int 18)) powG) geG)) (asB (bind2 (fVar 3) (bindA (aCons (bind2 (fVar 0) (fC (.int 0)) ixA) aNil) lenG) ltG))) (seqS (hputL 0 (fC (.int 2)) (bind2 (fVar 4) (fVar 1) divG)) (retS (bind2 (bindA (aCons (fVar 4) aNil) intG) (fVar 1) modG))) skipS) (seqS (setS 5 (bind2 (bindA (aCons (bind2 (bind2 (bind2 (bind2 (bindA (aCons (fVar 4) aNil) intG) (fC (.int 1999999943)) modG) (bind2 (fC (.int 48281)) (bind2 (fVar 0) (fC (.int 3)) ixA) mulG) addAll) (fC (.int 313)) addAll) (fC (.int 3)) powG) aNil) intG) (fC (.int 2147483423)) modG)) (seqS (setS 5 (bind2 (bindA (aCons (bind2 (bind2 (bind2 (fVar 5) (bind2 (bind2 (fC (.int 8287)) (bind2 (fVar 0) (fC (.int 3)) ixA) mulG) (bind2 (fVar 0) (fC (.int 3)) ixA) mulG) addAll) (fC (.int 151)) addAll) (fC (.int 5)) powG) aNil) intG) (fC (.int 2147483477)) modG)) (retS (bind2 (bindA (aCons (bind2 (fVar 5) (fC (.int 64)) divG) aNil) intG) (fVar 1) modG))))))))))
def V_law_draw_k01_k01 : List Dt → Sto → Option (Dt × Sto) := fnV 6 F_law_draw_k01_k01
def F_law_letters_k01 : Fs := (retS (lcF (seqF (bind2 (fVar 0) (fC (.int 0)) ixA)) (tgN 1) yesT (bind2 (fVar 1) (fC (.int 0)) ixA) [1]))
def V_law_letters_k01 : List Dt → Sto → Option (Dt × Sto) := fnV 2 F_law_letters_k01
def F_law_is_letter_k01 : Fs := (retS (andV (bind1 (fVar 0) (isiG "str")) (andV (bind2 (bindA (aCons (fVar 0) aNil) lenG) (fC (.int 1)) eqG) (bind2 (fVar 0) (fC (.str "abcdefghijklmnopqrstuvwxyz")) inA))))
def V_law_is_letter_k01 : List Dt → Sto → Option (Dt × Sto) := fnV 1 F_law_is_letter_k01
def F_law_is_number_k01 : Fs := (retS (andV (bind1 (fVar 0) (isiG "int")) (andV (notV (bind1 (fVar 0) (isiG "bool"))) (bind2 (fVar 0) (fC (.int 0)) geG))))
def V_law_is_number_k01 : List Dt → Sto → Option (Dt × Sto) := fnV 1 F_law_is_number_k01
def F_law_is_ringed_k01 : Fs := (seqS (par3S 2 3 4 (bindA (aCons (bindA (aCons (fVar 0) aNil) toLstG) aNil) toDctG) (bindA aNil lstG) (bindA (aCons (fVar 1) aNil) lstG)) (seqS (whileS (asB (bind2 (fVar 4) (bindA aNil lstG) neG)) (forXF (seqX (ixPopF (fVar 2) 4)) (tgN 5) (ifS (asB (bind2 (fVar 5) (fVar 3) notinA)) (seqS (appS 3 (fVar 5)) (appS 4 (fVar 5))) skipS)) FUEL) (retS (bind2 (fVar 1) (fVar 3) inA))))
def V_law_is_ringed_k01 : List Dt → Sto → Option (Dt × Sto) := fnV 6 F_law_is_ringed_k01
def F_law_pick_k01 (dp : List Dt → Sto → Option (Dt × Sto)) : Fs := (retS (bind2 (fVar 1) (callF dp (aCons (fVar 0) (aCons (bindA (aCons (fVar 1) aNil) lenG) aNil))) ixA))
def V_law_pick_k01 (dp : List Dt → Sto → Option (Dt × Sto)) : List Dt → Sto → Option (Dt × Sto) := fnV 2 (F_law_pick_k01 dp)
def F_law_signs_k01 (dp : List Dt → Sto → Option (Dt × Sto)) : Fs := (seqS (parNS [2, 3, 4] [(fC (.str "qzaybxcwdvmeuftgshrinpk")), (callF dp (aCons (fVar 0) (aCons (fC (.int 23)) aNil))), (bind2 (fC (.int 1)) (callF dp (aCons (fVar 0) (aCons (fC (.int 22)) aNil))) addAll)]) (retS (lcF (rngF1 (fVar 1)) (tgN 5) yesT (bind2 (fVar 2) (bind2 (bindA (aCons (bind2 (fVar 3) (bind2 (fVar 5) (fVar 4) mulG) addAll) aNil) intG) (fC (.int 23)) modG) ixA) [5])))
def V_law_signs_k01 (dp : List Dt → Sto → Option (Dt × Sto)) : List Dt → Sto → Option (Dt × Sto) := fnV 6 (F_law_signs_k01 dp)
def F_law_rows_k01 (dp : List Dt → Sto → Option (Dt × Sto)) : Fs := (seqS (par2S 2 3 (callF dp (aCons (fVar 0) (aCons (fC (.int 5)) aNil))) (bindA aNil lstG)) (seqS (forF (rngF1 (bindA (aCons (fVar 1) aNil) lenG)) (tgN 4) (seqS (setS 5 (lcF (rngF1 (fVar 4)) (tgN 6) (asB (bind2 (callF dp (aCons (fVar 0) (aCons (fC (.int 2)) aNil))) (fC (.int 0)) eqG)) (bind2 (fVar 1) (fVar 6) ixA) [6])) (seqS (ifS (asB (bind2 (fVar 2) (fC (.int 2)) ltG)) (setS 5 (ifV (asB (bind2 (fVar 2) (fC (.int 0)) eqG)) (bindS (fVar 1) oNone (oSome (fVar 4)) sliceG) (bindS (bindS (fVar 1) oNone (oSome (fVar 4)) sliceG) (oSome (bind1 (fC (.int 1)) negG)) oNone sliceG))) skipS) (appS 3 (bindA (aCons (bind2 (fVar 1) (fVar 4) ixA) (aCons (bindA (aCons (bindA (aCons (ifV (asB (bind2 (fVar 2) (fC (.int 4)) ltG)) (fVar 5) (bindA aNil lstG)) aNil) sortedG_) aNil) toTupG) aNil)) tupG))))) (retS (bindA (aCons (bindA (aCons (fVar 3) aNil) sortedG_) aNil) toTupG))))
def V_law_rows_k01 (dp : List Dt → Sto → Option (Dt × Sto)) : List Dt → Sto → Option (Dt × Sto) := fnV 7 (F_law_rows_k01 dp)
def F_law_is_word_k01 : Fs := (retS (andV (bind1 (fVar 0) (isiG "str")) (bind2 (lcF (seqF (fVar 0)) (tgN 1) (notT (truF (callF V_law_is_letter_k01 (aCons (fVar 1) aNil)))) (fVar 1) [1]) (bindA aNil lstG) eqG)))
def V_law_is_word_k01 : List Dt → Sto → Option (Dt × Sto) := fnV 2 F_law_is_word_k01
def F_law_norm_k01 (dp : List Dt → Sto → Option (Dt × Sto)) : Fs := (seqS (par2S 2 3 (callF dp (aCons (fVar 0) (aCons (fC (.int 8)) aNil))) (callF (V_law_pick_k01 dp) (aCons (fVar 0) (aCons (bindA (aCons (fC (.str "left")) (aCons (fC (.str "right")) aNil)) lstG) aNil)))) (seqS (ifS (asB (bind2 (fVar 2) (fC (.int 2)) ltG)) (retS (bindA (aCons (fC (.str "drop")) (aCons (bind2 (fC (.int 1)) (callF dp (aCons (fVar 0) (aCons (fC (.int 4)) aNil))) addAll) (aCons (fVar 3) aNil))) tupG)) skipS) (seqS (ifS (asB (bind2 (fVar 2) (fC (.int 2)) eqG)) (retS (bindA (aCons (fC (.str "half")) (aCons (fVar 3) aNil)) tupG)) skipS) (seqS (ifS (asB (bind2 (fVar 2) (fC (.int 3)) eqG)) (retS (bindA (aCons (fC (.str "empty")) aNil) tupG)) skipS) (seqS (ifS (orT (asB (bind2 (fVar 2) (fC (.int 6)) ltG)) (asB (bind2 (fVar 1) (bindA aNil lstG) eqG))) (retS (bindA (aCons (fC (.str "lower")) (aCons (fVar 3) aNil)) tupG)) skipS) (seqS (setS 4 (callF (V_law_pick_k01 dp) (aCons (fVar 0) (aCons (fVar 1) aNil)))) (seqS (setS 5 (bind2 (toStrOnly (fC (.str ""))) (lcF (rngF1 (callF dp (aCons (fVar 0) (aCons (fC (.int 4)) aNil)))) (tgN 6) yesT (callF (V_law_pick_k01 dp) (aCons (fVar 0) (aCons (fVar 1) aNil))) [6]) joinG)) (retS (bindA (aCons (fC (.str "put")) (aCons (fVar 4) (aCons (ifV (asB (bind2 (fVar 5) (fVar 4) neG)) (fVar 5) (fC (.str ""))) (aCons (fVar 3) aNil)))) tupG)))))))))
def V_law_norm_k01 (dp : List Dt → Sto → Option (Dt × Sto)) : List Dt → Sto → Option (Dt × Sto) := fnV 7 (F_law_norm_k01 dp)
def F_law_word_k01 (dp : List Dt → Sto → Option (Dt × Sto)) : Fs := (seqS (ifS (asB (bind2 (fVar 1) (bindA aNil lstG) eqG)) (retS (fC (.str ""))) skipS) (seqS (setS 3 (ifV (asB (bind2 (callF dp (aCons (fVar 0) (aCons (fC (.int 2)) aNil))) (fC (.int 0)) eqG)) (bind2 (fVar 2) (callF dp (aCons (fVar 0) (aCons (fC (.int 2)) aNil))) subG) (callF dp (aCons (fVar 0) (aCons (bind2 (fVar 2) (fC (.int 1)) addAll) aNil))))) (retS (bind2 (toStrOnly (fC (.str ""))) (lcF (rngF1 (fVar 3)) (tgN 4) yesT (callF (V_law_pick_k01 dp) (aCons (fVar 0) (aCons (fVar 1) aNil))) [4]) joinG))))
def V_law_word_k01 (dp : List Dt → Sto → Option (Dt × Sto)) : List Dt → Sto → Option (Dt × Sto) := fnV 5 (F_law_word_k01 dp)
def F_law_strange_k01 (dp : List Dt → Sto → Option (Dt × Sto)) : Fs := (seqS (setS 1 (bindA (aCons (fC .non) (aCons (fC (.bl true)) (aCons (fC (.bl false)) (aCons (fC (.int 0)) (aCons (fC (.int 1)) (aCons (fC (.int 2)) (aCons (bind1 (fC (.int 1)) negG) (aCons (bind2 (fC (.int 10)) (fC (.int 59)) powG) (aCons (fC (.str "")) (aCons (fC (.str "a")) (aCons (fC (.str "b")) (aCons (fC (.str "z")) (aCons (fC (.str "ab")) (aCons (fC (.str "A")) (aCons (fC (.str "a b")) (aCons (fC (.str "-")) (aCons (fC (.str "left")) (aCons (fC (.str "drop")) aNil)))))))))))))))))) lstG)) (seqS (setS 1 (bind2 (fVar 1) (bindA (aCons (fC (.str "1")) (aCons (bindA aNil tupG) (aCons (bindA aNil lstG) (aCons (bindA (aCons (fC (.str "a")) aNil) tupG) (aCons (bindA (aCons (fC (.str "b")) (aCons (fC (.str "a")) aNil)) tupG) (aCons (bindA (aCons (fC (.str "a")) (aCons (fC (.str "a")) aNil)) tupG) (aCons (bindA (aCons (fC (.str "a")) (aCons (fC (.str "b")) aNil)) tupG) (aCons (bindA (aCons (fC (.str "a")) aNil) lstG) (aCons (bindA (aCons (fC (.str "")) aNil) tupG) (aCons (bindA (aCons (fC (.str "ab")) aNil) tupG) (aCons (bindA (aCons (fC (.str "A")) aNil) tupG) (aCons (bindA (aCons (fC (.int 0)) aNil) tupG) aNil)))))))))))) lstG) addAll)) (seqS (setS 1 (bind2 (fVar 1) (bindA (aCons (bindA (aCons (fC (.int 1)) (aCons (fC (.int 2)) aNil)) tupG) (aCons (bindA (aCons (fC (.bl true)) aNil) tupG) (aCons (bindA (aCons (fC (.str "a")) (aCons (bindA aNil tupG) aNil)) tupG) (aCons (bindA (aCons (fC (.str "a")) (aCons (bindA (aCons (fC (.str "b")) aNil) tupG) aNil)) tupG) (aCons (bindA (aCons (fC (.str "b")) (aCons (bindA (aCons (fC (.str "a")) (aCons (fC (.str "c")) aNil)) tupG) aNil)) tupG) (aCons (bindA (aCons (fC (.str "a")) (aCons (bindA (aCons (fC (.str "c")) (aCons (fC (.str "b")) aNil)) tupG) aNil)) tupG) (aCons (bindA (aCons (fC (.str "a")) (aCons (bindA (aCons (fC (.str "b")) aNil) lstG) aNil)) tupG) aNil))))))) lstG) addAll)) (seqS (setS 1 (bind2 (fVar 1) (bindA (aCons (bindA (aCons (fC (.str "a")) (aCons (fC (.str "b")) (aCons (fC (.str "c")) aNil))) tupG) (aCons (bindA (aCons (fC (.str "a")) (aCons (bindA (aCons (fC (.str "ab")) aNil) tupG) aNil)) tupG) (aCons (bindA (aCons (bindA (aCons (fC (.str "a")) (aCons (bindA aNil tupG) aNil)) tupG) aNil) tupG) (aCons (bindA (aCons (bindA (aCons (fC (.str "a")) (aCons (bindA aNil tupG) aNil)) tupG) (aCons (bindA (aCons (fC (.str "a")) (aCons (bindA aNil tupG) aNil)) tupG) aNil)) tupG) (aCons (bindA (aCons (bindA (aCons (fC (.str "b")) (aCons (bindA aNil tupG) aNil)) tupG) (aCons (bindA (aCons (fC (.str "a")) (aCons (bindA aNil tupG) aNil)) tupG) aNil)) tupG) aNil))))) lstG) addAll)) (seqS (setS 1 (bind2 (fVar 1) (bindA (aCons (bindA (aCons (fC (.str "drop")) (aCons (fC (.int 1)) (aCons (fC (.str "left")) aNil))) tupG) (aCons (bindA (aCons (fC (.str "drop")) (aCons (fC (.int 0)) (aCons (fC (.str "left")) aNil))) tupG) (aCons (bindA (aCons (fC (.str "drop")) (aCons (fC (.bl true)) (aCons (fC (.str "left")) aNil))) tupG) (aCons (bindA (aCons (fC (.str "drop")) (aCons (fC (.int 1)) aNil)) tupG) aNil)))) lstG) addAll)) (seqS (setS 1 (bind2 (fVar 1) (bindA (aCons (bindA (aCons (fC (.str "drop")) (aCons (fC (.int 1)) (aCons (fC (.str "up")) aNil))) tupG) (aCons (bindA (aCons (fC (.str "half")) (aCons (fC (.str "right")) aNil)) tupG) (aCons (bindA (aCons (fC (.str "half")) aNil) tupG) (aCons (bindA (aCons (fC (.str "empty")) aNil) tupG) (aCons (bindA (aCons (fC (.str "empty")) (aCons (fC (.str "left")) aNil)) tupG) aNil))))) lstG) addAll)) (seqS (setS 1 (bind2 (fVar 1) (bindA (aCons (bindA (aCons (fC (.str "lower")) (aCons (fC (.str "left")) aNil)) tupG) (aCons (bindA (aCons (fC (.str "lower")) (aCons (fC (.int 1)) aNil)) tupG) aNil)) lstG) addAll)) (seqS (setS 1 (bind2 (fVar 1) (bindA (aCons (bindA (aCons (fC (.str "put")) (aCons (fC (.str "a")) (aCons (fC (.str "")) (aCons (fC (.str "left")) aNil)))) tupG) (aCons (bindA (aCons (fC (.str "put")) (aCons (fC (.str "a")) (aCons (fC (.str "a")) (aCons (fC (.str "left")) aNil)))) tupG) (aCons (bindA (aCons (fC (.str "put")) (aCons (fC (.str "a")) (aCons (fC (.str "b")) (aCons (fC (.str "left")) aNil)))) tupG) (aCons (bindA (aCons (fC (.str "any")) (aCons (bindA aNil tupG) aNil)) tupG) aNil)))) lstG) addAll)) (seqS (setS 1 (bind2 (fVar 1) (bindA (aCons (bindA (aCons (fC (.str "put")) (aCons (fC (.str "ab")) (aCons (fC (.str "a")) (aCons (fC (.str "left")) aNil)))) tupG) (aCons (bindA (aCons (fC (.str "put")) (aCons (fC (.str "a")) (aCons (fC (.str "A")) (aCons (fC (.str "left")) aNil)))) tupG) (aCons (bindA (aCons (fC (.str "causes")) (aCons (bindA (aCons (fC (.str "a")) aNil) tupG) aNil)) tupG) (aCons (bindA (aCons (fC (.str "has")) (aCons (bindA (aCons (fC (.str "a")) (aCons (fC (.str "b")) aNil)) tupG) aNil)) tupG) aNil)))) lstG) addAll)) (seqS (setS 1 (bind2 (fVar 1) (bindA (aCons (bindA (aCons (fC (.str "has")) (aCons (bindA (aCons (fC (.str "ab")) aNil) tupG) aNil)) tupG) (aCons (bindA (aCons (fC (.str "but")) (aCons (bindA aNil tupG) aNil)) tupG) (aCons (bindA (aCons (fC (.str "only")) (aCons (bindA (aCons (fC (.str "")) (aCons (fC (.str "a")) aNil)) tupG) aNil)) tupG) aNil))) lstG) addAll)) (retS (callF (V_law_pick_k01 dp) (aCons (fVar 0) (aCons (fVar 1) aNil))))))))))))))
def V_law_strange_k01 (dp : List Dt → Sto → Option (Dt × Sto)) : List Dt → Sto → Option (Dt × Sto) := fnV 2 (F_law_strange_k01 dp)
def F_law_page_k01 (dp : List Dt → Sto → Option (Dt × Sto)) : Fs := (seqS (setS 3 (callF (V_law_signs_k01 dp) (aCons (fVar 0) (aCons (ifV (asB (bind2 (callF dp (aCons (fVar 0) (aCons (fC (.int 2)) aNil))) (fC (.int 0)) eqG)) (fVar 1) (callF dp (aCons (fVar 0) (aCons (bind2 (fVar 1) (fC (.int 1)) addAll) aNil)))) aNil)))) (seqS (setS 4 (callF (V_law_rows_k01 dp) (aCons (fVar 0) (aCons (fVar 3) aNil)))) (retS (bindA (aCons (fVar 4) (aCons (bindA (aCons (lcF (rngF1 (callF dp (aCons (fVar 0) (aCons (bind2 (fVar 2) (fC (.int 1)) addAll) aNil)))) (tgN 5) yesT (callF (V_law_norm_k01 dp) (aCons (fVar 0) (aCons (fVar 3) aNil))) [5]) aNil) toTupG) aNil)) tupG))))
def V_law_page_k01 (dp : List Dt → Sto → Option (Dt × Sto)) : List Dt → Sto → Option (Dt × Sto) := fnV 6 (F_law_page_k01 dp)
end DL
namespace DL
open PySem PySem.Spec PyProof.Rows L2
def F_law_spring_k16 : Fs := (retS (dispF [((fC (.str "cells")), (bindA (aCons (bindS (fVar 0) oNone (oSome (fC (.int 60))) sliceG) aNil) toLstG)), ((fC (.str "place")), (fC (.int 0))), ((fC (.str "rest")), (fC (.int 0))), ((fC (.str "count")), (fC (.int 0)))]))
def V_law_spring_k16 : List Dt → Sto → Option (Dt × Sto) := fnV 1 F_law_spring_k16
def F_law_dip_k16 : Fs := (seqS (setS 2 (bind2 (bind2 (fVar 0) (fC (.str "count")) ixA) (fC (.int 1)) addAll)) (seqS (hputS 0 (fC (.str "count")) (fVar 2)) (seqS (ifS (asB (bind2 (bind2 (fVar 0) (fC (.str "rest")) ixA) (fC (.int 0)) gtG)) (seqS (setS 3 (bind2 (bindA (aCons (bind2 (fVar 0) (fC (.str "rest")) ixA) aNil) intG) (fVar 1) modG)) (seqS (hputS 0 (fC (.str "rest")) (bind2 (bind2 (fVar 0) (fC (.str "rest")) ixA) (fVar 1) divG)) (retS (fVar 3)))) skipS) (seqS (setS 4 (bind2 (fVar 0) (fC (.str "place")) ixA)) (seqS (hputS 0 (fC (.str "place")) (bind2 (fVar 4) (fC (.int 1)) addAll)) (seqS (setS 5 (fC (.int 77317))) (seqS (ifS (asB (bind2 (bind2 (fVar 0) (fC (.str "cells")) ixA) (bindA aNil lstG) neG)) (setS 5 (bind2 (bind2 (fVar 0) (fC (.str "cells")) ixA) (bind2 (bindA (aCons (fVar 4) aNil) intG) (bindA (aCons (bind2 (fVar 0) (fC (.str "cells")) ixA) aNil) lenG) modG) ixA)) skipS) (seqS (ifS (andT (asB (bind2 (fVar 5) (bind2 (fC (.int 10)) (fC (.int 18)) powG) geG)) (asB (bind2 (fVar 4) (bindA (aCons (bind2 (fVar 0) (fC (.str "cells")) ixA) aNil) lenG) ltG))) (seqS (hputS 0 (fC (.str "rest")) (bind2 (fVar 5) (fVar 1) divG)) (retS (bind2 (bindA (aCons (fVar 5) aNil) intG) (fVar 1) modG))) skipS) (seqS (setS 6 (bind2 (bindA (aCons (bind2 (bind2 (bind2 (bind2 (bindA (aCons (fVar 5) aNil) intG) (fC (.int 2147483353)) modG) (bind2 (fC (.int 6007)) (fVar 2) mulG) addAll) (fC (.int 211)) addAll) (fC (.int 3)) powG) aNil) intG) (fC (.int 2147483647)) modG)) (seqS (setS 6 (bind2 (bindA (aCons (bind2 (bind2 (fVar 6) (bind2 (fC (.int 40009)) (fVar 2) mulG) addAll) (fC (.int 5)) powG) aNil) intG) (fC (.int 2147483587)) modG)) (retS (bind2 (bindA (aCons (bind2 (fVar 6) (fC (.int 128)) divG) aNil) intG) (fVar 1) modG))))))))))))
def V_law_dip_k16 : List Dt → Sto → Option (Dt × Sto) := fnV 7 F_law_dip_k16
def F_law_rule_k16 : Fs := (seqS (setS 2 (ifV (asB (bind2 (bind2 (fVar 0) (bind1 (fC (.int 1)) negG) ixA) (fC (.str "l")) eqG)) (fC (.str "left")) (fC (.str "right")))) (seqS (ifS (asB (bind2 (bind2 (fVar 0) (fC (.int 0)) ixA) (fC (.str "d")) eqG)) (retS (bindA (aCons (fC (.str "drop")) (aCons (bindA (aCons (bind2 (fVar 0) (fC (.int 1)) ixA) aNil) intG) (aCons (fVar 2) aNil))) tupG)) skipS) (seqS (ifS (asB (bind2 (bind2 (fVar 0) (fC (.int 0)) ixA) (fC (.str "p")) eqG)) (retS (bindA (aCons (fC (.str "put")) (aCons (bind2 (fVar 1) (bind2 (fVar 0) (fC (.int 1)) ixA) ixA) (aCons (bind2 (toStrOnly (fC (.str ""))) (lcF (seqF (bindS (fVar 0) (oSome (fC (.int 3))) (oSome (bind1 (fC (.int 2)) negG)) sliceG)) (tgN 3) yesT (bind2 (fVar 1) (fVar 3) ixA) [3]) joinG) (aCons (fVar 2) aNil)))) tupG)) skipS) (seqS (ifS (asB (bind2 (fVar 0) (fC (.str "e")) eqG)) (retS (bindA (aCons (fC (.str "empty")) aNil) tupG)) skipS) (retS (bindA (aCons (ifV (asB (bind2 (bind2 (fVar 0) (fC (.int 0)) ixA) (fC (.str "h")) eqG)) (fC (.str "half")) (fC (.str "lower"))) (aCons (fVar 2) aNil)) tupG))))))
def V_law_rule_k16 : List Dt → Sto → Option (Dt × Sto) := fnV 4 F_law_rule_k16
def F_law_results_k16 : Fs := (seqS (par2S 3 4 (bindA (aCons (fVar 2) aNil) lenG) (bindA aNil lstG)) (seqS (ifS (asB (bind2 (bind2 (fVar 1) (fC (.int 0)) ixA) (fC (.str "empty")) eqG)) (retS (bindA (aCons (fC (.str "")) aNil) lstG)) skipS) (seqS (ifS (asB (bind2 (bind2 (fVar 1) (fC (.int 0)) ixA) (fC (.str "half")) eqG)) (retS (bindA (aCons (ifV (asB (bind2 (bind2 (fVar 1) (fC (.int 1)) ixA) (fC (.str "left")) eqG)) (bindS (fVar 2) oNone (oSome (bind2 (fVar 3) (fC (.int 2)) divG)) sliceG) (bindS (fVar 2) (oSome (bind2 (fVar 3) (bind2 (fVar 3) (fC (.int 2)) divG) subG)) oNone sliceG)) aNil) lstG)) skipS) (seqS (ifS (asB (bind2 (bind2 (fVar 1) (fC (.int 0)) ixA) (fC (.str "drop")) eqG)) (seqS (setNS 4 (lcF (rngF1 (bind2 (bind2 (fVar 3) (bind2 (fVar 1) (fC (.int 1)) ixA) subG) (fC (.int 1)) addAll)) (tgN 7) yesT (bind2 (bindS (fVar 2) oNone (oSome (fVar 7)) sliceG) (bindS (fVar 2) (oSome (bind2 (fVar 7) (bind2 (fVar 1) (fC (.int 1)) ixA) addAll)) oNone sliceG) addAll) [7])) (retS (ifV (asB (bind2 (bind2 (fVar 1) (fC (.int 2)) ixA) (fC (.str "left")) eqG)) (fVar 4) (bind1 (fVar 4) revG)))) skipS) (seqS (par2S 5 6 (bindA (aCons (bindA (aCons (bind2 (fVar 0) (fC (.int 0)) ixA) aNil) toLstG) aNil) toDctG) (bind1 (fVar 3) rg1G)) (seqS (forF (seqF (ifV (asB (bind2 (bind2 (fVar 1) (bind1 (fC (.int 1)) negG) ixA) (fC (.str "left")) eqG)) (fVar 6) (bind1 (fVar 6) revG))) (tgN 7) (ifS (asB (bind2 (bind2 (fVar 1) (fC (.int 0)) ixA) (fC (.str "lower")) eqG)) (extS 4 (lcF (seqF (bind2 (fVar 5) (bind2 (fVar 2) (fVar 7) ixA) ixA)) (tgN 8) yesT (bind2 (bind2 (bindS (fVar 2) oNone (oSome (fVar 7)) sliceG) (fVar 8) addAll) (bindS (fVar 2) (oSome (bind2 (fVar 7) (fC (.int 1)) addAll)) oNone sliceG) addAll) [8])) (ifS (asB (bind2 (bind2 (fVar 2) (fVar 7) ixA) (bind2 (fVar 1) (fC (.int 1)) ixA) eqG)) (appS 4 (bind2 (bind2 (bindS (fVar 2) oNone (oSome (fVar 7)) sliceG) (bind2 (fVar 1) (fC (.int 2)) ixA) addAll) (bindS (fVar 2) (oSome (bind2 (fVar 7) (fC (.int 1)) addAll)) oNone sliceG) addAll)) skipS))) (retS (fVar 4))))))))
def V_law_results_k16 : List Dt → Sto → Option (Dt × Sto) := fnV 9 F_law_results_k16
def F_law_once_k16 : Fs := (seqS (setNS 2 (bindA aNil lstG)) (seqS (forF (seqF (fVar 1)) (tgN 3) (ifS (andT (asB (bind2 (fVar 3) (fVar 0) neG)) (asB (bind2 (fVar 3) (fVar 2) notinA))) (appS 2 (fVar 3)) skipS)) (retS (fVar 2))))
def V_law_once_k16 : List Dt → Sto → Option (Dt × Sto) := fnV 4 F_law_once_k16
def F_law_scenes_k16 : Fs := (retS (bindA (aCons (fC (.str "a b>a c;d1l ll")) (aCons (fC (.str "a b>a c;d1r ll")) (aCons (fC (.str "a b c;hl d1l")) (aCons (fC (.str "a b>a c;hl pb:a.l")) (aCons (fC (.str "a b c;d1l")) (aCons (fC (.str "a b;e d1l")) (aCons (fC (.str "a b;d2l d1r")) (aCons (fC (.str "a b c;pa:.l pb:.l pc:.r")) (aCons (fC (.str "a b;pa:bb.l d1l")) (aCons (fC (.str "a b>a;lr d1r hl")) (aCons (fC (.str "a b>a c>ab;lr d1l")) (aCons (fC (.str "a b>a c;pc:.l lr d2l")) (aCons (fC (.str "a b c d;hl hr d1l")) (aCons (fC (.str "a b>a;pb:aa.l ll e")) (aCons (fC (.str "a;d3r hl d1l")) (aCons (fC (.str ";")) (aCons (fC (.str "a b>a c;")) (aCons (fC (.str "a b;pa:b.l pa:.r")) (aCons (fC (.str "a b>a c>b;hr lr d1r e")) aNil))))))))))))))))))) lstG))
def V_law_scenes_k16 : List Dt → Sto → Option (Dt × Sto) := fnV 0 F_law_scenes_k16
def F_law_menu_k16 : Fs := (retS (bindA (aCons (fC (.str "d1l")) (aCons (fC (.str "d1r")) (aCons (fC (.str "d2l")) (aCons (fC (.str "d2r")) (aCons (fC (.str "d3l")) (aCons (fC (.str "d4r")) (aCons (fC (.str "hl")) (aCons (fC (.str "hr")) (aCons (fC (.str "e")) (aCons (fC (.str "ll")) (aCons (fC (.str "lr")) (aCons (fC (.str "pa:.l")) (aCons (fC (.str "pb:.r")) (aCons (fC (.str "pb:a.l")) (aCons (fC (.str "pc:a.r")) (aCons (fC (.str "pc:ab.l")) (aCons (fC (.str "pb:aa.l")) (aCons (fC (.str "pa:b.l")) (aCons (fC (.str "pc:.l")) (aCons (fC (.str "pa:bb.r")) (aCons (fC (.str "pc:abb.l")) (aCons (fC (.str "pb:aaa.r")) aNil)))))))))))))))))))))) lstG))
def V_law_menu_k16 : List Dt → Sto → Option (Dt × Sto) := fnV 0 F_law_menu_k16
def F_law_read_k16 : Fs := (seqS (unpS 2 3 (bind2 (toStrOnly (fVar 0)) (fC (.str ";")) splitG)) (seqS (setNS 4 (bindA aNil lstG)) (seqS (forF (seqF (ifV (asB (bind2 (fVar 2) (fC (.str "")) neG)) (bind2 (toStrOnly (fVar 2)) (fC (.str " ")) splitG) (bindA aNil lstG))) (tgN 5) (appS 4 (bindA (aCons (bind2 (fVar 1) (bind2 (fVar 5) (fC (.int 0)) ixA) ixA) (aCons (bindA (aCons (bindA (aCons (lcF (seqF (bindS (fVar 5) (oSome (fC (.int 2))) oNone sliceG)) (tgN 6) yesT (bind2 (fVar 1) (fVar 6) ixA) [6]) aNil) sortedG_) aNil) toTupG) aNil)) tupG))) (retS (bindA (aCons (bindA (aCons (bindA (aCons (fVar 4) aNil) sortedG_) aNil) toTupG) (aCons (bindA (aCons (ifV (asB (bind2 (fVar 3) (fC (.str "")) neG)) (lcF (seqF (bind2 (toStrOnly (fVar 3)) (fC (.str " ")) splitG)) (tgN 7) yesT (callF V_law_rule_k16 (aCons (fVar 7) (aCons (fVar 1) aNil))) [7]) (bindA aNil lstG)) aNil) toTupG) aNil)) tupG)))))
def V_law_read_k16 : List Dt → Sto → Option (Dt × Sto) := fnV 8 F_law_read_k16
def F_law_steps_k16 : Fs := (seqS (setNS 2 (bindA aNil lstG)) (seqS (forF (seqF (bind2 (fVar 0) (fC (.int 1)) ixA)) (tgN 3) (extA 2 (callF V_law_results_k16 (aCons (fVar 0) (aCons (fVar 3) (aCons (fVar 1) aNil)))))) (retS (callF V_law_once_k16 (aCons (fVar 1) (aCons (fVar 2) aNil))))))
def V_law_steps_k16 : List Dt → Sto → Option (Dt × Sto) := fnV 4 F_law_steps_k16
def F_law_names_k16 (dp : List Dt → Sto → Option (Dt × Sto)) : Fs := (seqS (setS 1 (bindA (aCons (fC (.str "abcd")) (aCons (fC (.str "bxyz")) (aCons (fC (.str "pqrs")) (aCons (fC (.str "dacb")) (aCons (fC (.str "zyxw")) aNil))))) lstG)) (seqS (setS 2 (callF (V_law_pick_k01 dp) (aCons (fVar 0) (aCons (fVar 1) aNil)))) (retS (dispF [((fC (.str "a")), (bind2 (fVar 2) (fC (.int 0)) ixA)), ((fC (.str "b")), (bind2 (fVar 2) (fC (.int 1)) ixA)), ((fC (.str "c")), (bind2 (fVar 2) (fC (.int 2)) ixA)), ((fC (.str "d")), (bind2 (fVar 2) (fC (.int 3)) ixA))]))))
def V_law_names_k16 (dp : List Dt → Sto → Option (Dt × Sto)) : List Dt → Sto → Option (Dt × Sto) := fnV 3 (F_law_names_k16 dp)
def F_law_drawn_k16 (dp : List Dt → Sto → Option (Dt × Sto)) : Fs := (seqS (setS 2 (callF (V_law_pick_k01 dp) (aCons (fVar 0) (aCons (bindA (aCons (fC (.str "a b>a c")) (aCons (fC (.str "a b")) (aCons (fC (.str "a b>a")) (aCons (fC (.str "a b>a c>ab")) (aCons (fC (.str "a b c")) (aCons (fC (.str "a")) (aCons (fC (.str "a b>a c>b d>a")) aNil))))))) lstG) aNil)))) (seqS (setNS 3 (bindA aNil lstG)) (seqS (forF (rngF1 (bind2 (fC (.int 1)) (callF dp (aCons (fVar 0) (aCons (callF (V_law_pick_k01 dp) (aCons (fVar 0) (aCons (bindA (aCons (fC (.int 3)) (aCons (fC (.int 4)) (aCons (fC (.int 6)) aNil))) lstG) aNil))) aNil))) addAll)) (tgN 4) (seqS (setS 5 (callF (V_law_pick_k01 dp) (aCons (fVar 0) (aCons (fVar 1) aNil)))) (ifS (orT (asB (bind2 (bind2 (fVar 5) (fC (.int 0)) ixA) (fC (.str "p")) neG)) (asB (bind2 (lcF (seqF (bind2 (bind2 (fVar 5) (fC (.int 1)) ixA) (bindS (fVar 5) (oSome (fC (.int 3))) (oSome (bind1 (fC (.int 2)) negG)) sliceG) addAll)) (tgN 6) (asB (bind2 (fVar 6) (fVar 2) notinA)) (fVar 6) [6]) (bindA aNil lstG) eqG))) (appS 3 (fVar 5)) skipS))) (retS (bind2 (bind2 (fVar 2) (fC (.str ";")) addAll) (bind2 (toStrOnly (fC (.str " "))) (fVar 3) joinG) addAll)))))
def V_law_drawn_k16 (dp : List Dt → Sto → Option (Dt × Sto)) : List Dt → Sto → Option (Dt × Sto) := fnV 7 (F_law_drawn_k16 dp)
def F_law_word_k16 (dp : List Dt → Sto → Option (Dt × Sto)) : Fs := (seqS (setS 3 (lcF (seqF (bind2 (fVar 1) (fC (.int 0)) ixA)) (tgN 5) yesT (bind2 (fVar 5) (fC (.int 0)) ixA) [5])) (seqS (setS 4 (callF dp (aCons (fVar 0) (aCons (bind2 (fVar 2) (fC (.int 1)) addAll) aNil)))) (retS (bind2 (toStrOnly (fC (.str ""))) (lcF (rngF1 (ifV (asB (bind2 (fVar 3) (bindA aNil lstG) neG)) (fVar 4) (fC (.int 0)))) (tgN 6) yesT (callF (V_law_pick_k01 dp) (aCons (fVar 0) (aCons (fVar 3) aNil))) [6]) joinG))))
def V_law_word_k16 (dp : List Dt → Sto → Option (Dt × Sto)) : List Dt → Sto → Option (Dt × Sto) := fnV 7 (F_law_word_k16 dp)
def F_law_book_k16 (dp : List Dt → Sto → Option (Dt × Sto)) : Fs := (retS (callF V_law_read_k16 (aCons (ifV (asB (bind2 (callF dp (aCons (fVar 0) (aCons (fC (.int 2)) aNil))) (fC (.int 0)) eqG)) (callF (V_law_drawn_k16 dp) (aCons (fVar 0) (aCons (fVar 2) aNil))) (callF (V_law_pick_k01 dp) (aCons (fVar 0) (aCons (fVar 1) aNil)))) (aCons (fVar 3) aNil))))
def V_law_book_k16 (dp : List Dt → Sto → Option (Dt × Sto)) : List Dt → Sto → Option (Dt × Sto) := fnV 4 (F_law_book_k16 dp)
def Flaw_k16 : Fs := (seqS (setS 2 (callF (V_law_book_k16 V_law_dip_k16) (aCons (fVar 1) (aCons (callF V_law_scenes_k16 aNil) (aCons (callF V_law_menu_k16 aNil) (aCons (callF (V_law_names_k16 V_law_dip_k16) (aCons (fVar 1) aNil)) aNil)))))) (seqS (setS 3 (bindA (aCons (fVar 2) aNil) reprG)) (seqS (forF (rngF1 (fC (.int 5))) (tgN 4) (seqS (setS 5 (callF (V_law_word_k16 V_law_dip_k16) (aCons (fVar 1) (aCons (fVar 2) (aCons (fC (.int 6)) aNil))))) (seqS (setS 6 (bindA (aCons (callF V_law_steps_k16 (aCons (fVar 2) (aCons (fVar 5) aNil))) aNil) toTupG)) (seqS (ifS (asB (bind2 (bindA (aCons (bindA (aCons (callF Vsteps_of (aCons (fVar 2) (aCons (fVar 5) aNil))) (aCons (callF (fun ds s => Vsteps_of (permL [1, 0] ds) s) (aCons (fVar 5) (aCons (fVar 2) aNil))) aNil)) lstG) aNil) reprG) (bindA (aCons (bindA (aCons (fVar 6) (aCons (fVar 6) aNil)) lstG) aNil) reprG) neG)) (retS (fC (.bl false))) skipS) (forF (rngF1 (bindA (aCons (bind2 (fVar 2) (fC (.int 1)) ixA) aNil) lenG)) (tgN 7) (seqS (setS 6 (bindA (aCons (callF V_law_once_k16 (aCons (fVar 5) (aCons (callF V_law_results_k16 (aCons (fVar 2) (aCons (bind2 (bind2 (fVar 2) (fC (.int 1)) ixA) (fVar 7) ixA) (aCons (fVar 5) aNil)))) aNil))) aNil) toTupG)) (ifS (asB (bind2 (bindA (aCons (bindA (aCons (callF Vrule_steps (aCons (fVar 2) (aCons (fVar 7) (aCons (fVar 5) aNil)))) (aCons (callF (fun ds s => Vrule_steps (permL [2, 1, 0] ds) s) (aCons (fVar 5) (aCons (fVar 7) (aCons (fVar 2) aNil)))) aNil)) lstG) aNil) reprG) (bindA (aCons (bindA (aCons (fVar 6) (aCons (fVar 6) aNil)) lstG) aNil) reprG) neG)) (retS (fC (.bl false))) skipS))))))) (retS (bind2 (bindA (aCons (fVar 2) aNil) reprG) (fVar 3) eqG)))))
def Elaw_k16 : Fe := (callF V_law_spring_k16 (aCons (fVar 0) aNil))
end DL
namespace DL
open PySem PySem.Spec PyProof.Rows L2
/-! ### rows of a mirror function, one by one -/
section
variable {A B : Fs} {c : Ft} {f fa fb : Fe} {env e' : Env} {s s' s1 : Sto} {d x y z : Dt} {i k : Nat} {o : Out}
theorem seq_nx (h : A env s = some (.nx e', s')) : seqS A B env s = B e' s' := by unfold seqS; rw [h]
theorem seq_rt (h : A env s = some (.rt d, s')) : seqS A B env s = some (.rt d, s') := by unfold seqS; rw [h]
theorem set_ev (h : f env s = some (d, s')) : setS i f env s = some (.nx (env.set i (some d)), s') := by unfold setS; rw [h]; rfl
theorem setN_ev (hl : i < env.length) (h : f env s = some (d, s')) : setNS i f env s = some (.nx (env.set i (some d)), s') := by unfold setNS; rw [if_pos hl, h]; rfl
theorem ret_ev (h : f env s = some (d, s')) : retS f env s = some (.rt d, s') := by unfold retS; rw [h]; rfl
theorem if_t (h : c env s = some (true, s')) : ifS c A B env s = A env s' := by unfold ifS; rw [h]; rfl
theorem if_f (h : c env s = some (false, s')) : ifS c A B env s = B env s' := by unfold ifS; rw [h]; rfl
theorem ifV_t (h : c env s = some (true, s')) : ifV c fa fb env s = fa env s' := by unfold ifV; rw [h]; rfl
theorem ifV_f (h : c env s = some (false, s')) : ifV c fa fb env s = fb env s' := by unfold ifV; rw [h]; rfl
theorem bind2_ev {g : Sto → Dt → Dt → Option Dt} {s2 : Sto} (h1 : fa env s = some (x, s1)) (h2 : fb env s1 = some (y, s2)) (h3 : g s2 x y = some z) : bind2 fa fb g env s = some (z, s2) := by
  unfold bind2; rw [h1]; simp only [Option.bind_eq_bind, Option.bind_some]; rw [h2]; simp only [Option.bind_some]; rw [h3]; rfl
theorem bind1_ev {g : Sto → Dt → Option Dt} (h1 : fa env s = some (x, s1)) (h3 : g s1 x = some z) : bind1 fa g env s = some (z, s1) := by
  unfold bind1; rw [h1]; simp only [Option.bind_eq_bind, Option.bind_some]; rw [h3]; rfl
theorem asB_ev {b : Bool} (h : f env s = some (.bl b, s')) : asB f env s = some (b, s') := by unfold asB; rw [h]
theorem bindA_ev {r : Fa} {g : Sto → List Dt → Option Dt} {xs : List Dt} (h1 : r env s = some (xs, s1)) (h3 : g s1 xs = some z) : bindA r g env s = some (z, s1) := by
  unfold bindA; rw [h1]; simp only [Option.bind_eq_bind, Option.bind_some]; rw [h3]; rfl
theorem aCons_ev {r : Fa} {xs : List Dt} (h1 : f env s = some (x, s1)) (h2 : r env s1 = some (xs, s')) : aCons f r env s = some (x :: xs, s') := by
  unfold aCons; rw [h1]; simp only [Option.bind_eq_bind, Option.bind_some]; rw [h2]; rfl
theorem call_ev {Fn : List Dt → Sto → Option (Dt × Sto)} {fa : Fa} {xs : List Dt} (h1 : fa env s = some (xs, s1)) (h2 : Fn xs s1 = some (d, s')) : callF Fn fa env s = some (d, s') := by
  unfold callF; rw [h1]; exact h2
theorem a0 : aNil env s = some ([], s) := rfl
theorem c0 : fC d env s = some (d, s) := rfl
theorem v0 (h : env[i]? = some (some d)) : fVar i env s = some (d, s) := by unfold fVar; rw [h]; rfl
theorem fn_rt {m : Nat} {F : Fs} {ds : List Dt} (h : F (ds.map some ++ List.replicate (m - ds.length) none) s = some (.rt d, s')) : fnV m F ds s = some (d, s') := by unfold fnV; rw [h]
theorem fn_nx {m : Nat} {F : Fs} {ds : List Dt} (h : F (ds.map some ++ List.replicate (m - ds.length) none) s = some (.nx e', s')) : fnV m F ds s = some (.non, s') := by unfold fnV; rw [h]
end
/-! ### loops and lists -/
theorem loop_ind {st : Tg} {F : Fs} (I : List Dt → Env → Sto → Prop) (hs : ∀ d r env s, I (d :: r) env s → ∃ e1 e2 s2, st env d = some e1 ∧ F e1 s = some (.nx e2, s2) ∧ I r e2 s2) :
    ∀ (ds : List Dt) (env : Env) (s : Sto), I ds env s → ∃ env' s', loopF st F ds env s = some (.nx env', s') ∧ I [] env' s'
  | [], env, s, h => ⟨env, s, rfl, h⟩
  | d :: ds, env, s, h => by
    obtain ⟨e1, e2, s2, h1, h2, h3⟩ := hs d ds env s h
    obtain ⟨e', s', h4, h5⟩ := loop_ind I hs ds e2 s2 h3
    refine ⟨e', s', ?_, h5⟩
    unfold loopF
    rw [h1]
    dsimp only
    rw [h2]
    exact h4
theorem lcL_map {te : Fe} {w : Env} {k : Nat} {g : Dt → Dt} {s : Sto} : ∀ {ds : List Dt}, (∀ d, d ∈ ds → te (w.set k (some d)) s = some (g d, s)) → lcL (tgN k) yesT te w ds s = some (ds.map g, s)
  | [], _ => rfl
  | d :: ds, h => by
    have ih := lcL_map (te := te) (w := w) (k := k) (g := g) (s := s) (ds := ds) fun d' h' => h d' (List.mem_cons_of_mem _ h')
    unfold lcL
    simp only [tgN, yesT]
    rw [h d List.mem_cons_self]
    dsimp only
    rw [ih]
    rfl
theorem lc_map {fi : Fi} {te : Fe} {env : Env} {vs : List Nat} {k : Nat} {g : Dt → Dt} {s s1 : Sto} {ds : List Dt} (hi : fi env s = some (ds, s1)) (hl : ds.length ≤ sizeLine) (h : ∀ d, d ∈ ds → te ((wipeE env vs).set k (some d)) s1 = some (g d, s1)) : lcF fi (tgN k) yesT te vs env s = some (.lst (ds.map g), s1) := by
  unfold lcF
  rw [hi]
  dsimp only
  rw [lcL_map h]
  dsimp only
  rw [if_pos (by rw [List.length_map]; exact hl)]
theorem lcL_filter {te : Fe} {tt : Ft} {w : Env} {k : Nat} {g : Dt → Dt} {q : Dt → Bool} {s : Sto} : ∀ {ds : List Dt}, (∀ d, d ∈ ds → tt (w.set k (some d)) s = some (q d, s)) → (∀ d, d ∈ ds → q d = true → te (w.set k (some d)) s = some (g d, s)) → lcL (tgN k) tt te w ds s = some ((ds.filter q).map g, s)
  | [], _, _ => rfl
  | d :: ds, h1, h => by
    have ih := lcL_filter (te := te) (tt := tt) (w := w) (k := k) (g := g) (q := q) (s := s) (ds := ds) (fun d' h' => h1 d' (List.mem_cons_of_mem _ h')) fun d' h' => h d' (List.mem_cons_of_mem _ h')
    unfold lcL
    simp only [tgN]
    rw [h1 d List.mem_cons_self]
    cases hq : q d with
    | true =>
      dsimp only
      rw [h d List.mem_cons_self hq]
      dsimp only
      rw [ih]
      rw [List.filter_cons_of_pos hq]
      rfl
    | false =>
      dsimp only
      rw [ih]
      rw [List.filter_cons_of_neg (by rw [hq]; exact Bool.false_ne_true)]
theorem lc_filter {fi : Fi} {te : Fe} {tt : Ft} {env : Env} {vs : List Nat} {k : Nat} {g : Dt → Dt} {q : Dt → Bool} {s s1 : Sto} {ds : List Dt} (hi : fi env s = some (ds, s1)) (hl : ds.length ≤ sizeLine) (h1 : ∀ d, d ∈ ds → tt ((wipeE env vs).set k (some d)) s1 = some (q d, s1))
    (h : ∀ d, d ∈ ds → q d = true → te ((wipeE env vs).set k (some d)) s1 = some (g d, s1)) : lcF fi (tgN k) tt te vs env s = some (.lst ((ds.filter q).map g), s1) := by
  unfold lcF
  rw [hi]
  dsimp only
  rw [lcL_filter h1 h]
  dsimp only
  rw [if_pos (by rw [List.length_map]; exact Nat.le_trans (List.length_filter_le _ _) hl)]
theorem small {n : Nat} (h : n ≤ 16777215) : n ≤ sizeLine := by rw [sizeLine_eq]; omega
theorem small' {n : Nat} (h : n < 16777215) : n < sizeLine := by rw [sizeLine_eq]; omega
/-! ### the spring -/
def spr (l : List Int) (y z u : Int) : List (Key × Dt) := [(.inr "cells", .lst (l.map .int)), (.inr "place", .int y), (.inr "rest", .int z), (.inr "count", .int u)]
section
variable (l : List Int) (y z u v : Int)
theorem val_cells : valD (spr l y z u) (.inr "cells") = some (.lst (l.map .int)) := rfl
theorem val_place : valD (spr l y z u) (.inr "place") = some (.int y) := rfl
theorem val_rest : valD (spr l y z u) (.inr "rest") = some (.int z) := rfl
theorem val_count : valD (spr l y z u) (.inr "count") = some (.int u) := rfl
theorem put_place : putD (spr l y z u) (.inr "place") (.int v) = spr l v z u := rfl
theorem put_rest : putD (spr l y z u) (.inr "rest") (.int v) = spr l y v u := rfl
theorem put_count : putD (spr l y z u) (.inr "count") (.int v) = spr l y z v := rfl
end
theorem ix_one {p : Addr} {ks : List (Key × Dt)} {x : Str} : ixA [(p, .dct ks)] (.ref p) (.str x) = valD ks (.inr x) := by
  simp [ixA, dctOf, dgetG, keyOf, List.lookup]
/-- handle["x"] -/
theorem get_ev {env : Env} {p : Addr} {ks : List (Key × Dt)} {x : Str} {d : Dt} {i : Nat} (h : env[i]? = some (some (.ref p))) (hv : valD ks (.inr x) = some d) : bind2 (fVar i) (fC (.str x)) ixA env [(p, .dct ks)] = some (d, [(p, .dct ks)]) :=
  bind2_ev (v0 h) c0 (ix_one.trans hv)
theorem hput_ev {env : Env} {p : Addr} {ks ks' : List (Key × Dt)} {x : Str} {d : Dt} {i : Nat} {fv : Fe} (h : env[i]? = some (some (.ref p))) (hf : fv env [(p, .dct ks)] = some (d, [(p, .dct ks)])) (hl : ks.length < sizeLine) (hp : putD ks (.inr x) d = ks') : hputS i (fC (.str x)) fv env [(p, .dct ks)] = some (.nx env, [(p, .dct ks')]) := by
  unfold hputS
  rw [hf]
  dsimp only
  rw [c0, h]
  simp [keyOf, List.lookup, hl, hp]
theorem shaped_ints (l : List Int) : plain (.lst (l.map .int)) = true ∧ SeqAt.shaped (py (.lst (l.map .int))) = true := by
  have h1 : ∀ l : List Int, plains (l.map Dt.int) = true := fun l => by
    induction l with
    | nil => rfl
    | cons x l ih => simpa [plains, plain] using ih
  have h2 : ∀ l : List Int, PyData.canLayAll0 (pys (l.map Dt.int)) = true := fun l => by
    induction l with
    | nil => rfl
    | cons x l ih => simpa [pys, py, PyData.canLayAll0, PyData.canLay0] using ih
  have h3 : ∀ l : List Int, PyData.depthAll (pys (l.map Dt.int)) = 0 := fun l => by
    induction l with
    | nil => rfl
    | cons x l ih => simpa [pys, py, PyData.depthAll, PyData.depth] using ih
  refine ⟨by simpa [plain] using h1 l, ?_⟩
  simp [SeqAt.shaped, py, PyData.canLay0, PyData.depth, h2 l, h3 l]
theorem ne_cells (s : Sto) (l : List Int) : neG s (.lst (l.map .int)) (.lst []) = some (.bl (!l.isEmpty)) := by
  obtain ⟨h1, h2⟩ := shaped_ints l
  obtain ⟨h3, h4⟩ := shaped_ints []
  unfold neG eqG
  dsimp only
  rw [if_pos ⟨h1, h3, h2, h4⟩]
  cases l <;> rfl
end DL
namespace DL
open PySem PySem.Spec PyProof.Rows L2
theorem atI_mod {l : List Int} (h : l ≠ []) (y : Int) : ∃ c, atI (l.map Dt.int) (y % ((l.length : Nat) : Int)) = some (.int c) := by
  have hl : 0 < l.length := List.length_pos_iff.mpr h
  have h1 : 0 ≤ y % (l.length : Int) := Int.emod_nonneg _ (by omega)
  have h2 : y % (l.length : Int) < l.length := Int.emod_lt_of_pos _ (by omega)
  obtain ⟨n, hn⟩ := Int.eq_ofNat_of_zero_le h1
  rw [hn] at h2 ⊢
  have hn2 : n < l.length := by omega
  exact ⟨l[n], atI_nat (j := n) (by rw [List.getElem?_map, List.getElem?_eq_getElem hn2]; rfl)⟩
def dipF (q0 q1 q2 q3 : Int) : Fs := (seqS (setS 2 (bind2 (bind2 (fVar 0) (fC (.str "count")) ixA) (fC (.int 1)) addAll)) (seqS (hputS 0 (fC (.str "count")) (fVar 2)) (seqS (ifS (asB (bind2 (bind2 (fVar 0) (fC (.str "rest")) ixA) (fC (.int 0)) gtG)) (seqS (setS 3 (bind2 (bindA (aCons (bind2 (fVar 0) (fC (.str "rest")) ixA) aNil) intG) (fVar 1) modG)) (seqS (hputS 0 (fC (.str "rest")) (bind2 (bind2 (fVar 0) (fC (.str "rest")) ixA) (fVar 1) divG)) (retS (fVar 3)))) skipS) (seqS (setS 4 (bind2 (fVar 0) (fC (.str "place")) ixA)) (seqS (hputS 0 (fC (.str "place")) (bind2 (fVar 4) (fC (.int 1)) addAll)) (seqS (setS 5 (fC (.int q0))) (seqS (ifS (asB (bind2 (bind2 (fVar 0) (fC (.str "cells")) ixA) (bindA aNil lstG) neG)) (setS 5 (bind2 (bind2 (fVar 0) (fC (.str "cells")) ixA) (bind2 (bindA (aCons (fVar 4) aNil) intG) (bindA (aCons (bind2 (fVar 0) (fC (.str "cells")) ixA) aNil) lenG) modG) ixA)) skipS) (seqS (ifS (andT (asB (bind2 (fVar 5) (bind2 (fC (.int 10)) (fC (.int 18)) powG) geG)) (asB (bind2 (fVar 4) (bindA (aCons (bind2 (fVar 0) (fC (.str "cells")) ixA) aNil) lenG) ltG))) (seqS (hputS 0 (fC (.str "rest")) (bind2 (fVar 5) (fVar 1) divG)) (retS (bind2 (bindA (aCons (fVar 5) aNil) intG) (fVar 1) modG))) skipS) (seqS (setS 6 (bind2 (bindA (aCons (bind2 (bind2 (bind2 (bind2 (bindA (aCons (fVar 5) aNil) intG) (fC (.int 2147483353)) modG) (bind2 (fC (.int q1)) (fVar 2) mulG) addAll) (fC (.int q2)) addAll) (fC (.int 3)) powG) aNil) intG) (fC (.int 2147483647)) modG)) (seqS (setS 6 (bind2 (bindA (aCons (bind2 (bind2 (fVar 6) (bind2 (fC (.int q3)) (fVar 2) mulG) addAll) (fC (.int 5)) powG) aNil) intG) (fC (.int 2147483587)) modG)) (retS (bind2 (bindA (aCons (bind2 (fVar 6) (fC (.int 128)) divG) aNil) intG) (fVar 1) modG))))))))))))
theorem dip_ok {q0 q1 q2 q3 : Int} (k1 : 0 ≤ q1 ∧ q1 < 65536) (k2 : 0 ≤ q2 ∧ q2 < 65536) (k3 : 0 ≤ q3 ∧ q3 < 65536) {l : List Int} {y z u m : Int} {p : Addr} (hm : 0 < m) (hm2 : m < 1073741824) (hu : 0 ≤ u) (hu2 : u < 1099511627776) : ∃ r y' z', (fnV 7 (dipF q0 q1 q2 q3)) [.ref p, .int m] [(p, .dct (spr l y z u))] = some (.int r, [(p, .dct (spr l y' z' (u + 1)))]) ∧ 0 ≤ r ∧ r < m := by
  have hs : ∀ l y z u, (spr l y z u).length < sizeLine := fun l y z u => small' (by show 4 < 16777215; decide)
  have md : ∀ a : Int, 0 ≤ a % m ∧ a % m < m := fun a => ⟨Int.emod_nonneg _ (by omega), Int.emod_lt_of_pos _ hm⟩
  have modm : ∀ (s : Sto) (a : Int), modG s (.int a) (.int m) = some (.int (a % m)) := fun s a => if_pos hm
  have divm : ∀ (s : Sto) (a : Int), divG s (.int a) (.int m) = some (.int (a / m)) := fun s a => if_pos ⟨hm, hm2⟩
  suffices h : ∃ r y' z', (dipF q0 q1 q2 q3) [some (.ref p), some (.int m), none, none, none, none, none] [(p, .dct (spr l y z u))] = some (.rt (.int r), [(p, .dct (spr l y' z' (u + 1)))]) ∧ 0 ≤ r ∧ r < m by
    obtain ⟨r, y', z', h1, h2⟩ := h
    exact ⟨r, y', z', fn_rt h1, h2⟩
  unfold dipF
  rw [seq_nx (set_ev (bind2_ev (get_ev rfl (val_count ..)) c0 rfl))]
  rw [seq_nx (hput_ev rfl (v0 rfl) (hs ..) (put_count ..))]
  have e1 : ∀ (env : Env), env[0]? = some (some (.ref p)) → asB (bind2 (bind2 (fVar 0) (fC (.str "rest")) ixA) (fC (.int 0)) gtG) env [(p, .dct (spr l y z (u + 1)))] = some (decide (0 < z), [(p, .dct (spr l y z (u + 1)))]) := fun env he => asB_ev (bind2_ev (get_ev he (val_rest ..)) c0 rfl)
  by_cases hz : 0 < z
  · have e2 := e1 [some (.ref p), some (.int m), some (.int (u + 1)), none, none, none, none] rfl
    rw [decide_eq_true hz] at e2
    have e3 : ∀ B, seqS (setS 3 (bind2 (bindA (aCons (bind2 (fVar 0) (fC (.str "rest")) ixA) aNil) intG) (fVar 1) modG)) B [some (.ref p), some (.int m), some (.int (u + 1)), none, none, none, none] [(p, .dct (spr l y z (u + 1)))] = B [some (.ref p), some (.int m), some (.int (u + 1)), some (.int (z % m)), none, none, none] [(p, .dct (spr l y z (u + 1)))] := fun B =>
      seq_nx (set_ev (bind2_ev (bindA_ev (aCons_ev (get_ev rfl (val_rest ..)) a0) rfl) (v0 rfl) (modm _ _)))
    have e4 : ∀ B, seqS (hputS 0 (fC (.str "rest")) (bind2 (bind2 (fVar 0) (fC (.str "rest")) ixA) (fVar 1) divG)) B [some (.ref p), some (.int m), some (.int (u + 1)), some (.int (z % m)), none, none, none] [(p, .dct (spr l y z (u + 1)))] = B [some (.ref p), some (.int m), some (.int (u + 1)), some (.int (z % m)), none, none, none] [(p, .dct (spr l y (z / m) (u + 1)))] := fun B =>
      seq_nx (hput_ev rfl (bind2_ev (get_ev rfl (val_rest ..)) (v0 rfl) (divm _ _)) (hs ..) (put_rest ..))
    refine ⟨z % m, y, z / m, ?_, md z⟩
    exact seq_rt ((if_t e2).trans ((e3 _).trans ((e4 _).trans (ret_ev (v0 rfl)))))
  · have e2 := e1 [some (.ref p), some (.int m), some (.int (u + 1)), none, none, none, none] rfl
    rw [decide_eq_false hz] at e2
    have e3 : ∀ A B, seqS (ifS (asB (bind2 (bind2 (fVar 0) (fC (.str "rest")) ixA) (fC (.int 0)) gtG)) A skipS) B [some (.ref p), some (.int m), some (.int (u + 1)), none, none, none, none] [(p, .dct (spr l y z (u + 1)))] = B [some (.ref p), some (.int m), some (.int (u + 1)), none, none, none, none] [(p, .dct (spr l y z (u + 1)))] := fun A B => seq_nx ((if_f e2).trans rfl)
    have cell : ∃ c, (if l.isEmpty then (q0 : Int) = c else atI (l.map Dt.int) (y % ((l.length : Nat) : Int)) = some (.int c)) := by
      cases hl : l.isEmpty with
      | true => exact ⟨q0, rfl⟩
      | false =>
        obtain ⟨c, hc⟩ := atI_mod (l := l) (fun z => by rw [z] at hl; cases hl) y
        exact ⟨c, by simpa using hc⟩
    obtain ⟨c, hc⟩ := cell
    have hlen : ∀ s : Sto, lenG s [.lst (l.map Dt.int)] = some (.int l.length) := fun s => by
      show some (Dt.int ((l.map Dt.int).length : Nat)) = _
      rw [List.length_map]
    have e5 : ∀ B, seqS (ifS (asB (bind2 (bind2 (fVar 0) (fC (.str "cells")) ixA) (bindA aNil lstG) neG)) (setS 5 (bind2 (bind2 (fVar 0) (fC (.str "cells")) ixA) (bind2 (bindA (aCons (fVar 4) aNil) intG) (bindA (aCons (bind2 (fVar 0) (fC (.str "cells")) ixA) aNil) lenG) modG) ixA)) skipS) B [some (.ref p), some (.int m), some (.int (u + 1)), none, some (.int y), some (.int q0), none] [(p, .dct (spr l (y + 1) z (u + 1)))]
        = B [some (.ref p), some (.int m), some (.int (u + 1)), none, some (.int y), some (.int c), none] [(p, .dct (spr l (y + 1) z (u + 1)))] := fun B => by
      have t : asB (bind2 (bind2 (fVar 0) (fC (.str "cells")) ixA) (bindA aNil lstG) neG) [some (.ref p), some (.int m), some (.int (u + 1)), none, some (.int y), some (.int q0), none] [(p, .dct (spr l (y + 1) z (u + 1)))] = some (!l.isEmpty, [(p, .dct (spr l (y + 1) z (u + 1)))]) :=
        asB_ev (bind2_ev (get_ev rfl (val_cells ..)) (bindA_ev a0 (z := .lst []) (if_pos (show ([] : List Dt).length ≤ sizeLine from Nat.zero_le _))) (ne_cells _ l))
      cases hl : l.isEmpty with
      | true =>
        rw [hl] at t hc
        have hc' : (q0 : Int) = c := by simpa using hc
        subst hc'
        exact seq_nx ((if_f t).trans rfl)
      | false =>
        rw [hl] at t hc
        have hc' : atI (l.map Dt.int) (y % ((l.length : Nat) : Int)) = some (.int c) := by simpa using hc
        have hpos : (0 : Int) < ((l.length : Nat) : Int) := by
          cases l with
          | nil => cases hl
          | cons => rw [List.length_cons]; omega
        refine seq_nx ((if_t t).trans (set_ev (bind2_ev (get_ev rfl (val_cells ..)) (bind2_ev (x := .int y) (y := .int ((l.length : Nat) : Int)) (bindA_ev (aCons_ev (v0 rfl) a0) rfl) (bindA_ev (aCons_ev (get_ev rfl (val_cells ..)) a0) (hlen _)) (if_pos hpos)) ?_)))
        exact hc'
    have c18 : bind2 (fC (.int 10)) (fC (.int 18)) powG = fun (_ : Env) (s : Sto) => some (.int 1000000000000000000, s) := by
      funext env s
      exact bind2_ev c0 c0 rfl
    have e6 : ∀ (env : Env) (s : Sto), env = [some (.ref p), some (.int m), some (.int (u + 1)), none, some (.int y), some (.int c), none] → s = [(p, .dct (spr l (y + 1) z (u + 1)))] →
        andT (asB (bind2 (fVar 5) (bind2 (fC (.int 10)) (fC (.int 18)) powG) geG)) (asB (bind2 (fVar 4) (bindA (aCons (bind2 (fVar 0) (fC (.str "cells")) ixA) aNil) lenG) ltG)) env s = some (decide ((1000000000000000000 : Int) ≤ c) && decide (y < l.length), s) := fun env s he hs => by
      subst he hs
      unfold andT
      rw [asB_ev (b := decide ((1000000000000000000 : Int) ≤ c)) (bind2_ev (v0 rfl) (show bind2 (fC (.int 10)) (fC (.int 18)) powG _ _ = _ by rw [c18]) rfl)]
      cases q : decide ((1000000000000000000 : Int) ≤ c) with
      | false => rfl
      | true => 
        simp only [Option.bind_eq_bind, Option.bind_some, if_true, Bool.true_and]
        exact asB_ev (bind2_ev (v0 rfl) (bindA_ev (aCons_ev (get_ev rfl (val_cells ..)) a0) (hlen _)) rfl)
    have e7 : ∀ B, seqS (setS 4 (bind2 (fVar 0) (fC (.str "place")) ixA)) (seqS (hputS 0 (fC (.str "place")) (bind2 (fVar 4) (fC (.int 1)) addAll)) (seqS (setS 5 (fC (.int q0))) B)) [some (.ref p), some (.int m), some (.int (u + 1)), none, none, none, none] [(p, .dct (spr l y z (u + 1)))] = B [some (.ref p), some (.int m), some (.int (u + 1)), none, some (.int y), some (.int q0), none] [(p, .dct (spr l (y + 1) z (u + 1)))] := fun B =>
      (seq_nx (set_ev (get_ev rfl (val_place ..)))).trans ((seq_nx (hput_ev rfl (bind2_ev (v0 rfl) c0 rfl) (hs ..) (put_place ..))).trans (seq_nx (set_ev c0)))
    rw [show ([some (Dt.ref p), some (Dt.int m), none, none, none, none, none] : Env).set 2 (some (.int (u + 1))) = [some (.ref p), some (.int m), some (.int (u + 1)), none, none, none, none] from rfl, e3, e7, e5]
    have e8 := e6 _ _ rfl rfl
    cases q : decide ((1000000000000000000 : Int) ≤ c) && decide (y < l.length) with
    | true =>
      rw [q] at e8
      refine ⟨c % m, y + 1, c / m, ?_, md c⟩
      exact seq_rt ((if_t e8).trans ((seq_nx (hput_ev rfl (bind2_ev (v0 rfl) (v0 rfl) (divm _ _)) (hs ..) (put_rest ..))).trans (ret_ev (bind2_ev (bindA_ev (aCons_ev (v0 rfl) a0) rfl) (v0 rfl) (modm _ _)))))
    | false =>
      rw [q] at e8
      rw [seq_nx ((if_f e8).trans rfl)]
      have p1 : ∀ (s : Sto) (a b : Int), 0 ≤ a → a < 2147483353 → 0 ≤ b → b < 1099511627777 → mulG s (.int q1) (.int b) = some (.int (q1 * b)) ∧ powG s (.int (a + q1 * b + q2)) (.int 3) = some (.int ((a + q1 * b + q2) ^ 3)) := fun s a b h1 h2 h3 h4 => by
        constructor
        · refine if_pos ?_
          have : b.natAbs < 2 ^ 41 := by omega
          have h5 : b.natAbs.log2 ≤ 41 := by
            by_cases hb : b.natAbs = 0
            · rw [hb]; decide
            · exact Nat.le_of_lt ((Nat.log2_lt hb).mpr this)
          have h6 : q1.natAbs.log2 ≤ 16 := by
            by_cases hb : q1.natAbs = 0
            · rw [hb]; decide
            · exact Nat.le_of_lt ((Nat.log2_lt hb).mpr (by omega))
          omega
        · have hb : q1 * b ≤ 65536 * 1099511627777 := Int.mul_le_mul (by omega) (by omega) h3 (by decide)
          have hb0 : 0 ≤ q1 * b := Int.mul_nonneg k1.1 h3
          exact if_pos ⟨by decide, by decide, by omega⟩
      have p2 : ∀ (s : Sto) (a b : Int), 0 ≤ a → a < 2147483647 → 0 ≤ b → b < 1099511627777 → mulG s (.int q3) (.int b) = some (.int (q3 * b)) ∧ powG s (.int (a + q3 * b)) (.int 5) = some (.int ((a + q3 * b) ^ 5)) := fun s a b h1 h2 h3 h4 => by
        constructor
        · refine if_pos ?_
          have : b.natAbs < 2 ^ 41 := by omega
          have h5 : b.natAbs.log2 ≤ 41 := by
            by_cases hb : b.natAbs = 0
            · rw [hb]; decide
            · exact Nat.le_of_lt ((Nat.log2_lt hb).mpr this)
          have h6 : q3.natAbs.log2 ≤ 16 := by
            by_cases hb : q3.natAbs = 0
            · rw [hb]; decide
            · exact Nat.le_of_lt ((Nat.log2_lt hb).mpr (by omega))
          omega
        · have hb : q3 * b ≤ 65536 * 1099511627777 := Int.mul_le_mul (by omega) (by omega) h3 (by decide)
          have hb0 : 0 ≤ q3 * b := Int.mul_nonneg k3.1 h3
          exact if_pos ⟨by decide, by decide, by omega⟩
      obtain ⟨m1, w1⟩ := p1 [(p, .dct (spr l (y + 1) z (u + 1)))] (c % 2147483353) (u + 1) (Int.emod_nonneg _ (by decide)) (Int.emod_lt_of_pos _ (by decide)) (by omega) (by omega)
      obtain ⟨m2, w2⟩ := p2 [(p, .dct (spr l (y + 1) z (u + 1)))] (((c % 2147483353 + q1 * (u + 1) + q2) ^ 3) % 2147483647) (u + 1) (Int.emod_nonneg _ (by decide)) (Int.emod_lt_of_pos _ (by decide)) (by omega) (by omega)
      refine ⟨(((((c % 2147483353 + q1 * (u + 1) + q2) ^ 3) % 2147483647 + q3 * (u + 1)) ^ 5) % 2147483587 / 128) % m, y + 1, z, ?_, md _⟩
      refine (seq_nx (set_ev (bind2_ev (bindA_ev (aCons_ev (bind2_ev (bind2_ev (bind2_ev (bind2_ev (bindA_ev (aCons_ev (v0 rfl) a0) rfl) c0 rfl) (bind2_ev c0 (v0 rfl) m1) rfl) c0 rfl) c0 w1) a0) rfl) c0 rfl))).trans ?_
      refine (seq_nx (set_ev (bind2_ev (bindA_ev (aCons_ev (bind2_ev (bind2_ev (v0 rfl) (bind2_ev c0 (v0 rfl) m2) rfl) c0 w2) a0) rfl) c0 rfl))).trans ?_
      exact ret_ev (bind2_ev (bindA_ev (aCons_ev (bind2_ev (v0 rfl) c0 rfl) a0) rfl) (v0 rfl) (modm _ _))
end DL
namespace DL
open PySem PySem.Spec PyProof.Rows L2
/-- the store holds a spring of which at most n numbers were drawn -/
def SpO (p : Addr) (n : Nat) (s : Sto) : Prop := ∃ l y z u, s = [(p, .dct (spr l y z u))] ∧ 0 ≤ u ∧ u ≤ (n : Int)
abbrev Fn := List Dt → Sto → Option (Dt × Sto)
/-- a function that draws numbers -/
structure Dip (dp : Fn) (Sp : Addr → Nat → Sto → Prop) : Prop where
  draw : ∀ {p : Addr} {n : Nat} {s : Sto} {m : Int}, Sp p n s → n < 1000000 → 0 < m → m < 1073741824 → ∃ r s', dp [.ref p, .int m] s = some (.int r, s') ∧ 0 ≤ r ∧ r < m ∧ Sp p (n + 1) s'
  mono : ∀ {p : Addr} {n m : Nat} {s : Sto}, Sp p n s → n ≤ m → Sp p m s
theorem dip_of {dp : Fn} {q0 q1 q2 q3 : Int} (e : dp = fnV 7 (dipF q0 q1 q2 q3)) (k1 : 0 ≤ q1 ∧ q1 < 65536) (k2 : 0 ≤ q2 ∧ q2 < 65536) (k3 : 0 ≤ q3 ∧ q3 < 65536) : Dip dp SpO where
  draw := fun {p n s m} ⟨l, y, z, u, e1, h1, h2⟩ hn hm hm2 => by
    subst e e1
    obtain ⟨r, y', z', e, r1, r2⟩ := dip_ok k1 k2 k3 (q0 := q0) (l := l) (y := y) (z := z) (p := p) hm hm2 h1 (by omega)
    exact ⟨r, _, e, r1, r2, l, y', z', u + 1, rfl, by omega, by omega⟩
  mono := fun {p n m s} ⟨l, y, z, u, e, h1, h2⟩ hm => ⟨l, y, z, u, e, h1, by omega⟩
variable {dp : Fn} {Sp : Addr → Nat → Sto → Prop}
theorem ixA_lst {s : Sto} {ds : List Dt} {n : Nat} {d : Dt} (h : ds[n]? = some d) : ixA s (.lst ds) (.int n) = some d := by
  show atI ds (n : Int) = some d
  exact atI_nat h
theorem ixA_tup {s : Sto} {ds : List Dt} {n : Nat} {d : Dt} (h : ds[n]? = some d) : ixA s (.tup ds) (.int n) = some d := by
  show atI ds (n : Int) = some d
  exact atI_nat h
theorem pick_sp (D : Dip dp Sp) {p : Addr} {n : Nat} {s : Sto} {ds : List Dt} (h : Sp p n s) (hn : n < 1000000) (h0 : ds ≠ []) (hl : ds.length < 1000000) : ∃ d s', (V_law_pick_k01 dp) [.ref p, .lst ds] s = some (d, s') ∧ d ∈ ds ∧ Sp p (n + 1) s' := by
  have hp : 0 < ds.length := List.length_pos_iff.mpr h0
  obtain ⟨r, s', e, r1, r2, h'⟩ := D.draw (m := ((ds.length : Nat) : Int)) h hn (by omega) (by omega)
  obtain ⟨k, rfl⟩ := Int.eq_ofNat_of_zero_le r1
  have hk : k < ds.length := by omega
  refine ⟨ds[k], s', fn_rt (ret_ev (bind2_ev (v0 rfl) (call_ev (aCons_ev (v0 rfl) (aCons_ev (bindA_ev (aCons_ev (v0 rfl) a0) rfl) a0)) e) (ixA_lst (List.getElem?_eq_getElem hk)))), List.getElem_mem hk, h'⟩
/-! ### letters by their names -/
def tables : List Str := ["abcd", "bxyz", "pqrs", "dacb", "zyxw"]
def chD (t : Str) (i : Nat) : Dt := .str ⟨#[t.cps.toList.getD i 0]⟩
def nmap (t : Str) : Dt := .dct [(.inr "a", chD t 0), (.inr "b", chD t 1), (.inr "c", chD t 2), (.inr "d", chD t 3)]
theorem names_row (p : Addr) (s : Sto) (t : Str) (h : t ∈ tables) : dispF [((fC (.str "a")), (bind2 (fVar 2) (fC (.int 0)) ixA)), ((fC (.str "b")), (bind2 (fVar 2) (fC (.int 1)) ixA)), ((fC (.str "c")), (bind2 (fVar 2) (fC (.int 2)) ixA)), ((fC (.str "d")), (bind2 (fVar 2) (fC (.int 3)) ixA))] [some (.ref p), some (.lst (tables.map .str)), some (.str t)] s = some (nmap t, s) := by
  simp only [tables, List.mem_cons, List.not_mem_nil, or_false] at h
  rcases h with rfl | rfl | rfl | rfl | rfl <;> rfl
theorem names_sp (D : Dip dp Sp) {p : Addr} {n : Nat} {s : Sto} (h : Sp p n s) (hn : n < 1000000) : ∃ t s', (V_law_names_k16 dp) [.ref p] s = some (nmap t, s') ∧ t ∈ tables ∧ Sp p (n + 1) s' := by
  obtain ⟨d, s', e, hd, h'⟩ := pick_sp D (ds := tables.map .str) h hn (by decide) (by decide)
  obtain ⟨t, ht, rfl⟩ := List.mem_map.mp hd
  refine ⟨t, s', fn_rt ?_, ht, h'⟩
  refine (seq_nx (set_ev (d := .lst (tables.map .str)) rfl)).trans ?_
  refine (seq_nx (set_ev (call_ev (aCons_ev (v0 rfl) (aCons_ev (v0 rfl) a0)) e))).trans ?_
  exact ret_ev (names_row p s' t ht)
end DL
namespace DL
open PySem PySem.Spec PyProof.Rows L2
/-! ### rules -/
inductive Ru where
  | drop (n : Nat) (l : Bool) | half (l : Bool) | empty | lower (l : Bool) | put (c : Nat) (w : List Nat) (l : Bool)
def wd (w : List Nat) : Dt := .str ⟨w.toArray⟩
def sideD (l : Bool) : Dt := .str (if l then "left" else "right")
def Ru.d : Ru → Dt
  | .drop n l => .tup [.str "drop", .int n, sideD l]
  | .half l => .tup [.str "half", sideD l]
  | .empty => .tup [.str "empty"]
  | .lower l => .tup [.str "lower", sideD l]
  | .put c w l => .tup [.str "put", wd [c], wd w, sideD l]
def letT (t : Str) (c : Nat) : Nat := t.cps.toList.getD (c - 97) 0
def ruOf (t g : Str) : Ru :=
  let l := g.cps.toList.getLast? == some 108
  match g.cps.toList with
  | 100 :: n :: _ => .drop (n - 48) l
  | 112 :: c :: _ :: r => .put (letT t c) ((r.take (r.length - 2)).map (letT t)) l
  | [101] => .empty
  | 104 :: _ => .half l
  | _ => .lower l
def menuS : List Str := ["d1l", "d1r", "d2l", "d2r", "d3l", "d4r", "hl", "hr", "e", "ll", "lr", "pa:.l", "pb:.r", "pb:a.l", "pc:a.r", "pc:ab.l", "pb:aa.l", "pa:b.l", "pc:.l", "pa:bb.r", "pc:abb.l", "pb:aaa.r"]
def moreS : List Str := ["pb:.l", "pc:.r", "pa:bb.l", "d3r", "pa:.r"]
def signs : List Str := menuS ++ moreS
theorem rule_row (t g : Str) (s : Sto) (ht : t ∈ tables) (hg : g ∈ signs) : V_law_rule_k16 [.str g, nmap t] s = some ((ruOf t g).d, s) := by
  simp only [tables, List.mem_cons, List.not_mem_nil, or_false] at ht
  simp only [signs, menuS, moreS, List.cons_append, List.nil_append, List.mem_cons, List.not_mem_nil, or_false] at hg
  rcases ht with rfl | rfl | rfl | rfl | rfl <;> rcases hg with rfl | rfl | rfl | rfl | rfl | rfl | rfl | rfl | rfl | rfl | rfl | rfl | rfl | rfl | rfl | rfl | rfl | rfl | rfl | rfl | rfl | rfl | rfl | rfl | rfl | rfl | rfl <;> first | rfl | with_unfolding_all rfl
end DL
namespace DL
open PySem PySem.Spec PyProof.Rows L2
def firsts7 : List Str := ["a b>a c", "a b", "a b>a", "a b>a c>ab", "a b c", "a", "a b>a c>b d>a"]
def firsts : List Str := ["a b>a c", "a b", "a b>a", "a b>a c>ab", "a b c", "a", "a b>a c>b d>a", "", "a b c d", "a b>a c>b"]
def condT : Ft := (orT (asB (bind2 (bind2 (fVar 5) (fC (.int 0)) ixA) (fC (.str "p")) neG)) (asB (bind2 (lcF (seqF (bind2 (bind2 (fVar 5) (fC (.int 1)) ixA) (bindS (fVar 5) (oSome (fC (.int 3))) (oSome (bind1 (fC (.int 2)) negG)) sliceG) addAll)) (tgN 6) (asB (bind2 (fVar 6) (fVar 2) notinA)) (fVar 6) [6]) (bindA aNil lstG) eqG)))
/-- a rule speaks of letters of the book alone -/
def fitG (f g : Str) : Bool := match g.cps.toList with
  | 112 :: c :: _ :: r => (c :: r.take (r.length - 2)).all fun x => f.cps.toList.contains x
  | _ => true
theorem cond_row (f g : Str) (hf : f ∈ firsts7) (hg : g ∈ menuS) (p : Addr) (M G : Dt) (x : Option Dt) (s : Sto) : ∃ b, condT [some (.ref p), some M, some (.str f), some G, x, some (.str g), none] s = some (b, s) ∧ (b = true → fitG f g = true) := by
  simp only [firsts7, List.mem_cons, List.not_mem_nil, or_false] at hf
  simp only [menuS, List.mem_cons, List.not_mem_nil, or_false] at hg
  rcases hg with rfl | rfl | rfl | rfl | rfl | rfl | rfl | rfl | rfl | rfl | rfl | rfl | rfl | rfl | rfl | rfl | rfl | rfl | rfl | rfl | rfl | rfl <;> first | exact ⟨true, rfl, fun _ => rfl⟩ | (rcases hf with rfl | rfl | rfl | rfl | rfl | rfl | rfl <;> first | exact ⟨true, rfl, fun _ => rfl⟩ | exact ⟨false, rfl, fun h => by cases h⟩ | exact ⟨true, by with_unfolding_all rfl, fun _ => rfl⟩ | exact ⟨false, by with_unfolding_all rfl, fun h => by cases h⟩)
end DL
namespace DL
open PySem PySem.Spec PyProof.Rows L2
variable {dp : Fn} {Sp : Addr → Nat → Sto → Prop}
def mk (f : Str) (gs : List Str) : Str := f ++ ";" ++ Txt.join " " gs
theorem strsOf_map : ∀ l : List Str, strsOf (l.map .str) = some l
  | [] => rfl
  | x :: l => by
    show (strsOf (l.map .str)).map (x :: ·) = _
    rw [strsOf_map l]
    rfl
theorem joinS_le (y : Str) : ∀ ts : List Str, (Str.join y ts).length ≤ (ts.map (·.length)).sum + ts.length * y.length
  | [] => by
    show (0 : Nat) ≤ _
    omega
  | [x] => by
    show x.length ≤ _
    simp
  | x :: z :: r => by
    have ih := joinS_le y (z :: r)
    show (x ++ y ++ Str.join y (z :: r)).length ≤ _
    rw [app_len, app_len, List.map_cons, List.sum_cons, List.length_cons, Nat.add_mul]
    omega
theorem sum_le {l : List Str} {k : Nat} (h : ∀ x ∈ l, x.length ≤ k) : (l.map (·.length)).sum ≤ l.length * k := by
  induction l with
  | nil => exact Nat.zero_le _
  | cons x l ih =>
    have h1 := h x List.mem_cons_self
    have h2 := ih fun y hy => h y (List.mem_cons_of_mem _ hy)
    rw [List.map_cons, List.sum_cons, List.length_cons, Nat.add_mul]
    omega
theorem signs_len {g : Str} (h : g ∈ signs) : g.length ≤ 8 := by
  have z : ∀ g ∈ signs, g.length ≤ 8 := by decide +kernel
  exact z g h
theorem firsts_len {g : Str} (h : g ∈ firsts) : g.length ≤ 15 := by
  have z : ∀ g ∈ firsts, g.length ≤ 15 := by decide +kernel
  exact z g h
theorem firsts_of7 {f : Str} (h : f ∈ firsts7) : f ∈ firsts := by
  have z : ∀ f ∈ firsts7, f ∈ firsts := by decide +kernel
  exact z f h
def I5 (Sp : Addr → Nat → Sto → Prop) (p : Addr) (n : Nat) (f : Str) (r : List Dt) (env : Env) (s : Sto) : Prop := ∃ (gs : List Str) (x4 x5 : Option Dt), env = [some (.ref p), some (.lst (menuS.map .str)), some (.str f), some (.lst (gs.map .str)), x4, x5, none] ∧ (∀ g ∈ gs, g ∈ menuS ∧ fitG f g = true) ∧ gs.length + r.length ≤ 6 ∧ Sp p (n + (6 - r.length)) s
theorem drawn_step (D : Dip dp Sp) {p : Addr} {n : Nat} {f : Str} (hf : f ∈ firsts7) (hn : n < 900000) (d : Dt) (r : List Dt) (env : Env) (s : Sto) (h : I5 Sp p n f (d :: r) env s) :
    ∃ e1 e2 s2, tgN 4 env d = some e1 ∧ (seqS (setS 5 (callF (V_law_pick_k01 dp) (aCons (fVar 0) (aCons (fVar 1) aNil)))) (ifS condT (appS 3 (fVar 5)) skipS)) e1 s = some (.nx e2, s2) ∧ I5 Sp p n f r e2 s2 := by
  obtain ⟨gs, x4, x5, rfl, h1, h2, h3⟩ := h
  rw [List.length_cons] at h2 h3
  obtain ⟨g', s', e, hg0, h4⟩ := pick_sp D (ds := menuS.map .str) h3 (by omega) (by decide) (by decide)
  obtain ⟨g, hg, rfl⟩ := List.mem_map.mp hg0
  have row : ∀ B, seqS (setS 5 (callF (V_law_pick_k01 dp) (aCons (fVar 0) (aCons (fVar 1) aNil)))) B [some (.ref p), some (.lst (menuS.map .str)), some (.str f), some (.lst (gs.map .str)), some d, x5, none] s = B [some (.ref p), some (.lst (menuS.map .str)), some (.str f), some (.lst (gs.map .str)), some d, some (.str g), none] s' := fun B =>
    seq_nx (set_ev (call_ev (aCons_ev (v0 rfl) (aCons_ev (v0 rfl) a0)) e))
  obtain ⟨b, hb, hfit⟩ := cond_row f g hf hg p (.lst (menuS.map .str)) (.lst (gs.map .str)) (some d) s'
  have h5 : Sp p (n + (6 - r.length)) s' := D.mono h4 (by omega)
  cases b with
  | true =>
    refine ⟨_, [some (.ref p), some (.lst (menuS.map .str)), some (.str f), some (.lst ((gs ++ [g]).map .str)), some d, some (.str g), none], s', rfl, (row _).trans ((if_t hb).trans ?_), gs ++ [g], some d, some (.str g), rfl, fun a ha => ?_, by rw [List.length_append]; show gs.length + 1 + r.length ≤ 6; omega, h5⟩
    · unfold appS
      rw [v0 (d := .str g) rfl]
      show (if (gs.map Dt.str).length < sizeLine then _ else none) = _
      rw [if_pos (small' (by rw [List.length_map]; omega)), List.map_append]
      rfl
    · rcases List.mem_append.mp ha with z | z
      · exact h1 a z
      · rw [List.mem_singleton.mp z]; exact ⟨hg, hfit rfl⟩
  | false =>
    exact ⟨_, _, s', rfl, (row _).trans ((if_f hb).trans rfl), gs, some d, some (.str g), rfl, h1, by omega, h5⟩
theorem drawn_sp (D : Dip dp Sp) {p : Addr} {n : Nat} {s : Sto} (h : Sp p n s) (hn : n < 800000) : ∃ f gs s', (V_law_drawn_k16 dp) [.ref p, .lst (menuS.map .str)] s = some (.str (mk f gs), s') ∧ f ∈ firsts7 ∧ (∀ g ∈ gs, g ∈ menuS ∧ fitG f g = true) ∧ gs.length ≤ 6 ∧ Sp p (n + 9) s' := by
  obtain ⟨f', s1, e1, hf0, h1⟩ := pick_sp D (ds := firsts7.map .str) h (by omega) (by decide) (by decide)
  obtain ⟨f, hf, rfl⟩ := List.mem_map.mp hf0
  obtain ⟨m', s2, e2, hm0, h2⟩ := pick_sp D (ds := [3, 4, 6].map Dt.int) h1 (by omega) (by decide) (by decide)
  obtain ⟨m, hm, rfl⟩ := List.mem_map.mp hm0
  have hm6 : 0 < m ∧ m ≤ 6 := by
    simp only [List.mem_cons, List.not_mem_nil, or_false] at hm
    rcases hm with rfl | rfl | rfl <;> decide
  obtain ⟨r, s3, e3, r1, r2, h3⟩ := D.draw (m := m) h2 (by omega) hm6.1 (by omega)
  let ds : List Dt := (List.range (1 + r).toNat).map fun i => .int (0 + (i : Nat))
  have hdl : ds.length ≤ 6 := by
    show ((List.range (1 + r).toNat).map _).length ≤ 6
    rw [List.length_map, List.length_range]; omega
  obtain ⟨env', s4, hl, gs, x4, x5, rfl, g1, g2, g3⟩ := loop_ind (st := tgN 4) (F := seqS (setS 5 (callF (V_law_pick_k01 dp) (aCons (fVar 0) (aCons (fVar 1) aNil)))) (ifS condT (appS 3 (fVar 5)) skipS)) (I5 Sp p (n + 3) f) (fun d r env s h => drawn_step D hf (by omega) d r env s h) ds
    [some (.ref p), some (.lst (menuS.map .str)), some (.str f), some (.lst (([] : List Str).map .str)), none, none, none] s3 ⟨[], none, none, rfl, fun g hg => absurd hg List.not_mem_nil, by show 0 + ds.length ≤ 6; omega, D.mono h3 (by omega)⟩
  rw [List.length_nil] at g2 g3
  refine ⟨f, gs, s4, fn_rt ?_, hf, g1, by omega, D.mono g3 (by omega)⟩
  have row1 : ∀ B, seqS (setS 2 (callF (V_law_pick_k01 dp) (aCons (fVar 0) (aCons (bindA (aCons (fC (.str "a b>a c")) (aCons (fC (.str "a b")) (aCons (fC (.str "a b>a")) (aCons (fC (.str "a b>a c>ab")) (aCons (fC (.str "a b c")) (aCons (fC (.str "a")) (aCons (fC (.str "a b>a c>b d>a")) aNil))))))) lstG) aNil)))) (seqS (setNS 3 (bindA aNil lstG)) B) [some (.ref p), some (.lst (menuS.map .str)), none, none, none, none, none] s
      = B [some (.ref p), some (.lst (menuS.map .str)), some (.str f), some (.lst (([] : List Str).map .str)), none, none, none] s1 := fun B =>
    (seq_nx (set_ev (call_ev (aCons_ev (v0 rfl) (aCons_ev (x := .lst (firsts7.map .str)) rfl a0)) e1))).trans (seq_nx (setN_ev (show 3 < 7 by decide) (d := .lst []) rfl))
  have row2 : (rngF1 (bind2 (fC (.int 1)) (callF dp (aCons (fVar 0) (aCons (callF (V_law_pick_k01 dp) (aCons (fVar 0) (aCons (bindA (aCons (fC (.int 3)) (aCons (fC (.int 4)) (aCons (fC (.int 6)) aNil))) lstG) aNil))) aNil))) addAll)) [some (.ref p), some (.lst (menuS.map .str)), some (.str f), some (.lst (([] : List Str).map .str)), none, none, none] s1 = some (ds, s3) := by
    unfold rngF1
    rw [bind2_ev (z := .int (1 + r)) c0 (call_ev (aCons_ev (v0 rfl) (aCons_ev (call_ev (aCons_ev (v0 rfl) (aCons_ev (x := .lst ([3, 4, 6].map Dt.int)) rfl a0)) e2) a0)) e3) rfl]
    dsimp only
    rw [if_pos (by omega)]
  refine (row1 _).trans ((seq_nx (e' := [some (.ref p), some (.lst (menuS.map .str)), some (.str f), some (.lst (gs.map .str)), x4, x5, none]) (s' := s4) ?_).trans ?_)
  · unfold forF
    rw [row2]
    exact hl
  · have ej : bind2 (toStrOnly (fC (.str " "))) (fVar 3) joinG [some (.ref p), some (.lst (menuS.map .str)), some (.str f), some (.lst (gs.map .str)), x4, x5, none] s4 = some (.str (Txt.join " " gs), s4) := by
      refine bind2_ev (x := .str " ") rfl (v0 rfl) ?_
      unfold joinG
      dsimp only
      rw [strsOf_map]
      dsimp only
      rw [if_pos]
      have h1 := sum_le (l := gs) (k := 8) fun g hg => signs_len (List.mem_append_left _ (g1 g hg).1)
      have h2 : (" " : Str).length = 1 := rfl
      rw [h2]; omega
    have hjl : (Txt.join " " gs).length ≤ 60 := by
      rw [TL.join_eq]
      have h0 := joinS_le " " gs
      have h1 := sum_le (l := gs) (k := 8) fun g hg => signs_len (List.mem_append_left _ (g1 g hg).1)
      have h2 : (" " : Str).length = 1 := rfl
      rw [h2] at h0; omega
    have hfl : f.length ≤ 15 := firsts_len (firsts_of7 hf)
    have h2 : (";" : Str).length = 1 := rfl
    refine ret_ev (bind2_ev (x := .str (f ++ ";")) (bind2_ev (x := .str f) (v0 rfl) c0 (if_pos (small (by rw [h2]; omega)))) ej (if_pos (small ?_)))
    rw [app_len, h2]; omega
end DL
namespace DL
open PySem PySem.Spec PyProof.Rows L2
def words (l : List Nat) : List (List Nat) := if l = [] then [] else l.foldr (fun c acc => if c = 32 then [] :: acc else match acc with | [] => [[c]] | w :: r => (c :: w) :: r) [[]]
def insN (x : Nat) : List Nat → List Nat
  | [] => [x]
  | y :: r => if x ≤ y then x :: y :: r else y :: insN x r
def sortN (l : List Nat) : List Nat := l.foldr insN []
def insE (x : Nat × List Nat) : List (Nat × List Nat) → List (Nat × List Nat)
  | [] => [x]
  | y :: r => if x.1 ≤ y.1 then x :: y :: r else y :: insE x r
def entN (t f : Str) : List (Nat × List Nat) := ((words f.cps.toList).map fun w => (letT t (w.getD 0 0), sortN ((w.drop 2).map (letT t)))).foldr insE []
def entD (t f : Str) : List Dt := (entN t f).map fun e => .tup [wd [e.1], .tup (e.2.map fun c => wd [c])]
def rowsS : Fs := (forF (seqF (ifV (asB (bind2 (fVar 2) (fC (.str "")) neG)) (bind2 (toStrOnly (fVar 2)) (fC (.str " ")) splitG) (bindA aNil lstG))) (tgN 5) (appS 4 (bindA (aCons (bind2 (fVar 1) (bind2 (fVar 5) (fC (.int 0)) ixA) ixA) (aCons (bindA (aCons (bindA (aCons (lcF (seqF (bindS (fVar 5) (oSome (fC (.int 2))) oNone sliceG)) (tgN 6) yesT (bind2 (fVar 1) (fVar 6) ixA) [6]) aNil) sortedG_) aNil) toTupG) aNil)) tupG)))
def strW (l : List Nat) : Str := ⟨l.toArray⟩
theorem split_first (f : Str) (h : f ∈ firsts) : f ≠ "" → Txt.split f " " = (words f.cps.toList).map strW := by
  have key : ∀ f ∈ firsts, f ≠ "" → f = Txt.join " " ((words f.cps.toList).map strW) ∧ (words f.cps.toList).map strW ≠ [] ∧ ∀ p ∈ (words f.cps.toList).map strW, 32 ∉ TL.tl p := by decide +kernel
  intro h0
  obtain ⟨h1, h2, h3⟩ := key f h h0
  have z := TL.split_join (y := " ") (s := 32) (S := []) (by decide +kernel) (by decide +kernel) h2 h3
  rw [← h1] at z
  exact z
end DL
namespace DL
open PySem PySem.Spec PyProof.Rows L2
def bodyR : Fs := (appS 4 (bindA (aCons (bind2 (fVar 1) (bind2 (fVar 5) (fC (.int 0)) ixA) ixA) (aCons (bindA (aCons (bindA (aCons (lcF (seqF (bindS (fVar 5) (oSome (fC (.int 2))) oNone sliceG)) (tgN 6) yesT (bind2 (fVar 1) (fVar 6) ixA) [6]) aNil) sortedG_) aNil) toTupG) aNil)) tupG))
theorem body_rows (t f : Str) (x J : Str) (s : Sto) (ht : t ∈ tables) (hf : f ∈ firsts) : ∃ env', loopF (tgN 5) bodyR (((words f.cps.toList).map strW).map Dt.str) [some (.str x), some (nmap t), some (.str f), some (.str J), some (.lst []), none, none, none] s = some (.nx env', s) ∧ env'.length = 8 ∧ env'[1]? = some (some (nmap t)) ∧ env'[3]? = some (some (.str J)) ∧ (bindA (aCons (bindA (aCons (fVar 4) aNil) sortedG_) aNil) toTupG) env' s = some (.tup (entD t f), s) := by
  simp only [tables, List.mem_cons, List.not_mem_nil, or_false] at ht
  simp only [firsts, List.mem_cons, List.not_mem_nil, or_false] at hf
  rcases ht with rfl | rfl | rfl | rfl | rfl <;> rcases hf with rfl | rfl | rfl | rfl | rfl | rfl | rfl | rfl | rfl | rfl <;> exact ⟨_, rfl, rfl, rfl, rfl, by with_unfolding_all rfl⟩
theorem iter_rows (f : Str) (x M J : Dt) (s : Sto) (hf : f ∈ firsts) : (seqF (ifV (asB (bind2 (fVar 2) (fC (.str "")) neG)) (bind2 (toStrOnly (fVar 2)) (fC (.str " ")) splitG) (bindA aNil lstG))) [some x, some M, some (.str f), some J, some (.lst []), none, none, none] s = some (((words f.cps.toList).map strW).map Dt.str, s) := by
  have hl := firsts_len hf
  have h0 := split_first f hf
  unfold seqF
  by_cases e : f = ""
  · subst e
    rw [ifV_f (s' := s) (asB_ev (bind2_ev (v0 rfl) c0 (z := .bl false) (by rfl)))]
    rfl
  · have hne : neG s (.str f) (.str "") = some (.bl true) := by
      show some (Dt.bl (!decide (f = ""))) = _
      rw [decide_eq_false e]
      rfl
    rw [ifV_t (s' := s) (asB_ev (bind2_ev (v0 rfl) c0 hne))]
    have hs : splitG s (.str f) (.str " ") = some (.lst ((Txt.split f " ").map .str)) := if_pos ⟨by decide +kernel, small (by omega)⟩
    rw [bind2_ev (x := .str f) (by rfl) c0 hs, h0 e]
    rfl
end DL
namespace DL
open PySem PySem.Spec PyProof.Rows L2
theorem joinL_mem {y : List Nat} {c : Nat} : ∀ {ps : List (List Nat)}, c ∈ TL.joinL y ps → c ∈ y ∨ ∃ q ∈ ps, c ∈ q
  | [], h => absurd h List.not_mem_nil
  | [x], h => .inr ⟨x, List.mem_cons_self, h⟩
  | x :: z :: r, h => by
    have h' : c ∈ x ++ (y ++ TL.joinL y (z :: r)) := h
    rcases List.mem_append.mp h' with h1 | h1
    · exact .inr ⟨x, List.mem_cons_self, h1⟩
    · rcases List.mem_append.mp h1 with h2 | h2
      · exact .inl h2
      · rcases joinL_mem h2 with h3 | ⟨q, hq, h3⟩
        · exact .inl h3
        · exact .inr ⟨q, List.mem_cons_of_mem _ hq, h3⟩
theorem sign_ch {g : Str} (h : g ∈ signs) : 32 ∉ TL.tl g ∧ 59 ∉ TL.tl g ∧ g ≠ "" := by
  have z : ∀ g ∈ signs, 32 ∉ TL.tl g ∧ 59 ∉ TL.tl g ∧ g ≠ "" := by decide +kernel
  exact z g h
theorem first_ch {g : Str} (h : g ∈ firsts) : 59 ∉ TL.tl g := by
  have z : ∀ g ∈ firsts, 59 ∉ TL.tl g := by decide +kernel
  exact z g h
theorem mk_join (f : Str) (gs : List Str) : mk f gs = Txt.join ";" [f, Txt.join " " gs] := by
  rw [TL.join_eq]
  rfl
theorem split_mk {f : Str} {gs : List Str} (hf : f ∈ firsts) (hg : ∀ g ∈ gs, g ∈ signs) : Txt.split (mk f gs) ";" = [f, Txt.join " " gs] := by
  rw [mk_join]
  refine TL.split_join (y := ";") (s := 59) (S := []) (by decide +kernel) (by decide +kernel) (by simp) fun q hq => ?_
  simp only [List.mem_cons, List.not_mem_nil, or_false] at hq
  rcases hq with rfl | rfl
  · exact first_ch hf
  · rw [TL.join_eq, TL.tl_join]
    intro hc
    rcases joinL_mem hc with h | ⟨q, hq, h⟩
    · exact absurd h (by decide +kernel)
    · obtain ⟨g, hg', rfl⟩ := List.mem_map.mp hq
      exact (sign_ch (hg g hg')).2.1 h
theorem split_signs {gs : List Str} (h0 : gs ≠ []) (hg : ∀ g ∈ gs, g ∈ signs) : Txt.split (Txt.join " " gs) " " = gs :=
  TL.split_join (y := " ") (s := 32) (S := []) (by decide +kernel) (by decide +kernel) h0 fun g h => (sign_ch (hg g h)).1
theorem join_ne {gs : List Str} (h0 : gs ≠ []) (hg : ∀ g ∈ gs, g ∈ signs) : Txt.join " " gs ≠ "" := fun e => by
  have z := split_signs h0 hg
  rw [e] at z
  have z2 : Txt.split "" " " = ([""] : List Str) := by decide +kernel
  rw [z2] at z
  subst z
  exact (sign_ch (hg "" List.mem_cons_self)).2.2 rfl
theorem joinJ_le {gs : List Str} (hg : ∀ g ∈ gs, g ∈ signs) (hl : gs.length ≤ 6) : (Txt.join " " gs).length ≤ 60 := by
  rw [TL.join_eq]
  have h0 := joinS_le " " gs
  have h1 := sum_le (l := gs) (k := 8) fun g h => signs_len (hg g h)
  have h2 : (" " : Str).length = 1 := rfl
  rw [h2] at h0; omega
def planD (t f : Str) (gs : List Str) : Dt := .tup [.tup (entD t f), .tup (gs.map fun g => (ruOf t g).d)]
theorem signs_row {t : Str} {gs : List Str} (ht : t ∈ tables) (hg : ∀ g ∈ gs, g ∈ signs) (hl : gs.length ≤ 6) (env : Env) (s : Sto) (h8 : env.length = 8) (h1 : env[1]? = some (some (nmap t))) (h3 : env[3]? = some (some (.str (Txt.join " " gs)))) :
    (bindA (aCons (ifV (asB (bind2 (fVar 3) (fC (.str "")) neG)) (lcF (seqF (bind2 (toStrOnly (fVar 3)) (fC (.str " ")) splitG)) (tgN 7) yesT (callF V_law_rule_k16 (aCons (fVar 7) (aCons (fVar 1) aNil))) [7]) (bindA aNil lstG)) aNil) toTupG) env s = some (.tup (gs.map fun g => (ruOf t g).d), s) := by
  by_cases h0 : gs = []
  · subst h0
    refine bindA_ev (xs := [.lst []]) (aCons_ev ((ifV_f (s' := s) (asB_ev (bind2_ev (v0 h3) c0 (z := .bl false) (by with_unfolding_all rfl)))).trans ?_) a0) rfl
    rfl
  · have hn : neG s (.str (Txt.join " " gs)) (.str "") = some (.bl true) := by
      show some (Dt.bl (!decide (Txt.join " " gs = ""))) = _
      rw [decide_eq_false (join_ne h0 hg)]
      rfl
    have hsp : splitG s (.str (Txt.join " " gs)) (.str " ") = some (.lst (gs.map .str)) := by
      have z : splitG s (.str (Txt.join " " gs)) (.str " ") = some (.lst ((Txt.split (Txt.join " " gs) " ").map .str)) := if_pos ⟨by decide +kernel, small (by have := joinJ_le hg hl; omega)⟩
      rw [z, split_signs h0 hg]
    have hst : toStrOnly (fVar 3) env s = some (.str (Txt.join " " gs), s) := by
      unfold toStrOnly
      rw [v0 h3]
    have hit : seqF (bind2 (toStrOnly (fVar 3)) (fC (.str " ")) splitG) env s = some (gs.map .str, s) := by
      unfold seqF
      rw [bind2_ev hst c0 hsp]
      rfl
    refine bindA_ev (aCons_ev ((ifV_t (s' := s) (asB_ev (bind2_ev (v0 h3) c0 hn))).trans (lc_map (g := fun d => match d with | .str g => (ruOf t g).d | _ => .non) hit (small (by rw [List.length_map]; omega)) fun d hd => ?_)) a0) ?_
    · obtain ⟨g, hg', rfl⟩ := List.mem_map.mp hd
      refine call_ev (aCons_ev (v0 (d := .str g) ?_) (aCons_ev (v0 (d := nmap t) ?_) a0)) (rule_row t g s ht (hg g hg'))
      · exact List.getElem?_set_self (by show 7 < ((env.set 7 none)).length; rw [List.length_set]; omega)
      · rw [List.getElem?_set_ne (by decide)]
        show (env.set 7 none)[1]? = _
        rw [List.getElem?_set_ne (by decide)]
        exact h1
    · rw [List.map_map]
      rfl
theorem read_ok {t f : Str} {gs : List Str} (ht : t ∈ tables) (hf : f ∈ firsts) (hg : ∀ g ∈ gs, g ∈ signs) (hl : gs.length ≤ 6) (s : Sto) : V_law_read_k16 [.str (mk f gs), nmap t] s = some (planD t f gs, s) := by
  obtain ⟨env', hb, h8, e1, e3, e4⟩ := body_rows t f (mk f gs) (Txt.join " " gs) s ht hf
  refine fn_rt ?_
  have hml : (mk f gs).length ≤ 80 := by
    unfold mk
    rw [app_len, app_len]
    have h1 := firsts_len hf
    have h2 := joinJ_le hg hl
    have h3 : (";" : Str).length = 1 := rfl
    omega
  have hsp : splitG s (.str (mk f gs)) (.str ";") = some (.lst [.str f, .str (Txt.join " " gs)]) := by
    have z : splitG s (.str (mk f gs)) (.str ";") = some (.lst ((Txt.split (mk f gs) ";").map .str)) := if_pos ⟨by decide +kernel, small (by omega)⟩
    rw [z, split_mk hf hg]
    rfl
  have r1 : ∀ B, seqS (unpS 2 3 (bind2 (toStrOnly (fVar 0)) (fC (.str ";")) splitG)) (seqS (setNS 4 (bindA aNil lstG)) B) [some (.str (mk f gs)), some (nmap t), none, none, none, none, none, none] s = B [some (.str (mk f gs)), some (nmap t), some (.str f), some (.str (Txt.join " " gs)), some (.lst []), none, none, none] s := fun B => by
    refine (seq_nx (e' := [some (.str (mk f gs)), some (nmap t), some (.str f), some (.str (Txt.join " " gs)), none, none, none, none]) (s' := s) ?_).trans (seq_nx (setN_ev (show 4 < 8 by decide) (d := .lst []) rfl))
    unfold unpS
    rw [bind2_ev (x := .str (mk f gs)) rfl c0 hsp]
    rfl
  refine (r1 _).trans ((seq_nx (e' := env') (s' := s) ?_).trans ?_)
  · unfold forF
    rw [iter_rows f _ _ _ s hf]
    exact hb
  · exact ret_ev (bindA_ev (aCons_ev e4 (aCons_ev (signs_row ht hg hl env' s h8 e1 e3) a0)) (if_pos (small (by show 2 ≤ 16777215; decide))))
end DL
namespace DL
open PySem PySem.Spec PyProof.Rows L2
variable {dp : Fn} {Sp : Addr → Nat → Sto → Prop}
def sceneP : List (Str × List Str) := [("a b>a c", ["d1l", "ll"]), ("a b>a c", ["d1r", "ll"]), ("a b c", ["hl", "d1l"]), ("a b>a c", ["hl", "pb:a.l"]), ("a b c", ["d1l"]), ("a b", ["e", "d1l"]), ("a b", ["d2l", "d1r"]), ("a b c", ["pa:.l", "pb:.l", "pc:.r"]), ("a b", ["pa:bb.l", "d1l"]), ("a b>a", ["lr", "d1r", "hl"]), ("a b>a c>ab", ["lr", "d1l"]), ("a b>a c", ["pc:.l", "lr", "d2l"]), ("a b c d", ["hl", "hr", "d1l"]), ("a b>a", ["pb:aa.l", "ll", "e"]), ("a", ["d3r", "hl", "d1l"]), ("", []), ("a b>a c", []), ("a b", ["pa:b.l", "pa:.r"]), ("a b>a c>b", ["hr", "lr", "d1r", "e"])]
def sceneT : List Str := ["a b>a c;d1l ll", "a b>a c;d1r ll", "a b c;hl d1l", "a b>a c;hl pb:a.l", "a b c;d1l", "a b;e d1l", "a b;d2l d1r", "a b c;pa:.l pb:.l pc:.r", "a b;pa:bb.l d1l", "a b>a;lr d1r hl", "a b>a c>ab;lr d1l", "a b>a c;pc:.l lr d2l", "a b c d;hl hr d1l", "a b>a;pb:aa.l ll e", "a;d3r hl d1l", ";", "a b>a c;", "a b;pa:b.l pa:.r", "a b>a c>b;hr lr d1r e"]
theorem scenes_mk : sceneT = sceneP.map fun p => mk p.1 p.2 := by decide +kernel
theorem scenes_in : ∀ p ∈ sceneP, p.1 ∈ firsts ∧ (∀ g ∈ p.2, g ∈ signs) ∧ p.2.length ≤ 6 ∧ (∀ g ∈ p.2, fitG p.1 g = true) := by decide +kernel
theorem scenes_ev (s : Sto) : V_law_scenes_k16 [] s = some (.lst (sceneT.map .str), s) := by rfl
theorem menu_ev (s : Sto) : V_law_menu_k16 [] s = some (.lst (menuS.map .str), s) := by rfl
theorem book_sp (D : Dip dp Sp) {p : Addr} {n : Nat} {s : Sto} {t : Str} (ht : t ∈ tables) (h : Sp p n s) (hn : n < 700000) : ∃ f gs s', (V_law_book_k16 dp) [.ref p, .lst (sceneT.map .str), .lst (menuS.map .str), nmap t] s = some (planD t f gs, s') ∧ f ∈ firsts ∧ (∀ g ∈ gs, g ∈ signs) ∧ gs.length ≤ 6 ∧ (∀ g ∈ gs, fitG f g = true) ∧ Sp p (n + 10) s' := by
  obtain ⟨r, s1, e1, r1, r2, h1⟩ := D.draw (m := 2) h (by omega) (by decide) (by decide)
  have hc : asB (bind2 (callF dp (aCons (fVar 0) (aCons (fC (.int 2)) aNil))) (fC (.int 0)) eqG) [some (.ref p), some (.lst (sceneT.map .str)), some (.lst (menuS.map .str)), some (nmap t)] s = some (decide (r = 0), s1) :=
    asB_ev (bind2_ev (call_ev (aCons_ev (v0 rfl) (aCons_ev c0 a0)) e1) c0 rfl)
  by_cases hr : r = 0
  · rw [decide_eq_true hr] at hc
    obtain ⟨f, gs, s2, e2, g1, g2, g3, h2⟩ := drawn_sp D h1 (by omega)
    have g2' : ∀ g ∈ gs, g ∈ signs := fun g hg => List.mem_append_left _ (g2 g hg).1
    exact ⟨f, gs, s2, fn_rt (ret_ev (call_ev (aCons_ev ((ifV_t hc).trans (call_ev (aCons_ev (v0 rfl) (aCons_ev (v0 rfl) a0)) e2)) (aCons_ev (v0 rfl) a0)) (read_ok ht (firsts_of7 g1) g2' g3 s2))), firsts_of7 g1, g2', g3, fun g hg => (g2 g hg).2, D.mono h2 (by omega)⟩
  · rw [decide_eq_false hr] at hc
    obtain ⟨d, s2, e2, g0, h2⟩ := pick_sp D (ds := sceneT.map .str) h1 (by omega) (by decide) (by decide)
    rw [scenes_mk, List.map_map] at g0
    obtain ⟨q, hq, rfl⟩ := List.mem_map.mp g0
    obtain ⟨g1, g2, g3, g4⟩ := scenes_in q hq
    exact ⟨q.1, q.2, s2, fn_rt (ret_ev (call_ev (aCons_ev ((ifV_f hc).trans (call_ev (aCons_ev (v0 rfl) (aCons_ev (v0 rfl) a0)) e2)) (aCons_ev (v0 rfl) a0)) (read_ok ht g1 g2 g3 s2))), g1, g2, g3, g4, D.mono h2 (by omega)⟩
/-! ### a word -/
theorem lcL_ex {te : Fe} {w : Env} {k : Nat} {I : Nat → Sto → Prop} {Pd : Dt → Prop} : ∀ {ds : List Dt} {n : Nat} {s : Sto}, (∀ d m s, d ∈ ds → m < n + ds.length → I m s → ∃ y s', te (w.set k (some d)) s = some (y, s') ∧ Pd y ∧ I (m + 1) s') → I n s →
    ∃ ys s', lcL (tgN k) yesT te w ds s = some (ys, s') ∧ (∀ y ∈ ys, Pd y) ∧ ys.length = ds.length ∧ I (n + ds.length) s'
  | [], n, s, _, h => ⟨[], s, rfl, fun y hy => absurd hy List.not_mem_nil, rfl, h⟩
  | d :: ds, n, s, hs, h => by
    obtain ⟨y, s1, e1, p1, h1⟩ := hs d n s List.mem_cons_self (by rw [List.length_cons]; omega) h
    obtain ⟨ys, s2, e2, p2, l2, h2⟩ := lcL_ex (te := te) (w := w) (k := k) (ds := ds) (n := n + 1) (fun d' m s hd hm => hs d' m s (List.mem_cons_of_mem _ hd) (by rw [List.length_cons]; omega)) h1
    refine ⟨y :: ys, s2, ?_, fun z hz => ?_, by rw [List.length_cons, l2, List.length_cons], by rw [List.length_cons]; exact (show n + 1 + ds.length = n + (ds.length + 1) by omega) ▸ h2⟩
    · unfold lcL
      simp only [tgN, yesT]
      rw [e1]
      dsimp only
      rw [e2]
    · rcases List.mem_cons.mp hz with rfl | hz
      · exact p1
      · exact p2 z hz
def sgD (t f : Str) : List Dt := (entN t f).map fun e => wd [e.1]
theorem sg_ok {t f : Str} (ht : t ∈ tables) (hf : f ∈ firsts) : plain (.lst (sgD t f)) = true ∧ SeqAt.shaped (py (.lst (sgD t f))) = true ∧ (sgD t f).length ≤ 4 := by
  have z : ∀ t ∈ tables, ∀ f ∈ firsts, plain (.lst (sgD t f)) = true ∧ SeqAt.shaped (py (.lst (sgD t f))) = true ∧ (sgD t f).length ≤ 4 := by decide +kernel
  exact z t ht f hf
end DL
namespace DL
open PySem PySem.Spec PyProof.Rows L2
variable {dp : Fn} {Sp : Addr → Nat → Sto → Prop}
theorem ne_nil (s : Sto) {ds : List Dt} (h1 : plain (.lst ds) = true) (h2 : SeqAt.shaped (py (.lst ds)) = true) : neG s (.lst ds) (.lst []) = some (.bl (!ds.isEmpty)) := by
  obtain ⟨h3, h4⟩ := shaped_ints []
  unfold neG eqG
  dsimp only
  rw [if_pos ⟨h1, h3, h2, h4⟩]
  cases ds <;> rfl
theorem join0 : ∀ w : List Nat, TL.joinL [] (w.map fun c => [c]) = w
  | [] => rfl
  | [c] => rfl
  | c :: d :: r => by
    show [c] ++ ([] ++ TL.joinL [] ((d :: r).map fun c => [c])) = _
    rw [join0 (d :: r)]
    rfl
theorem join_w (w : List Nat) : Txt.join "" (w.map fun c => strW [c]) = strW w := by
  have h : TL.tl (Txt.join "" (w.map fun c => strW [c])) = w := by
    rw [TL.join_eq, TL.tl_join, List.map_map]
    exact join0 w
  have e : ∀ x : Str, x = strW (TL.tl x) := fun x => by
    obtain ⟨⟨l⟩⟩ := x
    rfl
  rw [e (Txt.join _ _), h]
theorem word_sp (D : Dip dp Sp) {M : Nat} (hM : M ≤ 20) {p : Addr} {n : Nat} {s : Sto} {t f : Str} {gs : List Str} (ht : t ∈ tables) (hf : f ∈ firsts) (h : Sp p n s) (hn : n < 700000) : ∃ w s', (V_law_word_k16 dp) [.ref p, planD t f gs, .int ((M : Nat) : Int)] s = some (.str (strW w), s') ∧ (∀ c ∈ w, c ∈ (entN t f).map (·.1)) ∧ w.length ≤ M ∧ Sp p (n + (M + 1)) s' := by
  obtain ⟨k1, k2, k3⟩ := sg_ok ht hf
  obtain ⟨r, s1, e1, r1, r2, h1⟩ := D.draw (m := (M : Int) + 1) h (by omega) (by omega) (by omega)
  have hlen : (entD t f).length = (sgD t f).length := by unfold entD sgD; rw [List.length_map, List.length_map]
  have q1 : lcF (seqF (bind2 (fVar 1) (fC (.int 0)) ixA)) (tgN 5) yesT (bind2 (fVar 5) (fC (.int 0)) ixA) [5] [some (.ref p), some (planD t f gs), some (.int ((M : Nat) : Int)), none, none, none, none] s = some (.lst (sgD t f), s) := by
    refine (lc_map (s1 := s) (ds := entD t f) (g := fun d => match d with | .tup (x :: _) => x | _ => .non) ?_ (small (by omega)) fun d hd => ?_).trans ?_
    · unfold seqF
      rw [bind2_ev (v0 (d := planD t f gs) rfl) c0 (z := .tup (entD t f)) rfl]
      rfl
    · obtain ⟨e, he, rfl⟩ := List.mem_map.mp hd
      rfl
    · unfold entD sgD
      rw [List.map_map]
      rfl
  have row : ∀ B, seqS (setS 3 (lcF (seqF (bind2 (fVar 1) (fC (.int 0)) ixA)) (tgN 5) yesT (bind2 (fVar 5) (fC (.int 0)) ixA) [5])) (seqS (setS 4 (callF dp (aCons (fVar 0) (aCons (bind2 (fVar 2) (fC (.int 1)) addAll) aNil)))) B) [some (.ref p), some (planD t f gs), some (.int ((M : Nat) : Int)), none, none, none, none] s
      = B [some (.ref p), some (planD t f gs), some (.int ((M : Nat) : Int)), some (.lst (sgD t f)), some (.int r), none, none] s1 := fun B =>
    (seq_nx (set_ev q1)).trans (seq_nx (set_ev (call_ev (aCons_ev (v0 rfl) (aCons_ev (bind2_ev (v0 rfl) c0 (z := .int ((M : Int) + 1)) rfl) a0)) e1)))
  let env : Env := [some (.ref p), some (planD t f gs), some (.int ((M : Nat) : Int)), some (.lst (sgD t f)), some (.int r), none, none]
  let m : Nat := if (sgD t f).isEmpty then 0 else r.toNat
  have hm : m ≤ M := by
    show (if (sgD t f).isEmpty then 0 else r.toNat) ≤ M
    split <;> omega
  have hit : rngF1 (ifV (asB (bind2 (fVar 3) (bindA aNil lstG) neG)) (fVar 4) (fC (.int 0))) env s1 = some ((List.range m).map fun i => .int (0 + (i : Nat)), s1) := by
    have tt : asB (bind2 (fVar 3) (bindA aNil lstG) neG) env s1 = some (!(sgD t f).isEmpty, s1) := asB_ev (bind2_ev (v0 rfl) (bindA_ev a0 (z := .lst []) (if_pos (show ([] : List Dt).length ≤ sizeLine from Nat.zero_le _))) (ne_nil s1 k1 k2))
    unfold rngF1
    show (match ifV (asB (bind2 (fVar 3) (bindA aNil lstG) neG)) (fVar 4) (fC (.int 0)) env s1 with | some (.int j, s') => if -(2 ^ 62) ≤ j ∧ j < 2 ^ 62 then some ((List.range j.toNat).map fun i => Dt.int (0 + (i : Nat)), s') else none | _ => none) = some ((List.range (if (sgD t f).isEmpty then 0 else r.toNat)).map fun i => Dt.int (0 + (i : Nat)), s1)
    cases hq : (sgD t f).isEmpty with
    | true =>
      rw [hq] at tt
      rw [ifV_f tt, c0]
      rfl
    | false =>
      rw [hq] at tt
      rw [ifV_t tt, v0 (d := .int r) rfl]
      dsimp only
      rw [if_pos (by omega)]
      rfl
  have hds : ((List.range m).map fun i => Dt.int (0 + (i : Nat))).length = m := by rw [List.length_map, List.length_range]
  obtain ⟨ys, s2, el, hy, hl, h2⟩ := lcL_ex (te := callF (V_law_pick_k01 dp) (aCons (fVar 0) (aCons (fVar 3) aNil))) (w := wipeE env [6]) (k := 6) (I := fun j s => Sp p j s) (Pd := fun y => y ∈ sgD t f) (ds := (List.range m).map fun i => Dt.int (0 + (i : Nat))) (n := n + 1) (s := s1) (fun d j s hd hj hs => by
    have hne : sgD t f ≠ [] := fun z => by
      have hm0 : m = 0 := by
        show (if (sgD t f).isEmpty then 0 else r.toNat) = 0
        rw [z]; rfl
      rw [hm0] at hd
      exact absurd hd List.not_mem_nil
    obtain ⟨y, s', e, hy, hs'⟩ := pick_sp D (ds := sgD t f) hs (by omega) hne (by omega)
    exact ⟨y, s', call_ev (aCons_ev (v0 rfl) (aCons_ev (v0 rfl) a0)) e, hy, hs'⟩) h1
  rw [hds] at hl h2
  have hw : ∀ ys : List Dt, (∀ y ∈ ys, y ∈ sgD t f) → ∃ w : List Nat, ys = (w.map fun c => strW [c]).map Dt.str ∧ ∀ c ∈ w, c ∈ (entN t f).map (·.1) := by
    intro ys
    induction ys with
    | nil => exact fun _ => ⟨[], rfl, fun c hc => absurd hc List.not_mem_nil⟩
    | cons y ys ih =>
      intro hy
      obtain ⟨w, e, hc⟩ := ih fun z hz => hy z (List.mem_cons_of_mem _ hz)
      obtain ⟨en, hen, he⟩ := List.mem_map.mp (hy y List.mem_cons_self)
      refine ⟨en.1 :: w, by rw [e, ← he]; rfl, fun c hc' => ?_⟩
      rcases List.mem_cons.mp hc' with rfl | hc'
      · exact List.mem_map.mpr ⟨en, hen, rfl⟩
      · exact hc c hc'
  obtain ⟨w, rfl, hc⟩ := hw ys hy
  have hwl : w.length = m := by rw [← hl, List.length_map, List.length_map]
  refine ⟨w, s2, fn_rt ((row _).trans (ret_ev (bind2_ev (x := .str "") (y := .lst ((w.map fun c => strW [c]).map Dt.str)) rfl ?_ ?_))), hc, by omega, D.mono h2 (by omega)⟩
  · show lcF _ _ _ _ _ env s1 = _
    unfold lcF
    rw [hit]
    dsimp only
    rw [el]
    dsimp only
    rw [if_pos (small (by omega))]
  · unfold joinG
    dsimp only
    rw [strsOf_map]
    dsimp only
    rw [join_w, if_pos]
    have h3 := sum_le (l := w.map fun c => strW [c]) (k := 1) fun x hx => by
      obtain ⟨c, _, rfl⟩ := List.mem_map.mp hx
      exact Nat.le_refl 1
    rw [List.length_map] at h3
    have h4 : ("" : Str).length = 0 := rfl
    rw [h4]
    omega
end DL
namespace DL
open PySem PySem.Spec PyProof.Rows L2
theorem strW_tl (x : Str) : x = strW (TL.tl x) := by
  obtain ⟨⟨l⟩⟩ := x
  rfl
theorem strW_len (w : List Nat) : (strW w).length = w.length := rfl
theorem strW_cat (a b : List Nat) : strW a ++ strW b = strW (a ++ b) := by
  rw [strW_tl (strW a ++ strW b), TL.tl_append]
  rfl
theorem cut_take (w : List Nat) (k : Nat) : cutS (strW w) none (some ((k : Nat) : Int)) = strW (w.take k) := by
  unfold cutS
  rw [HT.sIx_none, HT.sIx_nat, strW_len]
  show strW ((w.drop 0).take (min k w.length - 0)) = _
  rw [List.drop_zero, Nat.sub_zero]
  by_cases h : k ≤ w.length
  · rw [Nat.min_eq_left h]
  · rw [Nat.min_eq_right (by omega), List.take_of_length_le (Nat.le_refl _), List.take_of_length_le (by omega)]
theorem cut_drop (w : List Nat) (k : Nat) : cutS (strW w) (some ((k : Nat) : Int)) none = strW (w.drop k) := by
  unfold cutS
  rw [HT.sIx_none, HT.sIx_nat, strW_len]
  show strW ((w.drop (min k w.length)).take (w.length - min k w.length)) = _
  rw [List.take_of_length_le (by rw [List.length_drop]; exact Nat.le_refl _)]
  by_cases h : k ≤ w.length
  · rw [Nat.min_eq_left h]
  · rw [Nat.min_eq_right (by omega), List.drop_of_length_le (Nat.le_refl _), List.drop_of_length_le (by omega)]
section
variable {env : Env} {s : Sto} {f g : Fe} {w a b : List Nat} {k : Nat}
/-- x[:k] -/
theorem take_ev (hx : f env s = some (wd w, s)) (hk : g env s = some (.int ((k : Nat) : Int), s)) (hl : w.length ≤ 100) : bindS f oNone (oSome g) sliceG env s = some (wd (w.take k), s) := by
  unfold bindS
  rw [hx]
  simp only [Option.bind_eq_bind, Option.bind_some, oNone, oSome, hk]
  show (sliceG s (.str (strW w)) none (some ((k : Nat) : Int))).bind (fun z => some (z, s)) = _
  unfold sliceG
  dsimp only
  rw [if_pos (small (by rw [strW_len]; omega)), cut_take]
  rfl
/-- x[k:] -/
theorem drop_ev (hx : f env s = some (wd w, s)) (hk : g env s = some (.int ((k : Nat) : Int), s)) (hl : w.length ≤ 100) : bindS f (oSome g) oNone sliceG env s = some (wd (w.drop k), s) := by
  unfold bindS
  rw [hx]
  simp only [Option.bind_eq_bind, Option.bind_some, oNone, oSome, hk]
  show (sliceG s (.str (strW w)) (some ((k : Nat) : Int)) none).bind (fun z => some (z, s)) = _
  unfold sliceG
  dsimp only
  rw [if_pos (small (by rw [strW_len]; omega)), cut_drop]
  rfl
theorem cat_ev (ha : f env s = some (wd a, s)) (hb : g env s = some (wd b, s)) (hl : a.length + b.length ≤ 1000) : bind2 f g addAll env s = some (wd (a ++ b), s) := by
  refine bind2_ev ha hb ?_
  show (if (strW a).length + (strW b).length ≤ sizeLine then some (Dt.str (strW a ++ strW b)) else none) = _
  rw [if_pos (small (by rw [strW_len, strW_len]; omega)), strW_cat]
  rfl
theorem len_ev (hx : f env s = some (wd w, s)) (hl : w.length ≤ 100) : bindA (aCons f aNil) lenG env s = some (.int ((w.length : Nat) : Int), s) :=
  bindA_ev (aCons_ev hx a0) (if_pos (small (by show w.length ≤ 16777215; omega)))
theorem at_ev {c : Nat} (hx : f env s = some (wd w, s)) (hk : g env s = some (.int ((k : Nat) : Int), s)) (hl : w.length ≤ 100) (hc : w[k]? = some c) : bind2 f g ixA env s = some (wd [c], s) := by
  refine bind2_ev hx hk ?_
  show (if (strW w).length ≤ sizeLine then (atI w ((k : Nat) : Int)).map (fun c => Dt.str ⟨#[c]⟩) else none) = _
  rw [if_pos (small (by rw [strW_len]; omega)), atI_nat hc]
  rfl
end
/-! ### places -/
def pos (n : Nat) (l : Bool) : List Nat := if l then List.range n else (List.range n).reverse
def posD (n : Nat) (l : Bool) : List Dt := (pos n l).map fun k => .int ((k : Nat) : Int)
theorem rgD_range (m : Int) : rgD 0 m = (List.range m.toNat).map fun k => Dt.int ((k : Nat) : Int) := by
  unfold rgD
  rw [Int.sub_zero]
  refine List.map_congr_left fun k _ => ?_
  rw [Int.zero_add]
theorem rg_ev {f : Fe} {env : Env} {s : Sto} {m : Int} (h : f env s = some (.int m, s)) (h1 : -1000 ≤ m) (h2 : m ≤ 1000) : bind1 f rg1G env s = some (.lst ((List.range m.toNat).map fun k => .int ((k : Nat) : Int)), s) := by
  refine bind1_ev h ?_
  unfold rg1G
  dsimp only
  rw [if_pos (show rgOk 0 m = true from decide_eq_true ⟨by decide, by decide, by omega, by omega, by omega⟩), rgD_range]
theorem side_ev {env : Env} {s : Sto} {f : Fe} {l : Bool} (h : f env s = some (sideD l, s)) : asB (bind2 f (fC (.str "left")) eqG) env s = some (l, s) := by
  refine asB_ev (bind2_ev h c0 ?_)
  cases l <;> rfl
theorem pick_side {env : Env} {s : Sto} {f : Fe} {t : Ft} {n : Nat} {l : Bool} (ht : t env s = some (l, s)) (h : f env s = some (.lst ((List.range n).map fun k => .int ((k : Nat) : Int)), s)) : ifV t f (bind1 f revG) env s = some (.lst (posD n l), s) := by
  cases l with
  | true => rw [ifV_t ht, h]; rfl
  | false =>
    rw [ifV_f ht]
    refine bind1_ev h ?_
    show some (Dt.lst ((List.range n).map fun k => Dt.int ((k : Nat) : Int)).reverse) = _
    rw [← List.map_reverse]
    rfl
theorem places_ok (m : Int) (l : Bool) (s : Sto) (h1 : -1000 ≤ m) (h2 : m ≤ 1000) : Vplaces [.int m, sideD l] s = some (.lst (posD m.toNat l), s) :=
  fn_rt ((seq_nx (set_ev (rg_ev (v0 rfl) h1 h2))).trans (ret_ev (pick_side (side_ev (v0 rfl)) (v0 rfl))))
theorem pos_lt {n k : Nat} {l : Bool} (h : k ∈ pos n l) : k < n := by
  unfold pos at h
  split at h
  · exact List.mem_range.mp h
  · exact List.mem_range.mp (List.mem_reverse.mp h)
theorem pos_len (n : Nat) (l : Bool) : (pos n l).length = n := by
  unfold pos
  split
  · exact List.length_range
  · rw [List.length_reverse]; exact List.length_range
end DL
namespace DL
open PySem PySem.Spec PyProof.Rows L2
/-! ### what a rule makes of a thing -/
abbrev Ents := List (Nat × List Nat)
def entL (E : Ents) : List Dt := E.map fun e => .tup [wd [e.1], .tup (e.2.map fun c => wd [c])]
def lesN (E : Ents) (c : Nat) : List Nat := ((E.find? fun e => decide (e.1 = c)).map (·.2)).getD []
def resN (E : Ents) (w : List Nat) : Ru → List (List Nat)
  | .drop n l => (pos ((w.length : Int) - n + 1).toNat l).map fun k => w.take k ++ w.drop (k + n)
  | .half l => [if l then w.take (w.length / 2) else w.drop (w.length - w.length / 2)]
  | .empty => [[]]
  | .lower l => (pos w.length l).flatMap fun k => (lesN E (w.getD k 0)).map fun c => w.take k ++ [c] ++ w.drop (k + 1)
  | .put c v l => ((pos w.length l).filter fun k => decide (w[k]? = some c)).map fun k => w.take k ++ v ++ w.drop (k + 1)
def wsD (l : List (List Nat)) : Dt := .lst (l.map wd)
def okR : Ru → Bool
  | .drop n _ => decide (n ≤ 10)
  | .put _ v _ => decide (v.length ≤ 10)
  | _ => true
section
variable {B : Dt} {w : List Nat} {s : Sto}
theorem res_drop (n : Nat) (l : Bool) (hn : n ≤ 10) (hw : w.length ≤ 50) : Vresults_of [B, (Ru.drop n l).d, wd w] s = some (wsD ((pos ((w.length : Int) - n + 1).toNat l).map fun k => w.take k ++ w.drop (k + n)), s) := by
  refine fn_rt ?_
  have t : asB (bind2 (fVar 3) (fC (.str "drop")) eqG) [some B, some (Ru.drop n l).d, some (wd w), some (.str "drop"), none, none, none, none, none] s = some (true, s) := asB_ev (bind2_ev (v0 rfl) c0 rfl)
  refine (seq_nx (set_ev (bind2_ev (v0 rfl) c0 (z := .str "drop") rfl))).trans (seq_rt ((if_t t).trans ((seq_nx (set_ev (bind2_ev (v0 rfl) c0 (z := .int n) rfl))).trans (ret_ev ?_))))
  refine (lc_map (s1 := s) (ds := posD ((w.length : Int) - n + 1).toNat l) (g := fun d => match d with | .int k => wd (w.take k.toNat ++ w.drop (k.toNat + n)) | _ => .non) ?_ (small (by unfold posD; rw [List.length_map, pos_len]; omega)) fun d hd => ?_).trans ?_
  · unfold seqF
    rw [call_ev (aCons_ev (bind2_ev (bind2_ev (len_ev (v0 rfl) (by omega)) (v0 (d := .int n) rfl) rfl) c0 rfl) (aCons_ev (bind2_ev (v0 rfl) c0 (z := sideD l) rfl) a0)) (places_ok _ l s (by omega) (by omega))]
    rfl
  · obtain ⟨k, hk, rfl⟩ := List.mem_map.mp hd
    have hk2 := pos_lt hk
    refine cat_ev (take_ev (k := k) (v0 rfl) (v0 rfl) (by omega)) (drop_ev (k := k + n) (v0 rfl) (bind2_ev (v0 (d := .int ((k : Nat) : Int)) rfl) (v0 (d := .int n) rfl) ?_) (by omega)) ?_
    · show some (Dt.int ((k : Int) + n)) = _
      rw [Int.natCast_add]
    · rw [List.length_take, List.length_drop]; omega
  · unfold posD wsD
    rw [List.map_map, List.map_map]
    rfl
theorem res_half (l : Bool) (hw : w.length ≤ 50) : Vresults_of [B, (Ru.half l).d, wd w] s = some (wsD [if l then w.take (w.length / 2) else w.drop (w.length - w.length / 2)], s) := by
  refine fn_rt ?_
  have t1 : asB (bind2 (fVar 3) (fC (.str "drop")) eqG) [some B, some (Ru.half l).d, some (wd w), some (.str "half"), none, none, none, none, none] s = some (false, s) := asB_ev (bind2_ev (v0 rfl) c0 rfl)
  have t2 : asB (bind2 (fVar 3) (fC (.str "half")) eqG) [some B, some (Ru.half l).d, some (wd w), some (.str "half"), none, none, none, none, none] s = some (true, s) := asB_ev (bind2_ev (v0 rfl) c0 rfl)
  have hdv : divG s (.int ((w.length : Nat) : Int)) (.int 2) = some (.int ((w.length / 2 : Nat) : Int)) := by
    unfold divG
    dsimp only
    rw [if_pos ⟨by decide, by decide⟩, Int.natCast_ediv]
    rfl
  refine (seq_nx (set_ev (bind2_ev (v0 rfl) c0 (z := .str "half") rfl))).trans ((seq_nx ((if_f t1).trans rfl)).trans (seq_rt ((if_t t2).trans ((seq_nx (set_ev (bind2_ev (len_ev (v0 rfl) (by omega)) c0 hdv))).trans (ret_ev (bindA_ev (aCons_ev (x := wd (if l then w.take (w.length / 2) else w.drop (w.length - w.length / 2))) ?_ a0) (if_pos (small (by show 1 ≤ 16777215; decide)))))))))
  have t3 : asB (bind2 (bind2 (fVar 1) (fC (.int 1)) ixA) (fC (.str "left")) eqG) [some B, some (Ru.half l).d, some (wd w), some (.str "half"), none, some (.int ((w.length / 2 : Nat) : Int)), none, none, none] s = some (l, s) := side_ev (bind2_ev (v0 rfl) c0 rfl)
  cases l with
  | true => exact (ifV_t t3).trans (take_ev (v0 rfl) (v0 rfl) (by omega))
  | false =>
    refine (ifV_f t3).trans (drop_ev (k := w.length - w.length / 2) (v0 rfl) (bind2_ev (len_ev (v0 rfl) (by omega)) (v0 rfl) ?_) (by omega))
    show some (Dt.int (((w.length : Nat) : Int) - ((w.length / 2 : Nat) : Int))) = _
    rw [Int.natCast_sub (Nat.div_le_self _ _)]
theorem res_empty : Vresults_of [B, Ru.empty.d, wd w] s = some (wsD [[]], s) := by rfl
theorem res_put (c : Nat) (v : List Nat) (l : Bool) (hv : v.length ≤ 10) (hw : w.length ≤ 50) : Vresults_of [B, (Ru.put c v l).d, wd w] s = some (wsD (((pos w.length l).filter fun k => decide (w[k]? = some c)).map fun k => w.take k ++ v ++ w.drop (k + 1)), s) := by
  refine fn_rt ?_
  let env : Env := [some B, some (Ru.put c v l).d, some (wd w), some (.str "put"), none, none, none, none, none]
  have t1 : asB (bind2 (fVar 3) (fC (.str "drop")) eqG) env s = some (false, s) := asB_ev (bind2_ev (v0 rfl) c0 rfl)
  have t2 : asB (bind2 (fVar 3) (fC (.str "half")) eqG) env s = some (false, s) := asB_ev (bind2_ev (v0 rfl) c0 rfl)
  have t3 : asB (bind2 (fVar 3) (fC (.str "empty")) eqG) env s = some (false, s) := asB_ev (bind2_ev (v0 rfl) c0 rfl)
  have t4 : asB (bind2 (fVar 3) (fC (.str "lower")) eqG) env s = some (false, s) := asB_ev (bind2_ev (v0 rfl) c0 rfl)
  refine (seq_nx (set_ev (bind2_ev (v0 rfl) c0 (z := .str "put") rfl))).trans ((seq_nx ((if_f t1).trans rfl)).trans ((seq_nx ((if_f t2).trans rfl)).trans ((seq_nx ((if_f t3).trans rfl)).trans ((seq_nx ((if_f t4).trans rfl)).trans (ret_ev ?_)))))
  refine (lc_filter (s1 := s) (ds := posD w.length l) (q := fun d => match d with | .int k => decide (w[k.toNat]? = some c) | _ => false) (g := fun d => match d with | .int k => wd (w.take k.toNat ++ v ++ w.drop (k.toNat + 1)) | _ => .non) ?_ (small (by unfold posD; rw [List.length_map, pos_len]; omega)) (fun d hd => ?_) fun d hd _ => ?_).trans ?_
  · unfold seqF
    rw [call_ev (aCons_ev (len_ev (v0 rfl) (by omega)) (aCons_ev (bind2_ev (v0 rfl) c0 (z := sideD l) rfl) a0)) (places_ok _ l s (by omega) (by omega))]
    rfl
  · obtain ⟨k, hk, rfl⟩ := List.mem_map.mp hd
    have hk2 := pos_lt hk
    have hc : w[k]? = some w[k] := List.getElem?_eq_getElem hk2
    refine asB_ev (bind2_ev (at_ev (k := k) (v0 rfl) (v0 rfl) (by omega) hc) (bind2_ev (v0 rfl) c0 (z := wd [c]) rfl) ?_)
    show some (Dt.bl (decide (strW [w[k]] = strW [c]))) = some (Dt.bl (decide (w[k]? = some c)))
    rw [hc]
    have e : (strW [w[k]] = strW [c]) ↔ (some w[k] = some c) := by
      constructor
      · intro h
        have h' := congrArg TL.tl h
        have h'' : [w[k]] = [c] := h'
        rw [List.cons.inj h'' |>.1]
      · intro h
        rw [Option.some.inj h]
    rw [decide_eq_decide.mpr e]
  · obtain ⟨k, hk, rfl⟩ := List.mem_map.mp hd
    have hk2 := pos_lt hk
    refine cat_ev (cat_ev (take_ev (k := k) (v0 rfl) (v0 rfl) (by omega)) (bind2_ev (v0 rfl) c0 (z := wd v) rfl) ?_) (drop_ev (k := k + 1) (v0 rfl) (bind2_ev (v0 (d := .int ((k : Nat) : Int)) rfl) c0 ?_) (by omega)) ?_
    · rw [List.length_take]; omega
    · show some (Dt.int ((k : Int) + 1)) = _
      rw [Int.natCast_add]
      rfl
    · rw [List.length_append, List.length_take, List.length_drop]; omega
  · unfold posD wsD
    rw [List.filter_map, List.map_map, List.map_map]
    rfl
end
end DL
namespace DL
open PySem PySem.Spec PyProof.Rows L2
theorem lc2I_map {te : Fe} {e : Env} {k : Nat} {g : Dt → Dt} {s : Sto} : ∀ {ds : List Dt}, (∀ d, d ∈ ds → te (e.set k (some d)) s = some (g d, s)) → lc2I (tgN k) yesT te e ds s = some (ds.map g, s)
  | [], _ => rfl
  | d :: ds, h => by
    have ih := lc2I_map (te := te) (e := e) (k := k) (g := g) (s := s) (ds := ds) fun d' h' => h d' (List.mem_cons_of_mem _ h')
    unfold lc2I
    simp only [tgN, yesT]
    rw [h d List.mem_cons_self]
    dsimp only
    rw [ih]
    rfl
theorem lc2L_map {fi1 : Fi} {te : Fe} {w : Env} {i i1 : Nat} {vs1 : List Nat} {h : Dt → List Dt} {g : Dt → Dt → Dt} {s : Sto} : ∀ {ds : List Dt}, (∀ d, d ∈ ds → fi1 (w.set i (some d)) s = some (h d, s)) → (∀ d d1, d ∈ ds → d1 ∈ h d → te ((wipeE (w.set i (some d)) vs1).set i1 (some d1)) s = some (g d d1, s)) →
    lc2L (tgN i) fi1 (tgN i1) yesT te vs1 w ds s = some (ds.flatMap fun d => (h d).map (g d), s)
  | [], _, _ => rfl
  | d :: ds, h1, h2 => by
    have ih := lc2L_map (fi1 := fi1) (te := te) (w := w) (i := i) (i1 := i1) (vs1 := vs1) (h := h) (g := g) (s := s) (ds := ds) (fun d' h' => h1 d' (List.mem_cons_of_mem _ h')) fun d' d1 h' => h2 d' d1 (List.mem_cons_of_mem _ h')
    unfold lc2L
    simp only [tgN]
    rw [h1 d List.mem_cons_self]
    dsimp only
    rw [lc2I_map (g := g d) fun d1 hd1 => h2 d d1 List.mem_cons_self hd1]
    dsimp only
    rw [ih]
    rfl
/-! ### the lessers as a dict -/
def lesD (l : List Nat) : Dt := .tup (l.map fun c => wd [c])
def prD (e : Nat × List Nat) : Key × Dt := (.inr (strW [e.1]), lesD e.2)
theorem pairs_ent : ∀ E : Ents, pairsOfD (entL E) = some (E.map prD)
  | [] => rfl
  | e :: E => by
    show (match keyOf (wd [e.1]), pairsOfD (entL E) with | some key, some ps => some ((key, lesD e.2) :: ps) | _, _ => none) = _
    rw [pairs_ent E]
    rfl
theorem strW_inj {a b : List Nat} (h : strW a = strW b) : a = b := congrArg TL.tl h
theorem mergeD_new : ∀ {ps acc : List (Key × Dt)}, ((acc ++ ps).map (·.1)).Nodup → mergeD acc ps = acc ++ ps
  | [], acc, _ => by rw [List.append_nil]; rfl
  | p :: ps, acc, h => by
    have hn : ∀ q ∈ acc, q.1 ≠ p.1 := fun q hq e => by
      rw [List.map_append, List.nodup_append] at h
      exact h.2.2 q.1 (List.mem_map.mpr ⟨q, hq, rfl⟩) p.1 (List.mem_map.mpr ⟨p, List.mem_cons_self, rfl⟩) e
    have e : putD acc p.1 p.2 = acc ++ [p] := by
      unfold putD
      rw [if_neg]
      intro z
      rw [List.any_eq_true] at z
      obtain ⟨q, hq, z⟩ := z
      exact hn q hq (of_decide_eq_true z)
    show mergeD (putD acc p.1 p.2) ps = _
    rw [e, mergeD_new (by rw [List.append_assoc]; exact h), List.append_assoc]
    rfl
theorem keys_nodup {E : Ents} (h : (E.map (·.1)).Nodup) : ((E.map prD).map (·.1)).Nodup := by
  rw [List.map_map]
  induction E with
  | nil => exact .nil
  | cons e E ih =>
    rw [List.map_cons, List.nodup_cons] at h ⊢
    refine ⟨fun z => h.1 ?_, ih h.2⟩
    obtain ⟨q, hq, z⟩ := List.mem_map.mp z
    have z' := Sum.inr.inj z
    have z'' := strW_inj z'
    rw [← (List.cons.inj z'').1]
    exact List.mem_map.mpr ⟨q, hq, rfl⟩
theorem val_ent {c : Nat} : ∀ {E : Ents}, c ∈ E.map (·.1) → valD (E.map prD) (.inr (strW [c])) = some (lesD (lesN E c))
  | [], h => absurd h List.not_mem_nil
  | e :: E, h => by
    unfold valD lesN
    rw [List.map_cons]
    by_cases he : e.1 = c
    · rw [List.find?_cons_of_pos (by subst he; exact decide_eq_true rfl), List.find?_cons_of_pos (by exact decide_eq_true he)]
      rfl
    · have hk : ¬ decide ((prD e).1 = Sum.inr (strW [c])) = true := fun z => by
        have z' := strW_inj (Sum.inr.inj (of_decide_eq_true z))
        exact he (List.cons.inj z').1
      have q1 : List.find? (fun kv : Key × Dt => decide (kv.1 = .inr (strW [c]))) (prD e :: E.map prD) = List.find? (fun kv : Key × Dt => decide (kv.1 = .inr (strW [c]))) (E.map prD) := List.find?_cons_of_neg hk
      have q2 : List.find? (fun e : Nat × List Nat => decide (e.1 = c)) (e :: E) = List.find? (fun e : Nat × List Nat => decide (e.1 = c)) E := List.find?_cons_of_neg (fun z => he (of_decide_eq_true z))
      rw [q1, q2]
      rw [List.map_cons] at h
      rcases List.mem_cons.mp h with rfl | h
      · exact absurd rfl he
      · exact val_ent h
theorem toDct_ent (s : Sto) {E : Ents} (h : (E.map (·.1)).Nodup) : toDctG s [.tup (entL E)] = some (.dct (E.map prD)) ∧ toDctG s [.lst (entL E)] = some (.dct (E.map prD)) := by
  have z : (pairsOfD (entL E)).map (fun ps => Dt.dct (mergeD [] ps)) = some (.dct (E.map prD)) := by
    rw [pairs_ent]
    show some (Dt.dct (mergeD [] (E.map prD))) = _
    rw [mergeD_new (by rw [List.nil_append]; exact keys_nodup h), List.nil_append]
  exact ⟨z, z⟩
/-- lessers[x[k]] -/
theorem les_ev {env : Env} {s : Sto} {fd fx fk : Fe} {E : Ents} {w : List Nat} {k : Nat} (hd : fd env s = some (.dct (E.map prD), s)) (hx : fx env s = some (wd w, s)) (hk : fk env s = some (.int ((k : Nat) : Int), s)) (hl : w.length ≤ 100) (hkw : k < w.length) (hc : ∀ c ∈ w, c ∈ E.map (·.1)) :
    seqF (bind2 fd (bind2 fx fk ixA) ixA) env s = some ((lesN E (w.getD k 0)).map fun c => wd [c], s) := by
  have e : w[k]? = some w[k] := List.getElem?_eq_getElem hkw
  have e2 : w.getD k 0 = w[k] := by rw [List.getD_eq_getElem?_getD, e]; rfl
  unfold seqF
  rw [bind2_ev hd (at_ev hx hk hl e) (z := lesD (lesN E w[k])) (val_ent (hc _ (List.getElem_mem hkw))), e2]
  rfl
section
variable {w : List Nat} {s : Sto}
theorem res_lower {E : Ents} (R : Dt) (l : Bool) (hE : (E.map (·.1)).Nodup) (hl : ∀ e ∈ E, e.2.length ≤ 10) (hc : ∀ c ∈ w, c ∈ E.map (·.1)) (hw : w.length ≤ 50) :
    Vresults_of [.tup [.tup (entL E), R], (Ru.lower l).d, wd w] s = some (wsD ((pos w.length l).flatMap fun k => (lesN E (w.getD k 0)).map fun c => w.take k ++ [c] ++ w.drop (k + 1)), s) := by
  refine fn_rt ?_
  let env : Env := [some (.tup [.tup (entL E), R]), some (Ru.lower l).d, some (wd w), some (.str "lower"), none, none, none, none, none]
  have t1 : asB (bind2 (fVar 3) (fC (.str "drop")) eqG) env s = some (false, s) := asB_ev (bind2_ev (v0 rfl) c0 rfl)
  have t2 : asB (bind2 (fVar 3) (fC (.str "half")) eqG) env s = some (false, s) := asB_ev (bind2_ev (v0 rfl) c0 rfl)
  have t3 : asB (bind2 (fVar 3) (fC (.str "empty")) eqG) env s = some (false, s) := asB_ev (bind2_ev (v0 rfl) c0 rfl)
  have t4 : asB (bind2 (fVar 3) (fC (.str "lower")) eqG) env s = some (true, s) := asB_ev (bind2_ev (v0 rfl) c0 rfl)
  refine (seq_nx (set_ev (bind2_ev (v0 rfl) c0 (z := .str "lower") rfl))).trans ((seq_nx ((if_f t1).trans rfl)).trans ((seq_nx ((if_f t2).trans rfl)).trans ((seq_nx ((if_f t3).trans rfl)).trans (seq_rt ((if_t t4).trans ((seq_nx (set_ev (bindA_ev (aCons_ev (bind2_ev (v0 rfl) c0 (z := .tup (entL E)) rfl) a0) (toDct_ent s hE).1))).trans (ret_ev ?_)))))))
  have hles : ∀ k, (lesN E (w.getD k 0)).length ≤ 10 := fun k => by
    unfold lesN
    cases q : E.find? fun e => decide (e.1 = w.getD k 0) with
    | none => exact Nat.zero_le _
    | some e => exact hl e (List.mem_of_find?_eq_some q)
  have hit : seqF (callF Vplaces (aCons (bindA (aCons (fVar 2) aNil) lenG) (aCons (bind2 (fVar 1) (fC (.int 1)) ixA) aNil))) [some (.tup [.tup (entL E), R]), some (Ru.lower l).d, some (wd w), some (.str "lower"), none, none, some (.dct (E.map prD)), none, none] s = some (posD w.length l, s) := by
    unfold seqF
    rw [call_ev (aCons_ev (len_ev (v0 rfl) (by omega)) (aCons_ev (bind2_ev (v0 rfl) c0 (z := sideD l) rfl) a0)) (places_ok _ l s (by omega) (by omega))]
    rfl
  show lc2F _ _ _ _ _ _ _ _ [some (.tup [.tup (entL E), R]), some (Ru.lower l).d, some (wd w), some (.str "lower"), none, none, some (.dct (E.map prD)), none, none] s = _
  unfold lc2F
  rw [hit]
  dsimp only
  rw [lc2L_map (ds := posD w.length l) (h := fun d => match d with | .int k => (lesN E (w.getD k.toNat 0)).map (fun c => wd [c]) | _ => []) (g := fun d d1 => match d, d1 with | .int k, .str x => wd (w.take k.toNat ++ TL.tl x ++ w.drop (k.toNat + 1)) | _, _ => .non) (fun d hd => ?_) fun d d1 hd hd1 => ?_]
  · dsimp only
    have e : ((posD w.length l).flatMap fun d => (match d with | Dt.int k => (lesN E (w.getD k.toNat 0)).map (fun c => wd [c]) | _ => []).map fun (d1 : Dt) => match d, d1 with | Dt.int k, Dt.str x => wd (w.take k.toNat ++ TL.tl x ++ w.drop (k.toNat + 1)) | _, _ => Dt.non) = ((pos w.length l).flatMap fun k => (lesN E (w.getD k 0)).map fun c => w.take k ++ [c] ++ w.drop (k + 1)).map wd := by
      unfold posD
      rw [List.flatMap_map, List.map_flatMap]
      congr 1
      funext k
      rw [List.map_map]
      rw [List.map_map]
      rfl
    rw [e, if_pos]
    · rfl
    · refine small ?_
      rw [List.length_map, List.length_flatMap]
      have z : ∀ ks : List Nat, (ks.map fun k => ((lesN E (w.getD k 0)).map fun c => w.take k ++ [c] ++ w.drop (k + 1)).length).sum ≤ ks.length * 10 := fun ks => by
        induction ks with
        | nil => exact Nat.zero_le _
        | cons k ks ih =>
          rw [List.map_cons, List.sum_cons, List.length_cons, Nat.add_mul, List.length_map]
          have := hles k
          omega
      have z2 := z (pos w.length l)
      rw [pos_len] at z2
      omega
  · obtain ⟨k, hk, rfl⟩ := List.mem_map.mp hd
    exact les_ev (k := k) (v0 rfl) (v0 rfl) (v0 rfl) (by omega) (pos_lt hk) hc
  · obtain ⟨k, hk, rfl⟩ := List.mem_map.mp hd
    have hk2 := pos_lt hk
    obtain ⟨c, hcm, rfl⟩ := List.mem_map.mp hd1
    refine cat_ev (cat_ev (take_ev (k := k) (v0 rfl) (v0 rfl) (by omega)) (b := [c]) (v0 rfl) ?_) (drop_ev (k := k + 1) (v0 rfl) (bind2_ev (v0 (d := .int ((k : Nat) : Int)) rfl) c0 ?_) (by omega)) ?_
    · rw [List.length_take]; show _ + 1 ≤ _; omega
    · show some (Dt.int ((k : Int) + 1)) = _
      rw [Int.natCast_add]
      rfl
    · rw [List.length_append, List.length_take, List.length_drop]; show _ + 1 + _ ≤ _; omega
end
end DL
namespace DL
open PySem PySem.Spec PyProof.Rows L2
/-- what a plan keeps -/
structure OkE (E : Ents) : Prop where
  nd : (E.map (·.1)).Nodup
  few : ∀ e ∈ E, e.2.length ≤ 10
theorem results_ok {E : Ents} {w : List Nat} (R : Dt) (hE : OkE E) (r : Ru) (hr : okR r = true) (hc : ∀ c ∈ w, c ∈ E.map (·.1)) (hw : w.length ≤ 50) (s : Sto) : Vresults_of [.tup [.tup (entL E), R], r.d, wd w] s = some (wsD (resN E w r), s) := by
  cases r with
  | drop n l => exact res_drop n l (of_decide_eq_true hr) hw
  | half l => exact res_half l hw
  | empty => exact res_empty
  | lower l => exact res_lower R l hE.nd hE.few hc hw
  | put c v l => exact res_put c v l (of_decide_eq_true hr) hw
/-! ### the law's own results -/
theorem par2_ev {i j : Nat} {f1 f2 : Fe} {env : Env} {s s1 s2 : Sto} {x y : Dt} (hi : i < env.length) (hj : j < env.length) (h1 : f1 env s = some (x, s1)) (h2 : f2 env s1 = some (y, s2)) : par2S i j f1 f2 env s = some (.nx ((env.set i (some x)).set j (some y)), s2) := by
  unfold par2S
  rw [if_pos ⟨hi, hj⟩, h1]
  dsimp only
  rw [h2]
def envR (P R : Dt) (w : List Nat) (acc : List (List Nat)) (E : Ents) (x : Option Dt) : Env := [some P, some R, some (wd w), some (.int ((w.length : Nat) : Int)), some (wsD acc), some (.dct (E.map prD)), some (.lst ((List.range w.length).map fun k => .int ((k : Nat) : Int))), x, none]
theorem law_loop {P R : Dt} {w : List Nat} {E : Ents} {F : Nat → List (List Nat)} {body : Fs} {s : Sto} (hF : ∀ k, (F k).length ≤ 10) {l : Bool} (hw : w.length ≤ 50)
    (hb : ∀ k acc, k < w.length → acc.length ≤ 510 → body (envR P R w acc E (some (.int ((k : Nat) : Int)))) s = some (.nx (envR P R w (acc ++ F k) E (some (.int ((k : Nat) : Int)))), s)) :
    ∃ x, loopF (tgN 7) body (posD w.length l) (envR P R w [] E none) s = some (.nx (envR P R w ((pos w.length l).flatMap F) E x), s) := by
  have go : ∀ (ks : List Nat) (acc : List (List Nat)) (x : Option Dt), (∀ k ∈ ks, k < w.length) → acc.length + ks.length * 10 ≤ 510 → ∃ x', loopF (tgN 7) body (ks.map fun k => .int ((k : Nat) : Int)) (envR P R w acc E x) s = some (.nx (envR P R w (acc ++ ks.flatMap F) E x'), s) := by
    intro ks
    induction ks with
    | nil =>
      intro acc x _ _
      exact ⟨x, by rw [List.flatMap_nil, List.append_nil]; rfl⟩
    | cons k ks ih =>
      intro acc x hk hl
      rw [List.length_cons, Nat.add_mul] at hl
      have h1 := hF k
      obtain ⟨x', e⟩ := ih (acc ++ F k) (some (.int ((k : Nat) : Int))) (fun k' h => hk k' (List.mem_cons_of_mem _ h)) (by rw [List.length_append]; omega)
      refine ⟨x', ?_⟩
      rw [List.map_cons, List.flatMap_cons, ← List.append_assoc]
      unfold loopF
      simp only [tgN]
      have hb' := hb k acc (hk k List.mem_cons_self) (by omega)
      rw [show (envR P R w acc E x).set 7 (some (.int ((k : Nat) : Int))) = envR P R w acc E (some (.int ((k : Nat) : Int))) from rfl, hb']
      exact e
  obtain ⟨x, e⟩ := go (pos w.length l) [] none (fun k h => pos_lt h) (by rw [pos_len]; show 0 + _ ≤ _; omega)
  exact ⟨x, by rw [List.nil_append] at e; exact e⟩
section
variable {E : Ents} {w : List Nat} {s : Sto}
theorem lres_empty (P : Dt) (hw : w.length ≤ 50) : V_law_results_k16 [P, Ru.empty.d, wd w] s = some (wsD [[]], s) := by
  refine fn_rt ?_
  refine (seq_nx (par2_ev (show 3 < 9 by decide) (show 4 < 9 by decide) (len_ev (v0 rfl) (by omega)) (y := .lst []) rfl)).trans (seq_rt ((if_t (s' := s) (asB_ev (bind2_ev (bind2_ev (v0 rfl) c0 (z := .str "empty") rfl) c0 rfl))).trans rfl))
theorem lres_half (P : Dt) (l : Bool) (hw : w.length ≤ 50) : V_law_results_k16 [P, (Ru.half l).d, wd w] s = some (wsD [if l then w.take (w.length / 2) else w.drop (w.length - w.length / 2)], s) := by
  refine fn_rt ?_
  let env : Env := [some P, some (Ru.half l).d, some (wd w), some (.int ((w.length : Nat) : Int)), some (.lst []), none, none, none, none]
  have t1 : asB (bind2 (bind2 (fVar 1) (fC (.int 0)) ixA) (fC (.str "empty")) eqG) env s = some (false, s) := asB_ev (bind2_ev (bind2_ev (v0 rfl) c0 (z := .str "half") rfl) c0 rfl)
  have t2 : asB (bind2 (bind2 (fVar 1) (fC (.int 0)) ixA) (fC (.str "half")) eqG) env s = some (true, s) := asB_ev (bind2_ev (bind2_ev (v0 rfl) c0 (z := .str "half") rfl) c0 rfl)
  have hdv : bind2 (fVar 3) (fC (.int 2)) divG env s = some (.int ((w.length / 2 : Nat) : Int), s) := by
    refine bind2_ev (x := .int ((w.length : Nat) : Int)) (v0 rfl) c0 ?_
    unfold divG
    dsimp only
    rw [if_pos ⟨by decide, by decide⟩, Int.natCast_ediv]
    rfl
  refine (seq_nx (par2_ev (show 3 < 9 by decide) (show 4 < 9 by decide) (len_ev (v0 rfl) (by omega)) (y := .lst []) rfl)).trans ((seq_nx ((if_f t1).trans rfl)).trans (seq_rt ((if_t t2).trans (ret_ev (bindA_ev (aCons_ev (x := wd (if l then w.take (w.length / 2) else w.drop (w.length - w.length / 2))) ?_ a0) (if_pos (small (by show 1 ≤ 16777215; decide))))))))
  have t3 : asB (bind2 (bind2 (fVar 1) (fC (.int 1)) ixA) (fC (.str "left")) eqG) env s = some (l, s) := side_ev (bind2_ev (v0 rfl) c0 rfl)
  cases l with
  | true => exact (ifV_t t3).trans (take_ev (v0 rfl) hdv (by omega))
  | false =>
    refine (ifV_f t3).trans (drop_ev (k := w.length - w.length / 2) (v0 rfl) (bind2_ev (x := .int ((w.length : Nat) : Int)) (v0 rfl) hdv ?_) (by omega))
    show some (Dt.int (((w.length : Nat) : Int) - ((w.length / 2 : Nat) : Int))) = _
    rw [Int.natCast_sub (Nat.div_le_self _ _)]
theorem lres_drop (P : Dt) (n : Nat) (l : Bool) (hn : n ≤ 10) (hw : w.length ≤ 50) : V_law_results_k16 [P, (Ru.drop n l).d, wd w] s = some (wsD ((pos ((w.length : Int) - n + 1).toNat l).map fun k => w.take k ++ w.drop (k + n)), s) := by
  refine fn_rt ?_
  let env : Env := [some P, some (Ru.drop n l).d, some (wd w), some (.int ((w.length : Nat) : Int)), some (.lst []), none, none, none, none]
  have t1 : asB (bind2 (bind2 (fVar 1) (fC (.int 0)) ixA) (fC (.str "empty")) eqG) env s = some (false, s) := asB_ev (bind2_ev (bind2_ev (v0 rfl) c0 (z := .str "drop") rfl) c0 rfl)
  have t2 : asB (bind2 (bind2 (fVar 1) (fC (.int 0)) ixA) (fC (.str "half")) eqG) env s = some (false, s) := asB_ev (bind2_ev (bind2_ev (v0 rfl) c0 (z := .str "drop") rfl) c0 rfl)
  have t3 : asB (bind2 (bind2 (fVar 1) (fC (.int 0)) ixA) (fC (.str "drop")) eqG) env s = some (true, s) := asB_ev (bind2_ev (bind2_ev (v0 rfl) c0 (z := .str "drop") rfl) c0 rfl)
  have hn1 : ∀ env', env'[1]? = some (some (Ru.drop n l).d) → bind2 (fVar 1) (fC (.int 1)) ixA env' s = some (.int n, s) := fun env' h => bind2_ev (v0 h) c0 rfl
  let m : Nat := ((w.length : Int) - n + 1).toNat
  have hm : m ≤ 60 := by show ((w.length : Int) - n + 1).toNat ≤ 60; omega
  have hit : rngF1 (bind2 (bind2 (fVar 3) (bind2 (fVar 1) (fC (.int 1)) ixA) subG) (fC (.int 1)) addAll) env s = some ((List.range m).map fun i => .int (0 + (i : Nat)), s) := by
    unfold rngF1
    rw [bind2_ev (z := .int ((w.length : Int) - n + 1)) (bind2_ev (x := .int ((w.length : Nat) : Int)) (v0 rfl) (hn1 env rfl) rfl) c0 rfl]
    dsimp only
    rw [if_pos (by omega)]
  have hlc : lcF (rngF1 (bind2 (bind2 (fVar 3) (bind2 (fVar 1) (fC (.int 1)) ixA) subG) (fC (.int 1)) addAll)) (tgN 7) yesT (bind2 (bindS (fVar 2) oNone (oSome (fVar 7)) sliceG) (bindS (fVar 2) (oSome (bind2 (fVar 7) (bind2 (fVar 1) (fC (.int 1)) ixA) addAll)) oNone sliceG) addAll) [7] env s = some (wsD ((List.range m).map fun k => w.take k ++ w.drop (k + n)), s) := by
    refine (lc_map (s1 := s) (g := fun d => match d with | .int k => wd (w.take k.toNat ++ w.drop (k.toNat + n)) | _ => .non) hit (small (by rw [List.length_map, List.length_range]; omega)) fun d hd => ?_).trans ?_
    · obtain ⟨k, hk, rfl⟩ := List.mem_map.mp hd
      rw [Int.zero_add]
      refine cat_ev (take_ev (k := k) (v0 rfl) (v0 rfl) (by omega)) (drop_ev (k := k + n) (v0 rfl) (bind2_ev (v0 (d := .int ((k : Nat) : Int)) rfl) (hn1 _ rfl) ?_) (by omega)) ?_
      · show some (Dt.int ((k : Int) + n)) = _
        rw [Int.natCast_add]
      · rw [List.length_take, List.length_drop]; omega
    · unfold wsD
      rw [List.map_map, List.map_map]
      congr 3
      refine List.map_congr_left fun k _ => ?_
      show (match Dt.int (0 + (k : Int)) with | .int k => wd (w.take k.toNat ++ w.drop (k.toNat + n)) | _ => .non) = _
      rw [Int.zero_add]
      rfl
  refine (seq_nx (par2_ev (show 3 < 9 by decide) (show 4 < 9 by decide) (len_ev (v0 rfl) (by omega)) (y := .lst []) rfl)).trans ((seq_nx ((if_f t1).trans rfl)).trans ((seq_nx ((if_f t2).trans rfl)).trans (seq_rt ((if_t t3).trans ((seq_nx (setN_ev (show 4 < 9 by decide) hlc)).trans (ret_ev ?_))))))
  have t4 : asB (bind2 (bind2 (fVar 1) (fC (.int 2)) ixA) (fC (.str "left")) eqG) [some P, some (Ru.drop n l).d, some (wd w), some (.int ((w.length : Nat) : Int)), some (wsD ((List.range m).map fun k => w.take k ++ w.drop (k + n))), none, none, none, none] s = some (l, s) := side_ev (bind2_ev (v0 rfl) c0 rfl)
  cases l with
  | true => exact (ifV_t t4).trans (v0 rfl)
  | false =>
    refine (ifV_f t4).trans (bind1_ev (x := wsD ((List.range m).map fun k => w.take k ++ w.drop (k + n))) (v0 rfl) ?_)
    show some (Dt.lst (((List.range m).map fun k => w.take k ++ w.drop (k + n)).map wd).reverse) = some (wsD ((List.range m).reverse.map fun k => w.take k ++ w.drop (k + n)))
    rw [← List.map_reverse, ← List.map_reverse]
    rfl
end
end DL
namespace DL
open PySem PySem.Spec PyProof.Rows L2
theorem ext_ev {i : Nat} {f : Fe} {env : Env} {s s' : Sto} {es ds : List Dt} (h : f env s = some (.lst es, s')) (hi : env[i]? = some (some (.lst ds))) (hl : ds.length + es.length ≤ sizeLine) : extS i f env s = some (.nx (env.set i (some (.lst (ds ++ es)))), s') := by
  unfold extS lstAt
  rw [h, hi]
  dsimp only
  rw [if_pos hl]
theorem app_ev {i : Nat} {f : Fe} {env : Env} {s s' : Sto} {d : Dt} {ds : List Dt} (h : f env s = some (d, s')) (hi : env[i]? = some (some (.lst ds))) (hl : ds.length < sizeLine) : appS i f env s = some (.nx (env.set i (some (.lst (ds ++ [d])))), s') := by
  unfold appS lstAt
  rw [h, hi]
  dsimp only
  rw [if_pos hl]
def bodyL : Fs := (ifS (asB (bind2 (bind2 (fVar 1) (fC (.int 0)) ixA) (fC (.str "lower")) eqG)) (extS 4 (lcF (seqF (bind2 (fVar 5) (bind2 (fVar 2) (fVar 7) ixA) ixA)) (tgN 8) yesT (bind2 (bind2 (bindS (fVar 2) oNone (oSome (fVar 7)) sliceG) (fVar 8) addAll) (bindS (fVar 2) (oSome (bind2 (fVar 7) (fC (.int 1)) addAll)) oNone sliceG) addAll) [8])) (ifS (asB (bind2 (bind2 (fVar 2) (fVar 7) ixA) (bind2 (fVar 1) (fC (.int 1)) ixA) eqG)) (appS 4 (bind2 (bind2 (bindS (fVar 2) oNone (oSome (fVar 7)) sliceG) (bind2 (fVar 1) (fC (.int 2)) ixA) addAll) (bindS (fVar 2) (oSome (bind2 (fVar 7) (fC (.int 1)) addAll)) oNone sliceG) addAll)) skipS))
section
variable {E : Ents} {w : List Nat} {s : Sto}
theorem lres_tail (R : Dt) (r : Ru) (l : Bool) {F : Nat → List (List Nat)} (hE : OkE E) (hw : w.length ≤ 50) (hF : ∀ k, (F k).length ≤ 10)
    (h0 : ∃ x, ixA s r.d (.int 0) = some (.str x) ∧ x ≠ "empty" ∧ x ≠ "half" ∧ x ≠ "drop") (hs : ixA s r.d (.int (-1)) = some (sideD l))
    (hb : ∀ k acc, k < w.length → acc.length ≤ 510 → bodyL (envR (.tup [.tup (entL E), R]) r.d w acc E (some (.int ((k : Nat) : Int)))) s = some (.nx (envR (.tup [.tup (entL E), R]) r.d w (acc ++ F k) E (some (.int ((k : Nat) : Int)))), s)) :
    V_law_results_k16 [.tup [.tup (entL E), R], r.d, wd w] s = some (wsD ((pos w.length l).flatMap F), s) := by
  obtain ⟨x, hx, n1, n2, n3⟩ := h0
  refine fn_rt ?_
  let P : Dt := .tup [.tup (entL E), R]
  let env : Env := [some P, some r.d, some (wd w), some (.int ((w.length : Nat) : Int)), some (.lst []), none, none, none, none]
  have t : ∀ y : Str, x ≠ y → asB (bind2 (bind2 (fVar 1) (fC (.int 0)) ixA) (fC (.str y)) eqG) env s = some (false, s) := fun y hy => asB_ev (bind2_ev (bind2_ev (v0 rfl) c0 hx) c0 (by show some (Dt.bl (decide (x = y))) = _; rw [decide_eq_false hy]))
  have hd : (bindA (aCons (bindA (aCons (bind2 (fVar 0) (fC (.int 0)) ixA) aNil) toLstG) aNil) toDctG) env s = some (.dct (E.map prD), s) := bindA_ev (aCons_ev (bindA_ev (aCons_ev (bind2_ev (v0 rfl) c0 (z := .tup (entL E)) rfl) a0) (z := .lst (entL E)) rfl) a0) (toDct_ent s hE.nd).2
  have row5 : ∀ B, seqS (par2S 5 6 (bindA (aCons (bindA (aCons (bind2 (fVar 0) (fC (.int 0)) ixA) aNil) toLstG) aNil) toDctG) (bind1 (fVar 3) rg1G)) B env s = B (envR P r.d w [] E none) s := fun B =>
    seq_nx (par2_ev (show 5 < 9 by decide) (show 6 < 9 by decide) hd (rg_ev (m := ((w.length : Nat) : Int)) (v0 rfl) (by omega) (by omega)))
  have hit : seqF (ifV (asB (bind2 (bind2 (fVar 1) (bind1 (fC (.int 1)) negG) ixA) (fC (.str "left")) eqG)) (fVar 6) (bind1 (fVar 6) revG)) (envR P r.d w [] E none) s = some (posD w.length l, s) := by
    unfold seqF
    rw [pick_side (side_ev (bind2_ev (v0 rfl) (bind1_ev c0 (z := .int (-1)) rfl) hs)) (n := w.length) (v0 rfl)]
    rfl
  obtain ⟨x', hl⟩ := law_loop (P := P) (R := r.d) (E := E) (F := F) (body := bodyL) (s := s) hF (l := l) hw hb
  refine (seq_nx (par2_ev (show 3 < 9 by decide) (show 4 < 9 by decide) (len_ev (v0 rfl) (by omega)) (y := .lst []) rfl)).trans ((seq_nx ((if_f (t _ n1)).trans rfl)).trans ((seq_nx ((if_f (t _ n2)).trans rfl)).trans ((seq_nx ((if_f (t _ n3)).trans rfl)).trans ((row5 _).trans ((seq_nx (e' := envR P r.d w ((pos w.length l).flatMap F) E x') (s' := s) ?_).trans (ret_ev (v0 rfl)))))))
  unfold forF
  rw [hit]
  exact hl
theorem lres_lower (R : Dt) (l : Bool) (hE : OkE E) (hc : ∀ c ∈ w, c ∈ E.map (·.1)) (hw : w.length ≤ 50) : V_law_results_k16 [.tup [.tup (entL E), R], (Ru.lower l).d, wd w] s = some (wsD ((pos w.length l).flatMap fun k => (lesN E (w.getD k 0)).map fun c => w.take k ++ [c] ++ w.drop (k + 1)), s) := by
  have hles : ∀ k, (lesN E (w.getD k 0)).length ≤ 10 := fun k => by
    unfold lesN
    cases q : E.find? fun e => decide (e.1 = w.getD k 0) with
    | none => exact Nat.zero_le _
    | some e => exact hE.few e (List.mem_of_find?_eq_some q)
  refine lres_tail R (.lower l) l hE hw (fun k => by rw [List.length_map]; exact hles k) ⟨"lower", rfl, by decide, by decide, by decide⟩ rfl fun k acc hk ha => ?_
  let env : Env := envR (.tup [.tup (entL E), R]) (Ru.lower l).d w acc E (some (.int ((k : Nat) : Int)))
  have t : asB (bind2 (bind2 (fVar 1) (fC (.int 0)) ixA) (fC (.str "lower")) eqG) env s = some (true, s) := asB_ev (bind2_ev (bind2_ev (v0 rfl) c0 (z := .str "lower") rfl) c0 rfl)
  have hlc : lcF (seqF (bind2 (fVar 5) (bind2 (fVar 2) (fVar 7) ixA) ixA)) (tgN 8) yesT (bind2 (bind2 (bindS (fVar 2) oNone (oSome (fVar 7)) sliceG) (fVar 8) addAll) (bindS (fVar 2) (oSome (bind2 (fVar 7) (fC (.int 1)) addAll)) oNone sliceG) addAll) [8] env s = some (wsD ((lesN E (w.getD k 0)).map fun c => w.take k ++ [c] ++ w.drop (k + 1)), s) := by
    refine (lc_map (s1 := s) (g := fun d => match d with | .str x => wd (w.take k ++ TL.tl x ++ w.drop (k + 1)) | _ => .non) (les_ev (k := k) (v0 rfl) (v0 rfl) (v0 rfl) (by omega) hk hc) (small (by rw [List.length_map]; have := hles k; omega)) fun d hd => ?_).trans ?_
    · obtain ⟨c, hcm, rfl⟩ := List.mem_map.mp hd
      refine cat_ev (cat_ev (take_ev (k := k) (v0 rfl) (v0 rfl) (by omega)) (b := [c]) (v0 rfl) ?_) (drop_ev (k := k + 1) (v0 rfl) (bind2_ev (v0 (d := .int ((k : Nat) : Int)) rfl) c0 ?_) (by omega)) ?_
      · rw [List.length_take]; show _ + 1 ≤ _; omega
      · show some (Dt.int ((k : Int) + 1)) = _
        rw [Int.natCast_add]
        rfl
      · rw [List.length_append, List.length_take, List.length_drop]; show _ + 1 + _ ≤ _; omega
    · unfold wsD
      rw [List.map_map, List.map_map]
      rfl
  refine (if_t t).trans ((ext_ev (ds := acc.map wd) hlc rfl (small ?_)).trans ?_)
  · rw [List.length_map, List.length_map, List.length_map]
    have := hles k; omega
  · rw [← List.map_append]
    rfl
theorem lres_put (R : Dt) (c : Nat) (v : List Nat) (l : Bool) (hE : OkE E) (hv : v.length ≤ 10) (hw : w.length ≤ 50) : V_law_results_k16 [.tup [.tup (entL E), R], (Ru.put c v l).d, wd w] s = some (wsD (((pos w.length l).filter fun k => decide (w[k]? = some c)).map fun k => w.take k ++ v ++ w.drop (k + 1)), s) := by
  have e : ((pos w.length l).filter fun k => decide (w[k]? = some c)).map (fun k => w.take k ++ v ++ w.drop (k + 1)) = (pos w.length l).flatMap fun k => if w[k]? = some c then [w.take k ++ v ++ w.drop (k + 1)] else [] := by
    induction pos w.length l with
    | nil => rfl
    | cons k ks ih =>
      rw [List.flatMap_cons, ← ih]
      by_cases h : w[k]? = some c
      · have q : (k :: ks).filter (fun k => decide (w[k]? = some c)) = k :: ks.filter (fun k => decide (w[k]? = some c)) := List.filter_cons_of_pos (decide_eq_true h)
        rw [q, if_pos h]
        rfl
      · have q : (k :: ks).filter (fun k => decide (w[k]? = some c)) = ks.filter (fun k => decide (w[k]? = some c)) := List.filter_cons_of_neg (fun z => h (of_decide_eq_true z))
        rw [q, if_neg h]
        rfl
  rw [e]
  refine lres_tail R (.put c v l) l hE hw (fun k => by split; (exact (show 1 ≤ 10 by decide)); exact (show 0 ≤ 10 by decide)) ⟨"put", rfl, by decide, by decide, by decide⟩ rfl fun k acc hk ha => ?_
  let env : Env := envR (.tup [.tup (entL E), R]) (Ru.put c v l).d w acc E (some (.int ((k : Nat) : Int)))
  have hck : w[k]? = some w[k] := List.getElem?_eq_getElem hk
  have t : asB (bind2 (bind2 (fVar 1) (fC (.int 0)) ixA) (fC (.str "lower")) eqG) env s = some (false, s) := asB_ev (bind2_ev (bind2_ev (v0 rfl) c0 (z := .str "put") rfl) c0 rfl)
  have t2 : asB (bind2 (bind2 (fVar 2) (fVar 7) ixA) (bind2 (fVar 1) (fC (.int 1)) ixA) eqG) env s = some (decide (w[k]? = some c), s) := by
    refine asB_ev (bind2_ev (at_ev (k := k) (v0 rfl) (v0 rfl) (by omega) hck) (bind2_ev (v0 rfl) c0 (z := wd [c]) rfl) ?_)
    show some (Dt.bl (decide (strW [w[k]] = strW [c]))) = some (Dt.bl (decide (w[k]? = some c)))
    have e : (strW [w[k]] = strW [c]) ↔ (w[k]? = some c) := by
      rw [hck]
      constructor
      · intro h
        rw [(List.cons.inj (strW_inj h)).1]
      · intro h
        rw [Option.some.inj h]
    rw [decide_eq_decide.mpr e]
  by_cases h : w[k]? = some c
  · rw [decide_eq_true h] at t2
    rw [if_pos h]
    refine (if_f t).trans ((if_t t2).trans ((app_ev (s' := s) (d := wd (w.take k ++ v ++ w.drop (k + 1))) (ds := acc.map wd) ?_ rfl (small' (by rw [List.length_map]; omega))).trans ?_))
    · refine cat_ev (cat_ev (take_ev (k := k) (v0 rfl) (v0 rfl) (by omega)) (bind2_ev (v0 rfl) c0 (z := wd v) rfl) ?_) (drop_ev (k := k + 1) (v0 rfl) (bind2_ev (v0 (d := .int ((k : Nat) : Int)) rfl) c0 ?_) (by omega)) ?_
      · rw [List.length_take]; omega
      · show some (Dt.int ((k : Int) + 1)) = _
        rw [Int.natCast_add]
        rfl
      · rw [List.length_append, List.length_take, List.length_drop]; omega
    · show some (Out.nx (env.set 4 (some (.lst (acc.map wd ++ [wd (w.take k ++ v ++ w.drop (k + 1))])))), s) = _
      rw [← List.map_singleton (f := wd), ← List.map_append]
      rfl
  · rw [decide_eq_false h] at t2
    rw [if_neg h, List.append_nil]
    exact (if_f t).trans ((if_f t2).trans rfl)
theorem lresults_ok (R : Dt) (hE : OkE E) (r : Ru) (hr : okR r = true) (hc : ∀ c ∈ w, c ∈ E.map (·.1)) (hw : w.length ≤ 50) : V_law_results_k16 [.tup [.tup (entL E), R], r.d, wd w] s = some (wsD (resN E w r), s) := by
  cases r with
  | drop n l => exact lres_drop _ n l (of_decide_eq_true hr) hw
  | half l => exact lres_half _ l hw
  | empty => exact lres_empty _ hw
  | lower l => exact lres_lower R l hE hc hw
  | put c v l => exact lres_put R c v l hE (of_decide_eq_true hr) hw
end
theorem extL_ev {i : Nat} {f : Fe} {env : Env} {s s' : Sto} {es ds : List Dt} (h : f env s = some (.lst es, s')) (hi : env[i]? = some (some (.lst ds))) (hl : ds.length + es.length ≤ sizeLine) : extA i f env s = some (.nx (env.set i (some (.lst (ds ++ es)))), s') := by
  unfold extA lstAt
  rw [h, hi]
  dsimp only
  rw [if_pos hl]
theorem extT_ev {i : Nat} {f : Fe} {env : Env} {s s' : Sto} {es ds : List Dt} (h : f env s = some (.tup es, s')) (hi : env[i]? = some (some (.lst ds))) (hl : ds.length + es.length ≤ sizeLine) : extA i f env s = some (.nx (env.set i (some (.lst (ds ++ es)))), s') := by
  unfold extA lstAt
  rw [h, hi]
  dsimp only
  rw [if_pos hl]
end DL
namespace DL
open PySem PySem.Spec PyProof.Rows L2
/-- each once, without w -/
def onceN (w : List Nat) (acc l : List (List Nat)) : List (List Nat) := l.foldl (fun acc x => if x = w ∨ x ∈ acc then acc else acc ++ [x]) acc
theorem once_len (w : List Nat) : ∀ (l acc : List (List Nat)), (onceN w acc l).length ≤ acc.length + l.length
  | [], acc => Nat.le_refl _
  | x :: l, acc => by
    have h := once_len w l (if x = w ∨ x ∈ acc then acc else acc ++ [x])
    show (onceN w (if x = w ∨ x ∈ acc then acc else acc ++ [x]) l).length ≤ _
    rw [List.length_cons]
    by_cases hc : x = w ∨ x ∈ acc
    · rw [if_pos hc] at h ⊢; omega
    · rw [if_neg hc] at h ⊢
      rw [List.length_append] at h
      have : ([x] : List (List Nat)).length = 1 := rfl
      omega
theorem wd_flat (l : List (List Nat)) : (l.map wd).all flatD = true := by
  rw [List.all_eq_true]
  intro d hd
  obtain ⟨x, _, rfl⟩ := List.mem_map.mp hd
  rfl
theorem in_words (s : Sto) (x : List Nat) (acc : List (List Nat)) : inB s (wd x) (.lst (acc.map wd)) = some (decide (x ∈ acc)) := by
  have h1 := wd_flat acc
  have e : (acc.map wd).any (fun y => eqF y (wd x)) = decide (x ∈ acc) := by
    induction acc with
    | nil => rfl
    | cons y acc ih =>
      rw [List.map_cons, List.any_cons, ih (wd_flat acc)]
      have e1 : eqF (wd y) (wd x) = decide (y = x) := by
        show (strW y == strW x) = _
        by_cases h : y = x
        · rw [decide_eq_true h, h]
          exact beq_self_eq_true _
        · rw [decide_eq_false h]
          exact beq_eq_false_iff_ne.mpr fun z => h (strW_inj z)
      rw [e1]
      by_cases h : y = x
      · subst h
        rw [decide_eq_true rfl, Bool.true_or, decide_eq_true List.mem_cons_self]
      · rw [decide_eq_false h, Bool.false_or]
        by_cases h2 : x ∈ acc
        · rw [decide_eq_true h2, decide_eq_true (List.mem_cons_of_mem _ h2)]
        · rw [decide_eq_false h2, decide_eq_false fun z => (List.mem_cons.mp z).elim (fun z => h z.symm) h2]
  show (if flatD (wd x) = true ∧ (acc.map wd).all flatD = true then some ((acc.map wd).any fun y => eqF y (wd x)) else none) = _
  rw [if_pos ⟨rfl, h1⟩, e]
theorem notin_words (s : Sto) (x : List Nat) (acc : List (List Nat)) : notinA s (wd x) (.lst (acc.map wd)) = some (.bl (!decide (x ∈ acc))) := by
  show (inB s (wd x) (.lst (acc.map wd))).map (fun b => Dt.bl (!b)) = _
  rw [in_words]
  rfl
theorem ne_words (s : Sto) (x w : List Nat) : neG s (wd x) (wd w) = some (.bl (!decide (x = w))) := by
  show some (Dt.bl (!decide (strW x = strW w))) = _
  have e : (strW x = strW w) ↔ (x = w) := ⟨strW_inj, fun h => by rw [h]⟩
  rw [decide_eq_decide.mpr e]
theorem andT_ev {f g : Ft} {env : Env} {s : Sto} {a b : Bool} (hf : f env s = some (a, s)) (hg : g env s = some (b, s)) : andT f g env s = some (a && b, s) := by
  unfold andT
  rw [hf]
  cases a with
  | true => exact hg
  | false => rfl
def bodyO : Fs := (ifS (andT (asB (bind2 (fVar 3) (fVar 0) neG)) (asB (bind2 (fVar 3) (fVar 2) notinA))) (appS 2 (fVar 3)) skipS)
theorem once_loop {w : List Nat} {D : Dt} {s : Sto} : ∀ (l acc : List (List Nat)) (x : Option Dt), acc.length + l.length ≤ 100000 → ∃ x', loopF (tgN 3) bodyO (l.map wd) [some (wd w), some D, some (wsD acc), x] s = some (.nx [some (wd w), some D, some (wsD (onceN w acc l)), x'], s)
  | [], acc, x, _ => ⟨x, rfl⟩
  | y :: l, acc, x, h => by
    rw [List.length_cons] at h
    have t : (andT (asB (bind2 (fVar 3) (fVar 0) neG)) (asB (bind2 (fVar 3) (fVar 2) notinA))) [some (wd w), some D, some (wsD acc), some (wd y)] s = some (!decide (y = w) && !decide (y ∈ acc), s) :=
      andT_ev (asB_ev (bind2_ev (v0 rfl) (v0 rfl) (ne_words s y w))) (asB_ev (bind2_ev (v0 rfl) (v0 (d := wsD acc) rfl) (notin_words s y acc)))
    have e0 : onceN w acc (y :: l) = onceN w (if y = w ∨ y ∈ acc then acc else acc ++ [y]) l := rfl
    rw [e0]
    by_cases hc : y = w ∨ y ∈ acc
    · rw [if_pos hc]
      have tb : (!decide (y = w) && !decide (y ∈ acc)) = false := by
        rcases hc with hc | hc
        · rw [decide_eq_true hc]; rfl
        · rw [decide_eq_true hc, Bool.not_true, Bool.and_false]
      rw [tb] at t
      obtain ⟨x', e⟩ := once_loop (w := w) (D := D) (s := s) l acc (some (wd y)) (by omega)
      refine ⟨x', ?_⟩
      rw [List.map_cons]
      unfold loopF
      simp only [tgN]
      rw [show bodyO ([some (wd w), some D, some (wsD acc), x].set 3 (some (wd y))) s = some (.nx [some (wd w), some D, some (wsD acc), some (wd y)], s) from (if_f t).trans rfl]
      exact e
    · rw [if_neg hc]
      have tb : (!decide (y = w) && !decide (y ∈ acc)) = true := by
        rw [decide_eq_false fun z => hc (.inl z), decide_eq_false fun z => hc (.inr z)]; rfl
      rw [tb] at t
      obtain ⟨x', e⟩ := once_loop (w := w) (D := D) (s := s) l (acc ++ [y]) (some (wd y)) (by rw [List.length_append]; show _ + 1 + _ ≤ _; omega)
      refine ⟨x', ?_⟩
      rw [List.map_cons]
      unfold loopF
      simp only [tgN]
      have ap : appS 2 (fVar 3) [some (wd w), some D, some (wsD acc), some (wd y)] s = some (.nx [some (wd w), some D, some (wsD (acc ++ [y])), some (wd y)], s) := by
        refine (app_ev (s' := s) (d := wd y) (ds := acc.map wd) (v0 rfl) rfl (small' (by rw [List.length_map]; omega))).trans ?_
        rw [← List.map_singleton (f := wd), ← List.map_append]
        rfl
      rw [show bodyO ([some (wd w), some D, some (wsD acc), x].set 3 (some (wd y))) s = some (.nx [some (wd w), some D, some (wsD (acc ++ [y])), some (wd y)], s) from (if_t t).trans ap]
      exact e
theorem once_ok (w : List Nat) (l : List (List Nat)) (s : Sto) (hl : l.length ≤ 100000) : V_law_once_k16 [wd w, wsD l] s = some (wsD (onceN w [] l), s) := by
  refine fn_rt ?_
  obtain ⟨x', e⟩ := once_loop (w := w) (D := wsD l) (s := s) l [] none (by show 0 + l.length ≤ _; omega)
  refine (seq_nx (setN_ev (show 2 < 4 by decide) (d := .lst []) rfl)).trans ((seq_nx (e' := [some (wd w), some (wsD l), some (wsD (onceN w [] l)), x']) (s' := s) ?_).trans (ret_ev (v0 rfl)))
  unfold forF seqF
  rw [v0 (d := wsD l) rfl]
  exact e
/-- all that a plan's rules make -/
def everyN (E : Ents) (w : List Nat) (rs : List Ru) : List (List Nat) := rs.flatMap (resN E w)
theorem res_len {E : Ents} (hE : OkE E) (w : List Nat) (hw : w.length ≤ 50) (r : Ru) (hr : okR r = true) : (resN E w r).length ≤ 500 := by
  cases r with
  | drop n l =>
    show ((pos ((w.length : Int) - n + 1).toNat l).map _).length ≤ 500
    rw [List.length_map, pos_len]; omega
  | half l => show 1 ≤ 500; decide
  | empty => show 1 ≤ 500; decide
  | lower l =>
    show ((pos w.length l).flatMap fun k => (lesN E (w.getD k 0)).map fun c => w.take k ++ [c] ++ w.drop (k + 1)).length ≤ 500
    rw [List.length_flatMap]
    have z : ∀ ks : List Nat, (ks.map fun k => ((lesN E (w.getD k 0)).map fun c => w.take k ++ [c] ++ w.drop (k + 1)).length).sum ≤ ks.length * 10 := fun ks => by
      induction ks with
      | nil => exact Nat.zero_le _
      | cons k ks ih =>
        rw [List.map_cons, List.sum_cons, List.length_cons, Nat.add_mul, List.length_map]
        have : (lesN E (w.getD k 0)).length ≤ 10 := by
          unfold lesN
          cases q : E.find? fun e => decide (e.1 = w.getD k 0) with
          | none => exact Nat.zero_le _
          | some e => exact hE.few e (List.mem_of_find?_eq_some q)
        omega
    have z2 := z (pos w.length l)
    rw [pos_len] at z2
    omega
  | put c v l =>
    show (((pos w.length l).filter fun k => decide (w[k]? = some c)).map _).length ≤ 500
    rw [List.length_map]
    have h := List.length_filter_le (fun k => decide (w[k]? = some c)) (pos w.length l)
    rw [pos_len] at h
    omega
theorem every_len {E : Ents} (hE : OkE E) (w : List Nat) (hw : w.length ≤ 50) : ∀ rs : List Ru, (∀ r ∈ rs, okR r = true) → (everyN E w rs).length ≤ rs.length * 500
  | [], _ => Nat.zero_le _
  | r :: rs, h => by
    have h1 := res_len hE w hw r (h r List.mem_cons_self)
    have h2 := every_len hE w hw rs fun r' h' => h r' (List.mem_cons_of_mem _ h')
    unfold everyN at h2 ⊢
    rw [List.flatMap_cons, List.length_append, List.length_cons, Nat.add_mul]
    omega
theorem lsteps_ok {E : Ents} (hE : OkE E) (w : List Nat) (rs : List Ru) (hr : ∀ r ∈ rs, okR r = true) (hc : ∀ c ∈ w, c ∈ E.map (·.1)) (hw : w.length ≤ 50) (hn : rs.length ≤ 100) (s : Sto) :
    V_law_steps_k16 [.tup [.tup (entL E), .tup (rs.map Ru.d)], wd w] s = some (wsD (onceN w [] (everyN E w rs)), s) := by
  refine fn_rt ?_
  let P : Dt := .tup [.tup (entL E), .tup (rs.map Ru.d)]
  have go : ∀ (l : List Ru) (acc : List (List Nat)) (x : Option Dt), (∀ r ∈ l, okR r = true) → acc.length + l.length * 500 ≤ 50000 → ∃ x', loopF (tgN 3) (extA 2 (callF V_law_results_k16 (aCons (fVar 0) (aCons (fVar 3) (aCons (fVar 1) aNil))))) (l.map Ru.d) [some P, some (wd w), some (wsD acc), x] s = some (.nx [some P, some (wd w), some (wsD (acc ++ everyN E w l)), x'], s) := by
    intro l
    induction l with
    | nil => intro acc x _ _; exact ⟨x, by unfold everyN; rw [List.flatMap_nil, List.append_nil]; rfl⟩
    | cons r l ih =>
      intro acc x h hl
      rw [List.length_cons, Nat.add_mul] at hl
      have h1 := res_len hE w hw r (h r List.mem_cons_self)
      obtain ⟨x', e⟩ := ih (acc ++ resN E w r) (some r.d) (fun r' h' => h r' (List.mem_cons_of_mem _ h')) (by rw [List.length_append]; omega)
      refine ⟨x', ?_⟩
      have e1 : everyN E w (r :: l) = resN E w r ++ everyN E w l := rfl
      rw [e1, ← List.append_assoc, List.map_cons]
      unfold loopF
      simp only [tgN]
      have b : extA 2 (callF V_law_results_k16 (aCons (fVar 0) (aCons (fVar 3) (aCons (fVar 1) aNil)))) [some P, some (wd w), some (wsD acc), some r.d] s = some (.nx [some P, some (wd w), some (wsD (acc ++ resN E w r)), some r.d], s) := by
        refine (extL_ev (s' := s) (es := (resN E w r).map wd) (ds := acc.map wd) (call_ev (aCons_ev (v0 rfl) (aCons_ev (v0 rfl) (aCons_ev (v0 rfl) a0))) (lresults_ok _ hE r (h r List.mem_cons_self) hc hw)) rfl (small (by rw [List.length_map, List.length_map]; omega))).trans ?_
        rw [← List.map_append]
        rfl
      rw [show ([some P, some (wd w), some (wsD acc), x] : Env).set 3 (some r.d) = [some P, some (wd w), some (wsD acc), some r.d] from rfl, b]
      exact e
  obtain ⟨x', e⟩ := go rs [] none hr (by show 0 + _ ≤ _; omega)
  refine (seq_nx (setN_ev (show 2 < 4 by decide) (d := .lst []) rfl)).trans ((seq_nx (e' := [some P, some (wd w), some (wsD (everyN E w rs)), x']) (s' := s) ?_).trans (ret_ev (call_ev (aCons_ev (v0 rfl) (aCons_ev (v0 rfl) a0)) (once_ok w _ s ?_))))
  · unfold forF seqF
    rw [bind2_ev (v0 rfl) c0 (z := .tup (rs.map Ru.d)) rfl]
    exact e
  · have := every_len hE w hw rs hr
    omega
end DL
namespace DL
open PySem PySem.Spec PyProof.Rows L2
abbrev Led := List (List Nat × Nat)
def dk (q : Led) : List (Key × Dt) := q.map fun p => (.inr (strW p.1), .int ((p.2 : Nat) : Int))
theorem dk_val (x : List Nat) : ∀ q : Led, (valD (dk q) (.inr (strW x))).isSome = decide (x ∈ q.map (·.1))
  | [] => rfl
  | p :: q => by
    have ih := dk_val x q
    unfold valD at ih ⊢
    have e : dk (p :: q) = (.inr (strW p.1), .int ((p.2 : Nat) : Int)) :: dk q := rfl
    rw [e, List.map_cons]
    by_cases h : p.1 = x
    · have q1 : List.find? (fun kv : Key × Dt => decide (kv.1 = .inr (strW x))) ((.inr (strW p.1), .int ((p.2 : Nat) : Int)) :: dk q) = some (.inr (strW p.1), .int ((p.2 : Nat) : Int)) := List.find?_cons_of_pos (by rw [h]; exact decide_eq_true rfl)
      rw [q1, decide_eq_true (by rw [h]; exact List.mem_cons_self)]
      rfl
    · have q1 : List.find? (fun kv : Key × Dt => decide (kv.1 = .inr (strW x))) ((.inr (strW p.1), .int ((p.2 : Nat) : Int)) :: dk q) = List.find? (fun kv : Key × Dt => decide (kv.1 = .inr (strW x))) (dk q) := List.find?_cons_of_neg fun z => h (strW_inj (Sum.inr.inj (of_decide_eq_true z)))
      rw [q1, ih]
      by_cases h2 : x ∈ q.map (·.1)
      · rw [decide_eq_true h2, decide_eq_true (List.mem_cons_of_mem _ h2)]
      · rw [decide_eq_false h2, decide_eq_false fun z => (List.mem_cons.mp z).elim (fun z => h z.symm) h2]
theorem notin_dk (s : Sto) (x : List Nat) (q : Led) : notinA s (wd x) (.dct (dk q)) = some (.bl (!decide (x ∈ q.map (·.1)))) := by
  have e := dk_val x q
  show (some ((valD (dk q) (.inr (strW x))).isSome)).map (fun b => Dt.bl (!b)) = _
  rw [e]
  rfl
theorem put_dk (x : List Nat) (k : Nat) (q : Led) (h : x ∉ q.map (·.1)) : putD (dk q) (.inr (strW x)) (.int ((k : Nat) : Int)) = dk (q ++ [(x, k)]) := by
  unfold putD
  rw [if_neg]
  · unfold dk
    rw [List.map_append]
    rfl
  · intro z
    rw [List.any_eq_true] at z
    obtain ⟨y, hy, z⟩ := z
    obtain ⟨p, hp, rfl⟩ := List.mem_map.mp hy
    have e := strW_inj (Sum.inr.inj (of_decide_eq_true z))
    exact h (e ▸ List.mem_map.mpr ⟨p, hp, rfl⟩)
def ledN (w : List Nat) (k : Nat) (acc : Led) (l : List (List Nat)) : Led := l.foldl (fun acc x => if x = w ∨ x ∈ acc.map (·.1) then acc else acc ++ [(x, k)]) acc
theorem led_once (w : List Nat) (k : Nat) : ∀ (l : List (List Nat)) (acc : Led), (ledN w k acc l).map (·.1) = onceN w (acc.map (·.1)) l
  | [], _ => rfl
  | x :: l, acc => by
    show (ledN w k (if x = w ∨ x ∈ acc.map (·.1) then acc else acc ++ [(x, k)]) l).map (·.1) = onceN w (if x = w ∨ x ∈ acc.map (·.1) then acc.map (·.1) else acc.map (·.1) ++ [x]) l
    rw [led_once w k l]
    by_cases h : x = w ∨ x ∈ acc.map (·.1)
    · rw [if_pos h, if_pos h]
    · rw [if_neg h, if_neg h, List.map_append]
      rfl
theorem once_app (w : List Nat) (acc l m : List (List Nat)) : onceN w acc (l ++ m) = onceN w (onceN w acc l) m := List.foldl_append ..
def bodyK : Fs := (ifS (andT (asB (bind2 (fVar 6) (fVar 1) neG)) (asB (bind2 (fVar 6) (fVar 4) notinA))) (dputS 4 (fVar 6) (fVar 5)) skipS)
def envK (B : Dt) (w : List Nat) (O : Dt) (q : Led) (x y : Option Dt) : Env := [some B, some (wd w), some (.int 0), some O, some (.dct (dk q)), x, y]
theorem dput_ev {i : Nat} {fk fv : Fe} {env : Env} {s : Sto} {k v : Dt} {key : Key} {ks : List (Key × Dt)} (hv : fv env s = some (v, s)) (hk : fk env s = some (k, s)) (hi : env[i]? = some (some (.dct ks))) (hkey : keyOf k = some key) (hl : ks.length < sizeLine) : dputS i fk fv env s = some (.nx (env.set i (some (.dct (putD ks key v)))), s) := by
  unfold dputS dctAt
  rw [hv]
  dsimp only
  rw [hk, hi]
  dsimp only
  rw [hkey]
  dsimp only
  rw [if_pos hl]
theorem led_inner {B O : Dt} {w : List Nat} {k : Nat} {s : Sto} : ∀ (l : List (List Nat)) (q : Led) (y : Option Dt), q.length + l.length ≤ 100000 → ∃ y', loopF (tgN 6) bodyK (l.map wd) (envK B w O q (some (.int ((k : Nat) : Int))) y) s = some (.nx (envK B w O (ledN w k q l) (some (.int ((k : Nat) : Int))) y'), s)
  | [], q, y, _ => ⟨y, rfl⟩
  | x :: l, q, y, h => by
    rw [List.length_cons] at h
    have t : (andT (asB (bind2 (fVar 6) (fVar 1) neG)) (asB (bind2 (fVar 6) (fVar 4) notinA))) (envK B w O q (some (.int ((k : Nat) : Int))) (some (wd x))) s = some (!decide (x = w) && !decide (x ∈ q.map (·.1)), s) :=
      andT_ev (asB_ev (bind2_ev (v0 rfl) (v0 rfl) (ne_words s x w))) (asB_ev (bind2_ev (v0 rfl) (v0 rfl) (notin_dk s x q)))
    have e0 : ledN w k q (x :: l) = ledN w k (if x = w ∨ x ∈ q.map (·.1) then q else q ++ [(x, k)]) l := rfl
    rw [e0]
    by_cases hc : x = w ∨ x ∈ q.map (·.1)
    · rw [if_pos hc]
      have tb : (!decide (x = w) && !decide (x ∈ q.map (·.1))) = false := by
        rcases hc with hc | hc
        · rw [decide_eq_true hc]; rfl
        · rw [decide_eq_true hc, Bool.not_true, Bool.and_false]
      rw [tb] at t
      obtain ⟨y', e⟩ := led_inner (B := B) (O := O) (w := w) (k := k) (s := s) l q (some (wd x)) (by omega)
      refine ⟨y', ?_⟩
      rw [List.map_cons]
      unfold loopF
      simp only [tgN]
      rw [show bodyK ((envK B w O q (some (.int ((k : Nat) : Int))) y).set 6 (some (wd x))) s = some (.nx (envK B w O q (some (.int ((k : Nat) : Int))) (some (wd x))), s) from (if_f t).trans rfl]
      exact e
    · rw [if_neg hc]
      have tb : (!decide (x = w) && !decide (x ∈ q.map (·.1))) = true := by
        rw [decide_eq_false fun z => hc (.inl z), decide_eq_false fun z => hc (.inr z)]; rfl
      rw [tb] at t
      obtain ⟨y', e⟩ := led_inner (B := B) (O := O) (w := w) (k := k) (s := s) l (q ++ [(x, k)]) (some (wd x)) (by rw [List.length_append]; show _ + 1 + _ ≤ _; omega)
      refine ⟨y', ?_⟩
      rw [List.map_cons]
      unfold loopF
      simp only [tgN]
      have ap : dputS 4 (fVar 6) (fVar 5) (envK B w O q (some (.int ((k : Nat) : Int))) (some (wd x))) s = some (.nx (envK B w O (q ++ [(x, k)]) (some (.int ((k : Nat) : Int))) (some (wd x))), s) := by
        refine (dput_ev (key := .inr (strW x)) (v := .int ((k : Nat) : Int)) (k := wd x) (ks := dk q) (v0 rfl) (v0 rfl) rfl rfl (small' (by unfold dk; rw [List.length_map]; omega))).trans ?_
        rw [put_dk x k q fun z => hc (.inr z)]
        rfl
      rw [show bodyK ((envK B w O q (some (.int ((k : Nat) : Int))) y).set 6 (some (wd x))) s = some (.nx (envK B w O (q ++ [(x, k)]) (some (.int ((k : Nat) : Int))) (some (wd x))), s) from (if_t t).trans ap]
      exact e
def bodyM : Fs := (forF (seqF (callF Vresults_of (aCons (fVar 0) (aCons (bind2 (bind2 (fVar 0) (fC (.int 1)) ixA) (fVar 5) ixA) (aCons (fVar 1) aNil))))) (tgN 6) bodyK)
theorem led_outer {E : Ents} (hE : OkE E) (w : List Nat) (rs : List Ru) (hr : ∀ r ∈ rs, okR r = true) (hc : ∀ c ∈ w, c ∈ E.map (·.1)) (hw : w.length ≤ 50) {O : Dt} {s : Sto} : ∀ (l : List Nat) (q : Led) (x y : Option Dt), (∀ k ∈ l, k < rs.length) → q.length + l.length * 500 ≤ 100000 →
    ∃ q' x' y', loopF (tgN 5) bodyM (l.map fun k => .int ((k : Nat) : Int)) (envK (.tup [.tup (entL E), .tup (rs.map Ru.d)]) w O q x y) s = some (.nx (envK (.tup [.tup (entL E), .tup (rs.map Ru.d)]) w O q' x' y'), s) ∧ q'.map (·.1) = onceN w (q.map (·.1)) (l.flatMap fun k => resN E w (rs.getD k .empty))
  | [], q, x, y, _, _ => ⟨q, x, y, rfl, rfl⟩
  | k :: l, q, x, y, hk, hl => by
    rw [List.length_cons, Nat.add_mul] at hl
    have hk0 := hk k List.mem_cons_self
    have eg : rs.getD k .empty = rs[k] := by rw [List.getD_eq_getElem?_getD, List.getElem?_eq_getElem hk0]; rfl
    have hrk := hr rs[k] (List.getElem_mem hk0)
    have h1 := res_len hE w hw rs[k] hrk
    let B : Dt := .tup [.tup (entL E), .tup (rs.map Ru.d)]
    obtain ⟨y1, e1⟩ := led_inner (B := B) (O := O) (w := w) (k := k) (s := s) (resN E w rs[k]) q y (by omega)
    have hq1 := led_once w k (resN E w rs[k]) q
    have hq2 : (ledN w k q (resN E w rs[k])).length ≤ q.length + 500 := by
      have h2 := once_len w (resN E w rs[k]) (q.map (·.1))
      rw [← hq1, List.length_map, List.length_map] at h2
      omega
    obtain ⟨q', x', y', e2, e3⟩ := led_outer hE w rs hr hc hw (O := O) (s := s) l (ledN w k q (resN E w rs[k])) (some (.int ((k : Nat) : Int))) y1 (fun k' h => hk k' (List.mem_cons_of_mem _ h)) (by omega)
    refine ⟨q', x', y', ?_, ?_⟩
    · rw [List.map_cons]
      unfold loopF
      simp only [tgN]
      have b : bodyM (envK B w O q (some (.int ((k : Nat) : Int))) y) s = some (.nx (envK B w O (ledN w k q (resN E w rs[k])) (some (.int ((k : Nat) : Int))) y1), s) := by
        unfold bodyM forF seqF
        rw [call_ev (aCons_ev (v0 rfl) (aCons_ev (bind2_ev (bind2_ev (v0 (d := B) rfl) c0 (z := .tup (rs.map Ru.d)) rfl) (v0 (d := .int ((k : Nat) : Int)) rfl) (ixA_tup (d := rs[k].d) (by rw [List.getElem?_map, List.getElem?_eq_getElem hk0]; rfl))) (aCons_ev (v0 rfl) a0))) (results_ok (.tup (rs.map Ru.d)) hE rs[k] hrk hc hw s)]
        exact e1
      rw [show (envK B w O q x y).set 5 (some (.int ((k : Nat) : Int))) = envK B w O q (some (.int ((k : Nat) : Int))) y from rfl, b]
      exact e2
    · rw [e3, hq1, List.flatMap_cons, once_app, eg]
theorem range_every (E : Ents) (w : List Nat) (rs : List Ru) : ((List.range rs.length).flatMap fun k => resN E w (rs.getD k .empty)) = everyN E w rs := by
  have e : (List.range rs.length).map (fun k => rs.getD k .empty) = rs := by
    refine List.ext_getElem? fun i => ?_
    rw [List.getElem?_map]
    by_cases h : i < rs.length
    · rw [List.getElem?_range h, List.getElem?_eq_getElem h]
      show some (rs.getD i .empty) = _
      rw [List.getD_eq_getElem?_getD, List.getElem?_eq_getElem h]
      rfl
    · rw [List.getElem?_eq_none (by rw [List.length_range]; omega), List.getElem?_eq_none (by omega)]
      rfl
  unfold everyN
  conv => rhs; rw [← e]
  rw [List.flatMap_map]
end DL
namespace DL
open PySem PySem.Spec PyProof.Rows L2
theorem lcL_pair {te : Fe} {w : Env} {i j : Nat} {g : Dt → Dt} {s : Sto} : ∀ {ds : List Dt}, (∀ d, d ∈ ds → ∃ a b, d = .tup [a, b] ∧ te ((w.set i (some a)).set j (some b)) s = some (g d, s)) → lcL (tgP (tgN i) (tgN j)) yesT te w ds s = some (ds.map g, s)
  | [], _ => rfl
  | d :: ds, h => by
    have ih := lcL_pair (te := te) (w := w) (i := i) (j := j) (g := g) (s := s) (ds := ds) fun d' h' => h d' (List.mem_cons_of_mem _ h')
    obtain ⟨a, b, rfl, e⟩ := h d List.mem_cons_self
    unfold lcL
    simp only [tgP, tgN, yesT, Option.bind_eq_bind, Option.bind_some]
    rw [e]
    dsimp only
    rw [ih]
    rfl
def ledD (q : Led) : Dt := .tup (q.map fun p => .tup [wd p.1, .int ((p.2 : Nat) : Int)])
theorem led_ok {E : Ents} (hE : OkE E) (w : List Nat) (rs : List Ru) (hr : ∀ r ∈ rs, okR r = true) (hc : ∀ c ∈ w, c ∈ E.map (·.1)) (hw : w.length ≤ 50) (hn : rs.length ≤ 100) (s : Sto) :
    ∃ q, Vled_steps [.tup [.tup (entL E), .tup (rs.map Ru.d)], wd w, .int 0] s = some (ledD q, s) ∧ q.map (·.1) = onceN w [] (everyN E w rs) := by
  let B : Dt := .tup [.tup (entL E), .tup (rs.map Ru.d)]
  let O : Dt := .lst ((List.range rs.length).map fun k => .int ((k : Nat) : Int))
  obtain ⟨q, x, y, e1, e2⟩ := led_outer hE w rs hr hc hw (O := O) (s := s) (List.range rs.length) [] none none (fun k h => List.mem_range.mp h) (by rw [List.length_range]; show 0 + _ ≤ _; omega)
  rw [range_every] at e2
  have hql : q.length ≤ 50000 := by
    have h1 := once_len w (everyN E w rs) []
    have h2 := every_len hE w hw rs hr
    have h3 : q.length = (onceN w [] (everyN E w rs)).length := by rw [← List.length_map (as := q) (f := (·.1)), e2]; rfl
    have h4 : ([] : List (List Nat)).length = 0 := rfl
    omega
  refine ⟨q, fn_rt ?_, e2⟩
  have ord : (bind2 (bind2 (fVar 2) (bindA (aCons (bind2 (fVar 0) (fC (.int 1)) ixA) aNil) lenG) rg2G) (bind1 (fVar 2) rg1G) catG) [some B, some (wd w), some (.int 0), none, none, none, none] s = some (O, s) := by
    have hlen : lenG s [.tup (rs.map Ru.d)] = some (.int ((rs.length : Nat) : Int)) := by
      show some (Dt.int (((rs.map Ru.d).length : Nat) : Int)) = _
      rw [List.length_map]
    have hr2 : rg2G s (.int 0) (.int ((rs.length : Nat) : Int)) = some O := by
      unfold rg2G
      dsimp only
      rw [if_pos (show rgOk 0 ((rs.length : Nat) : Int) = true from decide_eq_true ⟨by decide, by decide, by omega, by omega, by omega⟩), rgD_range]
      rfl
    refine bind2_ev (bind2_ev (v0 rfl) (bindA_ev (aCons_ev (bind2_ev (v0 rfl) c0 (z := .tup (rs.map Ru.d)) rfl) a0) hlen) hr2) (rg_ev (m := 0) (v0 rfl) (by decide) (by decide)) ?_
    show (if ((List.range rs.length).map fun k => Dt.int ((k : Nat) : Int)).length + 0 ≤ sizeLine then some (Dt.lst (((List.range rs.length).map fun k => Dt.int ((k : Nat) : Int)) ++ [])) else none) = _
    rw [if_pos (small (by rw [List.length_map, List.length_range]; omega)), List.append_nil]
  have items : lcF (itemsI (fVar 4)) (tgP (tgN 6) (tgN 5)) yesT (bindA (aCons (fVar 6) (aCons (fVar 5) aNil)) tupG) [6, 5] (envK B w O q x y) s = some (.lst (q.map fun p => .tup [wd p.1, .int ((p.2 : Nat) : Int)]), s) := by
    unfold lcF
    rw [show itemsI (fVar 4) (envK B w O q x y) s = some ((dk q).map pairD, s) from rfl]
    dsimp only
    rw [lcL_pair (g := fun d => d) fun d hd => ?_]
    · dsimp only
      have e : ((dk q).map pairD).map (fun d => d) = q.map fun p => Dt.tup [wd p.1, .int ((p.2 : Nat) : Int)] := by
        unfold dk
        rw [List.map_map, List.map_map]
        rfl
      rw [e, if_pos (small (by rw [List.length_map]; omega))]
    · obtain ⟨kv, hkv, rfl⟩ := List.mem_map.mp hd
      obtain ⟨p, hp, rfl⟩ := List.mem_map.mp hkv
      exact ⟨wd p.1, .int ((p.2 : Nat) : Int), rfl, bindA_ev (aCons_ev (x := wd p.1) (v0 rfl) (aCons_ev (x := .int ((p.2 : Nat) : Int)) (v0 rfl) a0)) (if_pos (small (by show 2 ≤ 16777215; decide)))⟩
  refine (seq_nx (set_ev ord)).trans ((seq_nx (setN_ev (show 4 < 7 by decide) (d := .dct []) rfl)).trans ((seq_nx (e' := envK B w O q x y) (s' := s) ?_).trans (ret_ev (bindA_ev (aCons_ev items a0) rfl))))
  unfold forF seqF
  rw [v0 (d := O) rfl]
  exact e1
/-! ### letters -/
def lowc (w : List Nat) : Prop := ∀ c ∈ w, 97 ≤ c ∧ c ≤ 122
theorem letters_ok {E : Ents} (R : Dt) (hn : E.length ≤ 100) (s : Sto) : Vletters_of [.tup [.tup (entL E), R]] s = some (.tup (E.map fun e => wd [e.1]), s) := by
  refine fn_rt (ret_ev (bindA_ev (aCons_ev (x := .lst (E.map fun e => wd [e.1])) ((lc_map (s1 := s) (ds := entL E) (g := fun d => match d with | .tup (x :: _) => x | _ => .non) ?_ (small (by unfold entL; rw [List.length_map]; omega)) fun d hd => ?_).trans ?_) a0) (z := .tup (E.map fun e => wd [e.1])) rfl))
  · unfold seqF
    rw [bind2_ev (v0 rfl) c0 (z := .tup (entL E)) rfl]
    rfl
  · obtain ⟨e, he, rfl⟩ := List.mem_map.mp hd
    rfl
  · unfold entL
    rw [List.map_map]
    rfl
theorem bools_true {α : Type} (l : List α) : bools (l.map fun _ => Dt.bl true) = some (l.map fun _ => true) := by
  induction l with
  | nil => rfl
  | cons x l ih =>
    show (bools (l.map fun _ => Dt.bl true)).map (true :: ·) = _
    rw [ih]
    rfl
theorem all_true {α : Type} (s : Sto) (l : List α) : allG s [.lst (l.map fun _ => Dt.bl true)] = some (.bl true) := by
  show (bools (l.map fun _ => Dt.bl true)).map (fun bs => Dt.bl (bs.all id)) = _
  rw [bools_true]
  have : (l.map fun _ => true).all id = true := by
    rw [List.all_eq_true]
    intro b hb
    obtain ⟨_, _, rfl⟩ := List.mem_map.mp hb
    rfl
  show some (Dt.bl ((l.map fun _ => true).all id)) = _
  rw [this]
theorem chars_ev {f : Fe} {env : Env} {s : Sto} {w : List Nat} (h : f env s = some (wd w, s)) : seqF f env s = some (w.map fun c => wd [c], s) := by
  unfold seqF
  rw [h]
  rfl
theorem thing_ok {w : List Nat} (hc : lowc w) (hw : w.length ≤ 50) (s : Sto) : Vis_thing [wd w] s = some (.bl true, s) := by
  refine fn_rt (ret_ev ?_)
  unfold andV
  rw [bind1_ev (v0 (d := wd w) rfl) (z := .bl true) rfl]
  simp only [Option.bind_eq_bind, Option.bind_some, truB, if_true]
  refine bindA_ev (aCons_ev ((lc_map (s1 := s) (g := fun _ => .bl true) (chars_ev (v0 rfl)) (small (by rw [List.length_map]; omega)) fun d hd => ?_).trans (by rw [List.map_map]; rfl)) a0) (all_true s w)
  obtain ⟨c, hcm, rfl⟩ := List.mem_map.mp hd
  obtain ⟨h1, h2⟩ := hc c hcm
  have l1 : leG s (.str "a") (wd [c]) = some (.bl true) := by
    show some (Dt.bl (!decide ([c] < [97]))) = _
    rw [decide_eq_false fun z => by
      have := List.cons_lt_cons_iff.mp z
      rcases this with h | ⟨h, h'⟩
      · omega
      · exact absurd h' (by simp)]
    rfl
  have l2 : leG s (wd [c]) (.str "z") = some (.bl true) := by
    show some (Dt.bl (!decide ([122] < [c]))) = _
    rw [decide_eq_false fun z => by
      have := List.cons_lt_cons_iff.mp z
      rcases this with h | ⟨h, h'⟩
      · omega
      · exact absurd h' (by simp)]
    rfl
  unfold chain3
  simp only [c0, v0 (env := (wipeE (List.map some [wd w] ++ List.replicate (2 - [wd w].length) none) [1]).set 1 (some (wd [c]))) (i := 1) (d := wd [c]) rfl, Option.bind_eq_bind, Option.bind_some, l1, l2]
end DL
namespace DL
open PySem PySem.Spec PyProof.Rows L2
theorem in_tup (s : Sto) (x : List Nat) (acc : List (List Nat)) : inA s (wd x) (.tup (acc.map wd)) = some (.bl (decide (x ∈ acc))) := by
  have h := in_words s x acc
  have h2 : inB s (wd x) (.tup (acc.map wd)) = some (decide (x ∈ acc)) := h
  show (inB s (wd x) (.tup (acc.map wd))).map Dt.bl = _
  rw [h2]
  rfl
section
variable {E : Ents} {w : List Nat} {s : Sto}
theorem has_ok (R : Dt) (hn : E.length ≤ 100) (hc : ∀ c ∈ w, c ∈ E.map (·.1)) (hl : lowc w) (hw : w.length ≤ 50) : Vhas_letters [.tup [.tup (entL E), R], wd w] s = some (.bl true, s) := by
  refine fn_rt ((seq_nx (set_ev (call_ev (aCons_ev (v0 rfl) a0) (letters_ok R hn s)))).trans (ret_ev ?_))
  unfold andV
  rw [call_ev (aCons_ev (v0 rfl) a0) (thing_ok hl hw s)]
  simp only [Option.bind_eq_bind, Option.bind_some, truB, if_true]
  refine bindA_ev (aCons_ev ((lc_map (s1 := s) (g := fun _ => .bl true) (chars_ev (v0 rfl)) (small (by rw [List.length_map]; omega)) fun d hd => ?_).trans (by rw [List.map_map]; rfl)) a0) (all_true s w)
  obtain ⟨c, hcm, rfl⟩ := List.mem_map.mp hd
  have e1 : (E.map fun e => wd [e.1]) = (E.map fun e => [e.1]).map wd := by rw [List.map_map]; rfl
  refine bind2_ev (v0 rfl) (v0 rfl) ?_
  rw [e1, in_tup]
  obtain ⟨e, he, hec⟩ := List.mem_map.mp (hc c hcm)
  rw [decide_eq_true (List.mem_map.mpr ⟨e, he, by rw [hec]⟩)]
theorem thing_need (R : Dt) (nm : Str) (hn : E.length ≤ 100) (hc : ∀ c ∈ w, c ∈ E.map (·.1)) (hl : lowc w) (hw : w.length ≤ 50) : Vneed_thing [.tup [.tup (entL E), R], wd w, .str nm] s = some (.non, s) := by
  refine fn_nx (e' := [some (.tup [.tup (entL E), R]), some (wd w), some (.str nm)]) ?_
  refine (if_f (s' := s) ?_).trans rfl
  unfold notT truF
  rw [call_ev (aCons_ev (v0 rfl) (aCons_ev (v0 rfl) a0)) (has_ok R hn hc hl hw)]
  rfl
theorem rule_need (B : Dt) (rs : List Ru) (k : Nat) (nm : Str) (hk : k < rs.length) : Vneed_rule [.tup [B, .tup (rs.map Ru.d)], .int ((k : Nat) : Int), .str nm] s = some (.non, s) := by
  refine fn_nx (e' := [some (.tup [B, .tup (rs.map Ru.d)]), some (.int ((k : Nat) : Int)), some (.str nm)]) ?_
  refine (if_f (s' := s) ?_).trans rfl
  have h1 : Vis_number [.int ((k : Nat) : Int)] s = some (.bl true, s) := by
    have h0 : Vis_integer [.int ((k : Nat) : Int)] s = some (.bl true, s) := rfl
    refine fn_rt (ret_ev ?_)
    unfold andV
    rw [call_ev (aCons_ev (v0 rfl) a0) h0]
    simp only [Option.bind_eq_bind, Option.bind_some, truB, if_true]
    refine bind2_ev (v0 (d := .int ((k : Nat) : Int)) rfl) c0 ?_
    show some (Dt.bl (decide ((0 : Int) ≤ k))) = _
    rw [decide_eq_true (by omega)]
  have h2 : notT (truF (callF Vis_number (aCons (fVar 1) aNil))) [some (.tup [B, .tup (rs.map Ru.d)]), some (.int ((k : Nat) : Int)), some (.str nm)] s = some (false, s) := by
    unfold notT truF
    rw [call_ev (aCons_ev (v0 rfl) a0) h1]
    rfl
  have hlen : lenG s [.tup (rs.map Ru.d)] = some (.int ((rs.length : Nat) : Int)) := by
    show some (Dt.int (((rs.map Ru.d).length : Nat) : Int)) = _
    rw [List.length_map]
  show orT _ _ [some (.tup [B, .tup (rs.map Ru.d)]), some (.int ((k : Nat) : Int)), some (.str nm)] s = _
  unfold orT
  rw [h2]
  simp only [Option.bind_eq_bind, Option.bind_some, Bool.false_eq_true, if_false]
  refine asB_ev (bind2_ev (v0 (d := .int ((k : Nat) : Int)) rfl) (bindA_ev (aCons_ev (bind2_ev (v0 rfl) c0 (z := .tup (rs.map Ru.d)) rfl) a0) hlen) ?_)
  show some (Dt.bl (decide (((rs.length : Nat) : Int) ≤ k))) = _
  rw [decide_eq_false (by omega)]
theorem drop_st {f : Fe} {env : Env} {s s' : Sto} {d : Dt} (h : f env s = some (d, s')) : dropS f env s = some (.nx env, s') := by
  unfold dropS
  rw [h]
  rfl
def fstD : Dt → Dt
  | .tup (x :: _) => x
  | _ => .non
theorem pick_led (B : Dt) (q : Led) : lcL (tgP (tgN 2) (tgN 3)) yesT (fVar 2) (wipeE [some B, some (wd w), none, none] [2, 3]) (q.map fun p => .tup [wd p.1, .int ((p.2 : Nat) : Int)]) s = some ((q.map (·.1)).map wd, s) := by
  rw [lcL_pair (g := fstD) fun d hd => ?_]
  · rw [List.map_map, List.map_map]
    rfl
  · obtain ⟨p, hp, rfl⟩ := List.mem_map.mp hd
    exact ⟨wd p.1, .int ((p.2 : Nat) : Int), rfl, v0 rfl⟩
theorem steps_lc (B : Dt) (q : Led) (hq : q.length ≤ 50000) (e1 : Vled_steps [B, wd w, .int 0] s = some (ledD q, s)) : lcF (seqF (callF Vled_steps (aCons (fVar 0) (aCons (fVar 1) (aCons (fC (.int 0)) aNil))))) (tgP (tgN 2) (tgN 3)) yesT (fVar 2) [2, 3] [some B, some (wd w), none, none] s = some (.lst ((q.map (·.1)).map wd), s) := by
  have hit : seqF (callF Vled_steps (aCons (fVar 0) (aCons (fVar 1) (aCons (fC (.int 0)) aNil)))) [some B, some (wd w), none, none] s = some (q.map fun p => .tup [wd p.1, .int ((p.2 : Nat) : Int)], s) := by
    unfold seqF
    rw [call_ev (aCons_ev (v0 rfl) (aCons_ev (v0 rfl) (aCons_ev c0 a0))) e1]
    rfl
  unfold lcF
  rw [hit]
  dsimp only
  rw [pick_led]
  dsimp only
  rw [if_pos (small (by rw [List.length_map, List.length_map]; omega))]
theorem led_few (hE : OkE E) (rs : List Ru) (hr : ∀ r ∈ rs, okR r = true) (hw : w.length ≤ 50) (hrl : rs.length ≤ 100) (q : Led) (e2 : q.map (·.1) = onceN w [] (everyN E w rs)) : q.length ≤ 50000 := by
  have h1 := once_len w (everyN E w rs) []
  have h2 := every_len hE w hw rs hr
  have h3 : q.length = (q.map (·.1)).length := (List.length_map _).symm
  rw [e2] at h3
  have h4 : ([] : List (List Nat)).length = 0 := rfl
  omega
theorem steps_ok (hE : OkE E) (rs : List Ru) (hr : ∀ r ∈ rs, okR r = true) (hn : E.length ≤ 100) (hc : ∀ c ∈ w, c ∈ E.map (·.1)) (hl : lowc w) (hw : w.length ≤ 50) (hrl : rs.length ≤ 100) :
    Vsteps_of [.tup [.tup (entL E), .tup (rs.map Ru.d)], wd w] s = some (.tup ((onceN w [] (everyN E w rs)).map wd), s) := by
  obtain ⟨q, e1, e2⟩ := led_ok hE w rs hr hc hw hrl s
  have hlc := steps_lc (w := w) (s := s) _ q (led_few hE rs hr hw hrl q e2) e1
  have nd := drop_st (f := callF Vneed_thing (aCons (fVar 0) (aCons (fVar 1) (aCons (fC (.str "x")) aNil)))) (env := [some (.tup [.tup (entL E), .tup (rs.map Ru.d)]), some (wd w), none, none]) (s := s)
    (call_ev (aCons_ev (v0 rfl) (aCons_ev (v0 rfl) (aCons_ev c0 a0))) (thing_need (.tup (rs.map Ru.d)) "x" hn hc hl hw))
  rw [← e2]
  exact fn_rt (m := 4) (F := Fsteps_of) (ds := [.tup [.tup (entL E), .tup (rs.map Ru.d)], wd w]) ((seq_nx nd).trans (ret_ev (bindA_ev (aCons_ev hlc a0) rfl)))
/-! ### one rule's steps -/
def dt (q : List (List Nat)) : List (Key × Dt) := q.map fun x => (.inr (strW x), .bl true)
theorem put_dt (x : List Nat) (q : List (List Nat)) : putD (dt q) (.inr (strW x)) (.bl true) = dt (if x ∈ q then q else q ++ [x]) := by
  unfold putD
  by_cases h : x ∈ q
  · rw [if_pos h, if_pos]
    · unfold dt
      rw [List.map_map]
      refine List.map_congr_left fun y _ => ?_
      show (if (Sum.inr (strW y) : Key) = .inr (strW x) then (Sum.inr (strW y), Dt.bl true) else (Sum.inr (strW y), Dt.bl true)) = _
      split <;> rfl
    · rw [List.any_eq_true]
      exact ⟨_, List.mem_map.mpr ⟨x, h, rfl⟩, decide_eq_true rfl⟩
  · rw [if_neg h, if_neg]
    · unfold dt
      rw [List.map_append]
      rfl
    · intro z
      rw [List.any_eq_true] at z
      obtain ⟨y, hy, z⟩ := z
      obtain ⟨p, hp, rfl⟩ := List.mem_map.mp hy
      exact h (strW_inj (Sum.inr.inj (of_decide_eq_true z)) ▸ hp)
def bodyT : Fs := (ifS (asB (bind2 (fVar 4) (fVar 2) neG)) (dputS 3 (fVar 4) (fC (.bl true))) skipS)
theorem one_loop {B K : Dt} : ∀ (l acc : List (List Nat)) (x : Option Dt), acc.length + l.length ≤ 100000 → ∃ x', loopF (tgN 4) bodyT (l.map wd) [some B, some K, some (wd w), some (.dct (dt acc)), x] s = some (.nx [some B, some K, some (wd w), some (.dct (dt (onceN w acc l))), x'], s)
  | [], acc, x, _ => ⟨x, rfl⟩
  | y :: l, acc, x, h => by
    rw [List.length_cons] at h
    have t : asB (bind2 (fVar 4) (fVar 2) neG) [some B, some K, some (wd w), some (.dct (dt acc)), some (wd y)] s = some (!decide (y = w), s) := asB_ev (bind2_ev (v0 rfl) (v0 rfl) (ne_words s y w))
    have e0 : onceN w acc (y :: l) = onceN w (if y = w ∨ y ∈ acc then acc else acc ++ [y]) l := rfl
    rw [e0]
    have hlen : (if y = w ∨ y ∈ acc then acc else acc ++ [y]).length ≤ acc.length + 1 := by
      split
      · omega
      · rw [List.length_append]; exact Nat.le_refl _
    obtain ⟨x', e⟩ := one_loop (B := B) (K := K) l (if y = w ∨ y ∈ acc then acc else acc ++ [y]) (some (wd y)) (by omega)
    refine ⟨x', ?_⟩
    rw [List.map_cons]
    unfold loopF
    simp only [tgN]
    have b : bodyT [some B, some K, some (wd w), some (.dct (dt acc)), some (wd y)] s = some (.nx [some B, some K, some (wd w), some (.dct (dt (if y = w ∨ y ∈ acc then acc else acc ++ [y]))), some (wd y)], s) := by
      by_cases hy : y = w
      · rw [decide_eq_true hy] at t
        rw [if_pos (.inl hy)]
        exact (if_f t).trans rfl
      · rw [decide_eq_false hy] at t
        refine (if_t t).trans ((dput_ev (key := .inr (strW y)) (v := .bl true) (k := wd y) (ks := dt acc) c0 (v0 rfl) rfl rfl (small' (by unfold dt; rw [List.length_map]; omega))).trans ?_)
        rw [put_dt]
        by_cases h2 : y ∈ acc
        · rw [if_pos h2, if_pos (.inr h2)]
          rfl
        · rw [if_neg h2, if_neg fun z => z.elim hy h2]
          rfl
    rw [show ([some B, some K, some (wd w), some (.dct (dt acc)), x] : Env).set 4 (some (wd y)) = [some B, some K, some (wd w), some (.dct (dt acc)), some (wd y)] from rfl, b]
    exact e
theorem rsteps_ok (hE : OkE E) (rs : List Ru) (hr : ∀ r ∈ rs, okR r = true) (hn : E.length ≤ 100) (hc : ∀ c ∈ w, c ∈ E.map (·.1)) (hl : lowc w) (hw : w.length ≤ 50) (k : Nat) (hk : k < rs.length) :
    Vrule_steps [.tup [.tup (entL E), .tup (rs.map Ru.d)], .int ((k : Nat) : Int), wd w] s = some (.tup ((onceN w [] (resN E w rs[k])).map wd), s) := by
  let B : Dt := .tup [.tup (entL E), .tup (rs.map Ru.d)]
  have hrk := hr rs[k] (List.getElem_mem hk)
  have h1 := res_len hE w hw rs[k] hrk
  obtain ⟨x', e⟩ := one_loop (w := w) (s := s) (B := B) (K := .int ((k : Nat) : Int)) (resN E w rs[k]) [] none (by show 0 + _ ≤ _; omega)
  refine fn_rt ((seq_nx (drop_st (call_ev (aCons_ev (v0 rfl) (aCons_ev (v0 rfl) (aCons_ev c0 a0))) (rule_need _ rs k _ hk)))).trans ((seq_nx (drop_st (call_ev (aCons_ev (v0 rfl) (aCons_ev (v0 rfl) (aCons_ev c0 a0))) (thing_need _ _ hn hc hl hw)))).trans ((seq_nx (setN_ev (show 3 < 5 by decide) (d := .dct []) rfl)).trans ((seq_nx (e' := [some B, some (.int ((k : Nat) : Int)), some (wd w), some (.dct (dt (onceN w [] (resN E w rs[k])))), x']) (s' := s) ?_).trans (ret_ev (bindA_ev (aCons_ev (x := .lst ((onceN w [] (resN E w rs[k])).map wd)) (bindA_ev (aCons_ev (v0 rfl) a0) ?_) a0) rfl))))))
  · unfold forF seqF
    rw [call_ev (aCons_ev (v0 rfl) (aCons_ev (bind2_ev (bind2_ev (v0 (d := B) rfl) c0 (z := .tup (rs.map Ru.d)) rfl) (v0 (d := .int ((k : Nat) : Int)) rfl) (ixA_tup (d := rs[k].d) (by rw [List.getElem?_map, List.getElem?_eq_getElem hk]; rfl))) (aCons_ev (v0 rfl) a0))) (results_ok (.tup (rs.map Ru.d)) hE rs[k] hrk hc hw s)]
    exact e
  · show some (Dt.lst ((dt (onceN w [] (resN E w rs[k]))).map fun kv => keyD kv.1)) = _
    unfold dt
    rw [List.map_map]
    rfl
end
end DL
namespace DL
open PySem PySem.Spec PyProof.Rows L2
def lowRb : Ru → Bool
  | .put c v _ => (c :: v).all fun c => decide (97 ≤ c ∧ c ≤ 122)
  | _ => true
theorem ent_ok {t f : Str} (ht : t ∈ tables) (hf : f ∈ firsts) : ((entN t f).map (·.1)).Nodup ∧ (∀ e ∈ entN t f, e.2.length ≤ 10) ∧ (∀ e ∈ entN t f, 97 ≤ e.1 ∧ e.1 ≤ 122) ∧ (∀ e ∈ entN t f, ∀ c ∈ e.2, 97 ≤ c ∧ c ≤ 122) ∧ (entN t f).length ≤ 4 := by
  have z : ∀ t ∈ tables, ∀ f ∈ firsts, ((entN t f).map (·.1)).Nodup ∧ (∀ e ∈ entN t f, e.2.length ≤ 10) ∧ (∀ e ∈ entN t f, 97 ≤ e.1 ∧ e.1 ≤ 122) ∧ (∀ e ∈ entN t f, ∀ c ∈ e.2, 97 ≤ c ∧ c ≤ 122) ∧ (entN t f).length ≤ 4 := by decide +kernel
  exact z t ht f hf
theorem ru_ok {t g : Str} (ht : t ∈ tables) (hg : g ∈ signs) : okR (ruOf t g) = true ∧ lowRb (ruOf t g) = true := by
  have z : ∀ t ∈ tables, ∀ g ∈ signs, okR (ruOf t g) = true ∧ lowRb (ruOf t g) = true := by decide +kernel
  exact z t ht g hg
theorem plan_eq (t f : Str) (gs : List Str) : planD t f gs = .tup [.tup (entL (entN t f)), .tup ((gs.map (ruOf t)).map Ru.d)] := by
  unfold planD
  rw [List.map_map]
  rfl
/-! ### all words are of low letters -/
theorem low_app {a b : List Nat} (ha : lowc a) (hb : lowc b) : lowc (a ++ b) := fun c hc => (List.mem_append.mp hc).elim (ha c) (hb c)
theorem low_take {a : List Nat} (k : Nat) (ha : lowc a) : lowc (a.take k) := fun c hc => ha c (List.mem_of_mem_take hc)
theorem low_drop {a : List Nat} (k : Nat) (ha : lowc a) : lowc (a.drop k) := fun c hc => ha c (List.mem_of_mem_drop hc)
theorem les_low {E : Ents} (hl : ∀ e ∈ E, ∀ c ∈ e.2, 97 ≤ c ∧ c ≤ 122) (a : Nat) : lowc (lesN E a) := by
  unfold lesN
  cases q : E.find? fun e => decide (e.1 = a) with
  | none => exact fun c hc => absurd hc List.not_mem_nil
  | some e => exact hl e (List.mem_of_find?_eq_some q)
theorem res_low {E : Ents} {w : List Nat} (hw : lowc w) (hwl : w.length ≤ 50) (hl : ∀ e ∈ E, ∀ c ∈ e.2, 97 ≤ c ∧ c ≤ 122) (r : Ru) (hr : lowRb r = true) (ho : okR r = true) : ∀ x ∈ resN E w r, lowc x ∧ x.length ≤ 150 := by
  intro x hx
  cases r with
  | drop n l =>
    obtain ⟨k, _, rfl⟩ := List.mem_map.mp hx
    exact ⟨low_app (low_take k hw) (low_drop _ hw), by rw [List.length_append, List.length_take, List.length_drop]; omega⟩
  | half l =>
    have e : x = if l then w.take (w.length / 2) else w.drop (w.length - w.length / 2) := List.mem_singleton.mp hx
    subst e
    cases l with
    | true => exact ⟨low_take _ hw, by show (w.take (w.length / 2)).length ≤ 150; rw [List.length_take]; omega⟩
    | false => exact ⟨low_drop _ hw, by show (w.drop (w.length - w.length / 2)).length ≤ 150; rw [List.length_drop]; omega⟩
  | empty =>
    have e : x = [] := List.mem_singleton.mp hx
    subst e
    exact ⟨fun c hc => absurd hc List.not_mem_nil, Nat.zero_le _⟩
  | lower l =>
    obtain ⟨k, _, hx⟩ := List.mem_flatMap.mp hx
    obtain ⟨c, hc, rfl⟩ := List.mem_map.mp hx
    refine ⟨low_app (low_app (low_take k hw) fun a ha => ?_) (low_drop _ hw), ?_⟩
    · rw [List.mem_singleton.mp ha]; exact les_low hl _ c hc
    · rw [List.length_append, List.length_append, List.length_take, List.length_drop]; show _ + 1 + _ ≤ _; omega
  | put c v l =>
    obtain ⟨k, _, rfl⟩ := List.mem_map.mp hx
    have hv : lowc v := fun a ha => of_decide_eq_true (List.all_eq_true.mp hr a (List.mem_cons_of_mem _ ha))
    have hvl : v.length ≤ 10 := of_decide_eq_true ho
    refine ⟨low_app (low_app (low_take k hw) hv) (low_drop _ hw), ?_⟩
    rw [List.length_append, List.length_append, List.length_take, List.length_drop]; omega
theorem once_mem (w : List Nat) : ∀ (l acc : List (List Nat)) (x : List Nat), x ∈ onceN w acc l → x ∈ acc ∨ x ∈ l
  | [], _, x, h => .inl h
  | y :: l, acc, x, h => by
    rcases once_mem w l (if y = w ∨ y ∈ acc then acc else acc ++ [y]) x h with h | h
    · by_cases hc : y = w ∨ y ∈ acc
      · rw [if_pos hc] at h; exact .inl h
      · rw [if_neg hc] at h
        rcases List.mem_append.mp h with h | h
        · exact .inl h
        · exact .inr (List.mem_singleton.mp h ▸ List.mem_cons_self)
    · exact .inr (List.mem_cons_of_mem _ h)
/-! ### what repr needs -/
theorem wd_good {x : List Nat} (h : lowc x) : good (wd x) = true := by
  show (strW x).cps.all (· < 0x110000) = true
  rw [← Array.all_toList, List.all_eq_true]
  intro c hc
  have := h c hc
  exact decide_eq_true (by omega)
theorem wd_wt (x : List Nat) : wt (wd x) = 10 * x.length + 2 := rfl
theorem words_good : ∀ {l : List (List Nat)}, (∀ x ∈ l, lowc x ∧ x.length ≤ 150) → goods (l.map wd) = true ∧ wts (l.map wd) ≤ l.length * 1510 ∧ deps (l.map wd) = 0
  | [], _ => ⟨rfl, Nat.le_refl _, rfl⟩
  | x :: l, h => by
    obtain ⟨h1, h2⟩ := h x List.mem_cons_self
    obtain ⟨g1, g2, g3⟩ := words_good (l := l) fun y hy => h y (List.mem_cons_of_mem _ hy)
    refine ⟨?_, ?_, ?_⟩
    · show (good (wd x) && goods (l.map wd)) = true
      rw [wd_good h1, g1]; rfl
    · show wt (wd x) + 2 + wts (l.map wd) ≤ _
      rw [wd_wt, List.length_cons, Nat.add_mul]; omega
    · show max (dep (wd x)) (deps (l.map wd)) = 0
      rw [g3]; rfl
/-- repr([a, a]) -/
theorem repr_two (s : Sto) {l : List (List Nat)} (h : ∀ x ∈ l, lowc x ∧ x.length ≤ 150) (hl : l.length ≤ 5000) : reprG s [.lst [.tup (l.map wd), .tup (l.map wd)]] = some (.str (showD (.lst [.tup (l.map wd), .tup (l.map wd)]))) := by
  obtain ⟨g1, g2, g3⟩ := words_good h
  refine if_pos ⟨?_, ?_, ?_⟩
  · show (goods (l.map wd) && (goods (l.map wd) && true)) = true
    rw [g1]; rfl
  · show (wts (l.map wd) + 3) + 2 + ((wts (l.map wd) + 3) + 2 + 0) + 2 ≤ 16777216
    omega
  · show max (deps (l.map wd) + 1) (max (deps (l.map wd) + 1) 0) + 1 ≤ 60
    rw [g3]; decide
end DL
namespace DL
open PySem PySem.Spec PyProof.Rows L2
/-! ### rows, one by one: tests, choices -/
section
variable {A B : Fs} {c c2 : Ft} {f g fa fb : Fe} {env e' : Env} {s s1 s2 s' : Sto} {d x y z : Dt} {i k : Nat} {o : Out} {a b : Bool}
theorem truF_ev (h : f env s = some (x, s1)) (hb : truA s1 x = some b) : truF f env s = some (b, s1) := by
  unfold truF; rw [h]; simp only [Option.bind_eq_bind, Option.bind_some]; rw [hb]; rfl
theorem notT_ev (h : c env s = some (b, s1)) : notT c env s = some (!b, s1) := by unfold notT; rw [h]; rfl
theorem andT_e (h : c env s = some (a, s1)) (h2 : a = true → c2 env s1 = some (b, s1)) : andT c c2 env s = some (a && b, s1) := by
  unfold andT; rw [h]; simp only [Option.bind_eq_bind, Option.bind_some]
  cases a with
  | true => rw [if_pos rfl, h2 rfl]; rfl
  | false => rfl
theorem orT_e (h : c env s = some (a, s1)) (h2 : a = false → c2 env s1 = some (b, s1)) : orT c c2 env s = some (a || b, s1) := by
  unfold orT; rw [h]; simp only [Option.bind_eq_bind, Option.bind_some]
  cases a with
  | true => rfl
  | false => rw [if_neg Bool.false_ne_true, h2 rfl]; rfl
theorem andV_e (h : f env s = some (.bl a, s1)) (h2 : a = true → g env s1 = some (.bl b, s1)) : andV f g env s = some (.bl (a && b), s1) := by
  unfold andV; rw [h]; simp only [Option.bind_eq_bind, Option.bind_some, truB]
  cases a with
  | true => rw [if_pos rfl, h2 rfl]; rfl
  | false => rfl
theorem orV_e (h : f env s = some (.bl a, s1)) (h2 : a = false → g env s1 = some (.bl b, s1)) : orV f g env s = some (.bl (a || b), s1) := by
  unfold orV; rw [h]; simp only [Option.bind_eq_bind, Option.bind_some, truB]
  cases a with
  | true => rfl
  | false => rw [if_neg Bool.false_ne_true, h2 rfl]; rfl
theorem notV_e (h : f env s = some (.bl a, s1)) : notV f env s = some (.bl (!a), s1) := by
  unfold notV bind1; rw [h]; rfl
theorem if_e (h : c env s = some (b, s1)) : ifS c A B env s = if b = true then A env s1 else B env s1 := by unfold ifS; rw [h]
theorem ifV_e (h : c env s = some (b, s1)) (h1 : b = true → f env s1 = some (x, s2)) (h2 : b = false → g env s1 = some (y, s2)) : ifV c f g env s = some (if b = true then x else y, s2) := by
  cases b with
  | true => exact (ifV_t h).trans (h1 rfl)
  | false => exact (ifV_f h).trans (h2 rfl)
theorem seq_nxt (h : A env s = some (.nx e', s')) : seqS A B env s = B e' s' := seq_nx h
theorem dropS_ev (h : f env s = some (d, s')) : dropS f env s = some (.nx env, s') := by unfold dropS; rw [h]; rfl
theorem par_ev (hi : i < env.length ∧ k < env.length) (h1 : fa env s = some (x, s1)) (h2 : fb env s1 = some (y, s2)) : par2S i k fa fb env s = some (.nx ((env.set i (some x)).set k (some y)), s2) := by
  unfold par2S; rw [if_pos hi, h1]; dsimp only; rw [h2]
theorem unpT_ev (h : f env s = some (.tup [x, y], s1)) : unpS i k f env s = some (.nx ((env.set i (some x)).set k (some y)), s1) := by
  unfold unpS; rw [h]
theorem unpL_ev (h : f env s = some (.lst [x, y], s1)) : unpS i k f env s = some (.nx ((env.set i (some x)).set k (some y)), s1) := by
  unfold unpS; rw [h]
theorem pop_ev {ds : List Dt} (hi : env[i]? = some (some (.lst (ds ++ [d])))) : popS i k env s = some (.nx ((env.set i (some (.lst ds))).set k (some d)), s) := by
  unfold popS lstAt; rw [hi]; simp
theorem dput_e {fk fv : Fe} {kd v : Dt} {key : Key} {ks : List (Key × Dt)} (hv : fv env s = some (v, s1)) (hk : fk env s1 = some (kd, s2)) (hi : env[i]? = some (some (.dct ks))) (hkey : keyOf kd = some key) (hl : ks.length < sizeLine) : dputS i fk fv env s = some (.nx (env.set i (some (.dct (putD ks key v)))), s2) := by
  unfold dputS dctAt; rw [hv]; dsimp only; rw [hk, hi]; dsimp only; rw [hkey]; dsimp only; rw [if_pos hl]
end
/-! ### what is walked -/
section
variable {f : Fe} {env : Env} {s s1 : Sto} {l : List Dt} {w : List Nat}
theorem seq_tup (h : f env s = some (.tup l, s1)) : seqF f env s = some (l, s1) := by unfold seqF; rw [h]; rfl
theorem seq_lst (h : f env s = some (.lst l, s1)) : seqF f env s = some (l, s1) := by unfold seqF; rw [h]; rfl
theorem seq_str (h : f env s = some (wd w, s1)) : seqF f env s = some (w.map fun c => wd [c], s1) := by
  unfold seqF; rw [h]
  show some (w.toArray.toList.map fun c => Dt.str ⟨#[c]⟩, s1) = _
  rw [List.toList_toArray]; rfl
theorem seq_dct {ks : List (Key × Dt)} (h : f env s = some (.dct ks, s1)) : seqF f env s = some (ks.map fun kv => keyD kv.1, s1) := by unfold seqF; rw [h]; rfl
theorem rng_ev {m : Int} (h : f env s = some (.int m, s1)) (h1 : -(2 ^ 62) ≤ m) (h2 : m < 2 ^ 62) : rngF1 f env s = some ((List.range m.toNat).map fun i => Dt.int (0 + (i : Nat)), s1) := by
  unfold rngF1; rw [h]; dsimp only; rw [if_pos ⟨h1, h2⟩]
theorem rng2_ev {g : Fe} {s2 : Sto} {a b : Int} (h : f env s = some (.int a, s1)) (h' : g env s1 = some (.int b, s2)) (h1 : -(2 ^ 62) ≤ a ∧ a < 2 ^ 62 ∧ -(2 ^ 62) ≤ b ∧ b < 2 ^ 62) : rngF2 f g env s = some ((List.range (b - a).toNat).map fun i => Dt.int (a + (i : Nat)), s2) := by
  unfold rngF2; rw [h]; dsimp only; rw [h']; dsimp only; rw [if_pos h1]
end
/-! ### comprehensions over lists of data that stand for things of a type -/
section
variable {α β : Type} {xs : List α} {enc : α → Dt} {fi fi1 : Fi} {tt : Ft} {te : Fe} {env : Env} {s s1 : Sto} {k k1 : Nat} {vs vs1 : List Nat} {q : α → Bool} {g : α → Dt}
theorem lcL_e {w : Env} : ∀ {xs : List α}, (∀ x, x ∈ xs → tt (w.set k (some (enc x))) s = some (q x, s)) → (∀ x, x ∈ xs → q x = true → te (w.set k (some (enc x))) s = some (g x, s)) → lcL (tgN k) tt te w (xs.map enc) s = some ((xs.filter q).map g, s)
  | [], _, _ => rfl
  | x :: xs, h1, h2 => by
    have ih := lcL_e (xs := xs) (fun x hx => h1 x (List.mem_cons_of_mem _ hx)) fun x hx => h2 x (List.mem_cons_of_mem _ hx)
    rw [List.map_cons]
    unfold lcL
    simp only [tgN]
    rw [h1 x List.mem_cons_self]
    cases hq : q x with
    | true =>
      dsimp only
      rw [h2 x List.mem_cons_self hq]
      dsimp only
      rw [ih, List.filter_cons_of_pos hq]
      rfl
    | false =>
      dsimp only
      rw [ih, List.filter_cons_of_neg (by rw [hq]; exact Bool.false_ne_true)]
theorem lc_e (hi : fi env s = some (xs.map enc, s1)) (hl : xs.length ≤ sizeLine) (h1 : ∀ x, x ∈ xs → tt ((wipeE env vs).set k (some (enc x))) s1 = some (q x, s1)) (h2 : ∀ x, x ∈ xs → q x = true → te ((wipeE env vs).set k (some (enc x))) s1 = some (g x, s1)) :
    lcF fi (tgN k) tt te vs env s = some (.lst ((xs.filter q).map g), s1) := by
  unfold lcF
  rw [hi]
  dsimp only
  rw [lcL_e h1 h2]
  dsimp only
  rw [if_pos (by rw [List.length_map]; exact Nat.le_trans (List.length_filter_le _ _) hl)]
theorem lc_y (hi : fi env s = some (xs.map enc, s1)) (hl : xs.length ≤ sizeLine) (h2 : ∀ x, x ∈ xs → te ((wipeE env vs).set k (some (enc x))) s1 = some (g x, s1)) :
    lcF fi (tgN k) yesT te vs env s = some (.lst (xs.map g), s1) := by
  have h := lc_e (tt := yesT) (q := fun _ => true) hi hl (fun _ _ => rfl) fun x hx _ => h2 x hx
  rw [h]
  have e : xs.filter (fun _ => true) = xs := List.filter_eq_self.mpr fun _ _ => rfl
  rw [e]
/-- for a, b in pairs -/
theorem lcL_p {w : Env} {enc2 : α → Dt} : ∀ {xs : List α}, (∀ x, x ∈ xs → tt ((w.set k (some (enc x))).set k1 (some (enc2 x))) s = some (q x, s)) → (∀ x, x ∈ xs → q x = true → te ((w.set k (some (enc x))).set k1 (some (enc2 x))) s = some (g x, s)) → lcL (tgP (tgN k) (tgN k1)) tt te w (xs.map fun x => .tup [enc x, enc2 x]) s = some ((xs.filter q).map g, s)
  | [], _, _ => rfl
  | x :: xs, h1, h2 => by
    have ih := lcL_p (xs := xs) (fun x hx => h1 x (List.mem_cons_of_mem _ hx)) fun x hx => h2 x (List.mem_cons_of_mem _ hx)
    rw [List.map_cons]
    unfold lcL
    simp only [tgP, tgN, Option.bind_eq_bind, Option.bind_some]
    rw [h1 x List.mem_cons_self]
    cases hq : q x with
    | true =>
      dsimp only
      rw [h2 x List.mem_cons_self hq]
      dsimp only
      rw [ih, List.filter_cons_of_pos hq]
      rfl
    | false =>
      dsimp only
      rw [ih, List.filter_cons_of_neg (by rw [hq]; exact Bool.false_ne_true)]
theorem lc_p {enc2 : α → Dt} (hi : fi env s = some (xs.map fun x => .tup [enc x, enc2 x], s1)) (hl : xs.length ≤ sizeLine) (h1 : ∀ x, x ∈ xs → tt (((wipeE env vs).set k (some (enc x))).set k1 (some (enc2 x))) s1 = some (q x, s1)) (h2 : ∀ x, x ∈ xs → q x = true → te (((wipeE env vs).set k (some (enc x))).set k1 (some (enc2 x))) s1 = some (g x, s1)) :
    lcF fi (tgP (tgN k) (tgN k1)) tt te vs env s = some (.lst ((xs.filter q).map g), s1) := by
  unfold lcF
  rw [hi]
  dsimp only
  rw [lcL_p h1 h2]
  dsimp only
  rw [if_pos (by rw [List.length_map]; exact Nat.le_trans (List.length_filter_le _ _) hl)]
theorem lc2I_e {w : Env} : ∀ {xs : List α}, (∀ x, x ∈ xs → tt (w.set k (some (enc x))) s = some (q x, s)) → (∀ x, x ∈ xs → q x = true → te (w.set k (some (enc x))) s = some (g x, s)) → lc2I (tgN k) tt te w (xs.map enc) s = some ((xs.filter q).map g, s)
  | [], _, _ => rfl
  | x :: xs, h1, h2 => by
    have ih := lc2I_e (xs := xs) (fun x hx => h1 x (List.mem_cons_of_mem _ hx)) fun x hx => h2 x (List.mem_cons_of_mem _ hx)
    rw [List.map_cons]
    unfold lc2I
    simp only [tgN]
    rw [h1 x List.mem_cons_self]
    cases hq : q x with
    | true =>
      dsimp only
      rw [h2 x List.mem_cons_self hq]
      dsimp only
      rw [ih, List.filter_cons_of_pos hq]
      rfl
    | false =>
      dsimp only
      rw [ih, List.filter_cons_of_neg (by rw [hq]; exact Bool.false_ne_true)]
theorem lc2L_e {w : Env} {enc1 : α → β → Dt} {h : α → List β} {q2 : α → β → Bool} {g2 : α → β → Dt} : ∀ {xs : List α}, (∀ x, x ∈ xs → fi1 (w.set k (some (enc x))) s = some ((h x).map (enc1 x), s)) → (∀ x, x ∈ xs → ∀ y, y ∈ h x → tt ((wipeE (w.set k (some (enc x))) vs1).set k1 (some (enc1 x y))) s = some (q2 x y, s)) →
    (∀ x, x ∈ xs → ∀ y, y ∈ h x → q2 x y = true → te ((wipeE (w.set k (some (enc x))) vs1).set k1 (some (enc1 x y))) s = some (g2 x y, s)) → lc2L (tgN k) fi1 (tgN k1) tt te vs1 w (xs.map enc) s = some (xs.flatMap fun x => ((h x).filter (q2 x)).map (g2 x), s)
  | [], _, _, _ => rfl
  | x :: xs, h0, h1, h2 => by
    have ih := lc2L_e (xs := xs) (fun x hx => h0 x (List.mem_cons_of_mem _ hx)) (fun x hx => h1 x (List.mem_cons_of_mem _ hx)) fun x hx => h2 x (List.mem_cons_of_mem _ hx)
    rw [List.map_cons]
    unfold lc2L
    rw [show tgN k w (enc x) = some (w.set k (some (enc x))) from rfl]
    dsimp only
    have h0' := h0 x List.mem_cons_self
    rw [h0']
    dsimp only
    have hi := lc2I_e (k := k1) (w := wipeE (w.set k (some (enc x))) vs1) (xs := h x) (enc := enc1 x) (h1 x List.mem_cons_self) (h2 x List.mem_cons_self)
    rw [hi]
    dsimp only
    rw [ih]
    rfl
theorem lc2_e {enc1 : α → β → Dt} {h : α → List β} {q2 : α → β → Bool} {g2 : α → β → Dt} (hi : fi env s = some (xs.map enc, s1)) (h0 : ∀ x, x ∈ xs → fi1 ((wipeE env vs).set k (some (enc x))) s1 = some ((h x).map (enc1 x), s1)) (h1 : ∀ x, x ∈ xs → ∀ y, y ∈ h x → tt ((wipeE ((wipeE env vs).set k (some (enc x))) vs1).set k1 (some (enc1 x y))) s1 = some (q2 x y, s1))
    (h2 : ∀ x, x ∈ xs → ∀ y, y ∈ h x → q2 x y = true → te ((wipeE ((wipeE env vs).set k (some (enc x))) vs1).set k1 (some (enc1 x y))) s1 = some (g2 x y, s1)) (hl : (xs.flatMap fun x => ((h x).filter (q2 x)).map (g2 x)).length ≤ sizeLine) :
    lc2F fi (tgN k) fi1 (tgN k1) tt te vs vs1 env s = some (.lst (xs.flatMap fun x => ((h x).filter (q2 x)).map (g2 x)), s1) := by
  unfold lc2F
  rw [hi]
  dsimp only
  rw [lc2L_e h0 h1 h2]
  dsimp only
  rw [if_pos hl]
end
/-! ### loops -/
section
variable {α : Type} {enc : α → Dt} {fi : Fi} {F : Fs} {st : Tg}
theorem loop_pre {xs : List α} (R : List α → Env → Sto → Prop) (Z : Dt → Sto → Prop) (hb : ∀ pre x post env s, xs = pre ++ x :: post → R pre env s → ∃ e1 o s', st env (enc x) = some e1 ∧ F e1 s = some (o, s') ∧ ((∃ e', o = .nx e' ∧ R (pre ++ [x]) e' s') ∨ ∃ d, o = .rt d ∧ Z d s')) :
    ∀ (post pre : List α) (env : Env) (s : Sto), xs = pre ++ post → R pre env s → ∃ o s', loopF st F (post.map enc) env s = some (o, s') ∧ ((∃ e', o = .nx e' ∧ R xs e' s') ∨ ∃ d, o = .rt d ∧ Z d s')
  | [], pre, env, s, e, h => ⟨.nx env, s, rfl, .inl ⟨env, rfl, by rw [e, List.append_nil]; exact h⟩⟩
  | x :: post, pre, env, s, e, h => by
    obtain ⟨e1, o, s1, h0, h1, h2⟩ := hb pre x post env s e h
    rw [List.map_cons]
    unfold loopF
    rw [h0]
    dsimp only
    rw [h1]
    rcases h2 with ⟨e', rfl, h2⟩ | ⟨d, rfl, h2⟩
    · exact loop_pre R Z hb post (pre ++ [x]) e' s1 (by rw [e, List.append_assoc]; rfl) h2
    · exact ⟨_, _, rfl, .inr ⟨d, rfl, h2⟩⟩
/-- for x in xs, no return -/
theorem for_pre {xs : List α} {i : Nat} {env : Env} {s s1 : Sto} (R : List α → Env → Sto → Prop) (hi : fi env s = some (xs.map enc, s1)) (h0 : R [] env s1) (hb : ∀ pre x post env s, xs = pre ++ x :: post → R pre env s → ∃ e' s', F (env.set i (some (enc x))) s = some (.nx e', s') ∧ R (pre ++ [x]) e' s') :
    ∃ e' s', forF fi (tgN i) F env s = some (.nx e', s') ∧ R xs e' s' := by
  obtain ⟨o, s', h1, h2⟩ := loop_pre (st := tgN i) (enc := enc) (xs := xs) R (fun _ _ => False) (fun pre x post env s e h => by
    obtain ⟨e', s', h1, h2⟩ := hb pre x post env s e h
    exact ⟨_, _, _, rfl, h1, .inl ⟨e', rfl, h2⟩⟩) xs [] env s1 rfl h0
  rcases h2 with ⟨e', rfl, h2⟩ | ⟨_, _, h2⟩
  · exact ⟨e', s', by unfold forF; rw [hi]; exact h1, h2⟩
  · exact h2.elim
/-- for x in xs, a turn may return -/
theorem for_ret {xs : List α} {i : Nat} {env : Env} {s s1 : Sto} (R : List α → Env → Sto → Prop) (Z : Dt → Sto → Prop) (hi : fi env s = some (xs.map enc, s1)) (h0 : R [] env s1) (hb : ∀ pre x post env s, xs = pre ++ x :: post → R pre env s → ∃ o s', F (env.set i (some (enc x))) s = some (o, s') ∧ ((∃ e', o = .nx e' ∧ R (pre ++ [x]) e' s') ∨ ∃ d, o = .rt d ∧ Z d s')) :
    ∃ o s', forF fi (tgN i) F env s = some (o, s') ∧ ((∃ e', o = .nx e' ∧ R xs e' s') ∨ ∃ d, o = .rt d ∧ Z d s') := by
  obtain ⟨o, s', h1, h2⟩ := loop_pre (st := tgN i) (enc := enc) (xs := xs) R Z (fun pre x post env s e h => by
    obtain ⟨o, s', h1, h2⟩ := hb pre x post env s e h
    exact ⟨_, _, _, rfl, h1, h2⟩) xs [] env s1 rfl h0
  exact ⟨o, s', by unfold forF; rw [hi]; exact h1, h2⟩
/-- while, by a number that falls -/
theorem while_m {c : Ft} (R : Nat → Env → Sto → Prop) (P : Env → Sto → Prop) (hs : ∀ n env s, R n env s → (c env s = some (false, s) ∧ P env s) ∨ ∃ s1 e' s' m, c env s = some (true, s1) ∧ F env s1 = some (.nx e', s') ∧ m < n ∧ R m e' s') :
    ∀ (n : Nat) (env : Env) (s : Sto), R n env s → ∃ e' s', whileL c F (n + 1) env s = some (.nx e', s') ∧ P e' s' := by
  intro n
  induction n using Nat.strongRecOn with
  | ind n ih =>
    intro env s h
    rcases hs n env s h with ⟨h1, h2⟩ | ⟨s1, e', s', m, h1, h2, h3, h4⟩
    · exact ⟨env, s, by unfold whileL; rw [h1], h2⟩
    · obtain ⟨e2, s2, h5, h6⟩ := ih m h3 e' s' h4
      refine ⟨e2, s2, ?_, h6⟩
      unfold whileL
      rw [h1]
      dsimp only
      rw [h2]
      exact whileL_mono h5 (by omega)
theorem while_e {c : Ft} {n : Nat} {env : Env} {s : Sto} (R : Nat → Env → Sto → Prop) (P : Env → Sto → Prop) (h0 : R n env s) (hn : n < FUEL) (hs : ∀ n env s, R n env s → (c env s = some (false, s) ∧ P env s) ∨ ∃ s1 e' s' m, c env s = some (true, s1) ∧ F env s1 = some (.nx e', s') ∧ m < n ∧ R m e' s') :
    ∃ e' s', whileS c F FUEL env s = some (.nx e', s') ∧ P e' s' := by
  obtain ⟨e', s', h1, h2⟩ := while_m R P hs n env s h0
  exact ⟨e', s', whileL_mono h1 hn, h2⟩
end
end DL
namespace DL
open PySem PySem.Spec PyProof.Rows L2
/-! ### numbers in order -/
theorem insN_mem {x y : Nat} : ∀ {l : List Nat}, y ∈ insN x l ↔ y = x ∨ y ∈ l
  | [] => by simp [insN]
  | z :: r => by
    unfold insN
    split
    · simp
    · simp only [List.mem_cons, insN_mem]
      constructor
      · rintro (h | h | h) <;> simp [h]
      · rintro (h | h | h) <;> simp [h]
theorem sortN_mem {y : Nat} : ∀ {l : List Nat}, y ∈ sortN l ↔ y ∈ l
  | [] => by simp [sortN]
  | x :: r => by
    show y ∈ insN x (sortN r) ↔ _
    rw [insN_mem, sortN_mem, List.mem_cons]
theorem insN_lt {x : Nat} : ∀ {l : List Nat}, x ∉ l → l.Pairwise (· < ·) → (insN x l).Pairwise (· < ·)
  | [], _, _ => List.pairwise_singleton _ _
  | y :: r, hx, h => by
    obtain ⟨h1, h2⟩ := List.pairwise_cons.mp h
    have hne : x ≠ y := fun e => hx (e ▸ List.mem_cons_self)
    unfold insN
    split
    · rename_i c
      refine List.pairwise_cons.mpr ⟨fun b hb => ?_, h⟩
      rcases List.mem_cons.mp hb with rfl | hb
      · omega
      · have := h1 b hb; omega
    · rename_i c
      refine List.pairwise_cons.mpr ⟨fun b hb => ?_, insN_lt (fun z => hx (List.mem_cons_of_mem _ z)) h2⟩
      rcases insN_mem.mp hb with rfl | hb
      · omega
      · exact h1 b hb
theorem sortN_lt : ∀ {l : List Nat}, l.Nodup → (sortN l).Pairwise (· < ·)
  | [], _ => .nil
  | x :: r, h => by
    obtain ⟨h1, h2⟩ := List.nodup_cons.mp h
    exact insN_lt (fun z => h1 (sortN_mem.mp z)) (sortN_lt h2)
theorem insN_len (x : Nat) : ∀ l : List Nat, (insN x l).length = l.length + 1
  | [] => rfl
  | y :: r => by unfold insN; split; · rfl
                 · rw [List.length_cons, insN_len]; rfl
theorem sortN_len : ∀ l : List Nat, (sortN l).length = l.length
  | [] => rfl
  | x :: r => by show (insN x (sortN r)).length = _; rw [insN_len, sortN_len]; rfl
theorem lt_unique : ∀ {a b : List Nat}, a.Pairwise (· < ·) → b.Pairwise (· < ·) → (∀ x, x ∈ a ↔ x ∈ b) → a = b
  | [], [], _, _, _ => rfl
  | [], y :: b, _, _, h => absurd ((h y).mpr List.mem_cons_self) List.not_mem_nil
  | x :: a, [], _, _, h => absurd ((h x).mp List.mem_cons_self) List.not_mem_nil
  | x :: a, y :: b, ha, hb, h => by
    obtain ⟨a1, a2⟩ := List.pairwise_cons.mp ha
    obtain ⟨b1, b2⟩ := List.pairwise_cons.mp hb
    have e : x = y := by
      rcases List.mem_cons.mp ((h x).mp List.mem_cons_self) with e | e
      · exact e
      · rcases List.mem_cons.mp ((h y).mpr List.mem_cons_self) with e' | e'
        · exact e'.symm
        · have := a1 y e'; have := b1 x e; omega
    subst e
    rw [lt_unique a2 b2 fun z => ?_]
    constructor
    · intro hz
      rcases List.mem_cons.mp ((h z).mp (List.mem_cons_of_mem _ hz)) with e | e
      · have := a1 z hz; omega
      · exact e
    · intro hz
      rcases List.mem_cons.mp ((h z).mpr (List.mem_cons_of_mem _ hz)) with e | e
      · have := b1 z hz; omega
      · exact e
/-- sorted of single letters -/
theorem leS_one (a b : Nat) : leS (strW [a]) (strW [b]) ↔ a ≤ b := by
  show ¬ ([b] : List Nat) < [a] ↔ _
  rw [List.cons_lt_cons_iff]
  simp
theorem sortS_ones (l : List Nat) : sortS (l.map fun c => strW [c]) = (sortN l).map fun c => strW [c] := by
  have ins : ∀ (x : Nat) (l : List Nat), insK (fun x => x) (strW [x]) (l.map fun c => strW [c]) = (insN x l).map fun c => strW [c] := by
    intro x l
    induction l with
    | nil => rfl
    | cons y r ih =>
      unfold insN
      rw [List.map_cons]
      unfold insK
      by_cases c : x ≤ y
      · rw [if_pos ((leS_one x y).mpr c), if_pos c]; rfl
      · rw [if_neg (fun z => c ((leS_one x y).mp z)), if_neg c, ih]; rfl
  induction l with
  | nil => rfl
  | cons x r ih =>
    show insK _ (strW [x]) (sortS (r.map fun c => strW [c])) = (insN x (sortN r)).map _
    rw [ih, ins]
/-! ### letters that are reached -/
inductive Rch (E : Ents) : Nat → Nat → Prop
  | one {c d : Nat} : d ∈ lesN E c → Rch E c d
  | more {c d e : Nat} : Rch E c d → e ∈ lesN E d → Rch E c e
theorem Rch.trans {E : Ents} {a b c : Nat} (h : Rch E a b) (h' : Rch E b c) : Rch E a c := by
  induction h' with
  | one h' => exact .more h h'
  | more _ h' ih => exact .more ih h'
/-- lessers are letters, few -/
structure ClE (E : Ents) : Prop where
  ok : OkE E
  cl : ∀ e ∈ E, ∀ d ∈ e.2, d ∈ E.map (·.1)
  n : E.length ≤ 30
  lo : ∀ c ∈ E.map (·.1), 97 ≤ c ∧ c ≤ 122
theorem les_in {E : Ents} {c d : Nat} (h : d ∈ lesN E c) : ∃ e ∈ E, e.1 = c ∧ d ∈ e.2 := by
  unfold lesN at h
  cases q : E.find? fun e => decide (e.1 = c) with
  | none => rw [q] at h; exact absurd h List.not_mem_nil
  | some e =>
    rw [q] at h
    exact ⟨e, List.mem_of_find?_eq_some q, by simpa using List.find?_some q, h⟩
theorem ClE.let {E : Ents} (h : ClE E) {c d : Nat} (hd : d ∈ lesN E c) : d ∈ E.map (·.1) := by
  obtain ⟨e, he, _, hd⟩ := les_in hd
  exact h.cl e he d hd
theorem ClE.few {E : Ents} (h : ClE E) (c : Nat) : (lesN E c).length ≤ 10 := by
  unfold lesN
  cases q : E.find? fun e => decide (e.1 = c) with
  | none => exact Nat.zero_le _
  | some e => exact h.ok.few e (List.mem_of_find?_eq_some q)
theorem ClE.rch {E : Ents} (h : ClE E) {c d : Nat} (hd : Rch E c d) : d ∈ E.map (·.1) := by
  cases hd with
  | one hd => exact h.let hd
  | more _ hd => exact h.let hd
def dfs (E : Ents) : Nat → List Nat → List Nat → List Nat
  | 0, r, _ => r
  | _ + 1, r, [] => r
  | n + 1, r, d :: a => if d ∈ r then dfs E n r a else dfs E n (r ++ [d]) ((lesN E d).reverse ++ a)
def meas (E : Ents) (r a : List Nat) : Nat := (E.length - r.length) * 11 + a.length
structure Dfs (E : Ents) (c : Nat) (r a : List Nat) : Prop where
  nd : r.Nodup
  rr : ∀ x ∈ r, Rch E c x
  ra : ∀ x ∈ a, Rch E c x
  on : ∀ x ∈ r, ∀ d ∈ lesN E x, d ∈ r ∨ d ∈ a
  c0 : ∀ d ∈ lesN E c, d ∈ r ∨ d ∈ a
theorem nodup_le : ∀ {l m : List Nat}, l.Nodup → (∀ x ∈ l, x ∈ m) → l.length ≤ m.length
  | [], _, _, _ => Nat.zero_le _
  | x :: l, m, h, hs => by
    obtain ⟨h1, h2⟩ := List.nodup_cons.mp h
    have ih := nodup_le (m := m.erase x) h2 fun y hy => (List.mem_erase_of_ne (fun e => h1 (by rw [← e]; exact hy))).mpr (hs y (List.mem_cons_of_mem _ hy))
    have hx := hs x List.mem_cons_self
    have := List.length_erase_of_mem hx
    have := List.length_pos_of_mem hx
    rw [List.length_cons]
    omega
theorem Dfs.len {E : Ents} {c : Nat} {r a : List Nat} (h : ClE E) (i : Dfs E c r a) : r.length ≤ E.length := by
  have := nodup_le i.nd fun x hx => h.rch (i.rr x hx)
  rwa [List.length_map] at this
theorem Dfs.skip {E : Ents} {c d : Nat} {r a : List Nat} (i : Dfs E c r (d :: a)) (hd : d ∈ r) : Dfs E c r a := by
  refine ⟨i.nd, i.rr, fun x hx => i.ra x (List.mem_cons_of_mem _ hx), fun x hx e he => ?_, fun e he => ?_⟩
  · rcases i.on x hx e he with z | z
    · exact .inl z
    · rcases List.mem_cons.mp z with rfl | z
      · exact .inl hd
      · exact .inr z
  · rcases i.c0 e he with z | z
    · exact .inl z
    · rcases List.mem_cons.mp z with rfl | z
      · exact .inl hd
      · exact .inr z
theorem Dfs.take {E : Ents} {c d : Nat} {r a : List Nat} (i : Dfs E c r (d :: a)) (hd : d ∉ r) : Dfs E c (r ++ [d]) ((lesN E d).reverse ++ a) := by
  have hr := i.ra d List.mem_cons_self
  have sp : ∀ e, e ∈ r ∨ e ∈ d :: a → e ∈ r ++ [d] ∨ e ∈ (lesN E d).reverse ++ a := fun e z => by
    rcases z with z | z
    · exact .inl (List.mem_append_left _ z)
    · rcases List.mem_cons.mp z with rfl | z
      · exact .inl (List.mem_append_right _ List.mem_cons_self)
      · exact .inr (List.mem_append_right _ z)
  refine ⟨List.nodup_append.mpr ⟨i.nd, (List.pairwise_singleton _ _), fun x hx y hy e => ?_⟩, fun x hx => ?_, fun x hx => ?_, fun x hx e he => ?_, fun e he => sp e (i.c0 e he)⟩
  · rw [List.mem_singleton] at hy
    subst hy e
    exact hd hx
  · rcases List.mem_append.mp hx with z | z
    · exact i.rr x z
    · rw [List.mem_singleton.mp z]; exact hr
  · rcases List.mem_append.mp hx with z | z
    · exact .more hr (List.mem_reverse.mp z)
    · exact i.ra x (List.mem_cons_of_mem _ z)
  · rcases List.mem_append.mp hx with z | z
    · exact sp e (i.on x z e he)
    · rw [List.mem_singleton.mp z] at he
      exact .inr (List.mem_append_left _ (List.mem_reverse.mpr he))
theorem dfs_ok {E : Ents} (h : ClE E) {c : Nat} : ∀ (n : Nat) {r a : List Nat}, Dfs E c r a → meas E r a ≤ n → Dfs E c (dfs E n r a) []
  | 0, r, a, i, hm => by
    have ha : a = [] := by
      unfold meas at hm
      exact List.eq_nil_of_length_eq_zero (by omega)
    subst ha
    exact i
  | n + 1, r, [], i, _ => i
  | n + 1, r, d :: a, i, hm => by
    unfold meas at hm
    rw [List.length_cons] at hm
    unfold dfs
    by_cases hd : d ∈ r
    · rw [if_pos hd]
      exact dfs_ok h n (i.skip hd) (by unfold meas; omega)
    · rw [if_neg hd]
      have j := i.take hd
      have := j.len h
      have := h.few d
      refine dfs_ok h n j ?_
      unfold meas
      rw [List.length_append, List.length_append, List.length_reverse, List.length_singleton] at *
      omega
theorem dfs_start (E : Ents) (c : Nat) : Dfs E c [] (lesN E c).reverse :=
  ⟨.nil, fun x hx => absurd hx List.not_mem_nil, fun x hx => .one (List.mem_reverse.mp hx), fun x hx => absurd hx List.not_mem_nil, fun d hd => .inr (List.mem_reverse.mpr hd)⟩
theorem Dfs.all {E : Ents} {c : Nat} {r : List Nat} (i : Dfs E c r []) (x : Nat) : x ∈ r ↔ Rch E c x := by
  refine ⟨i.rr x, fun h => ?_⟩
  induction h with
  | one h => exact (i.c0 _ h).elim (fun z => z) fun z => absurd z List.not_mem_nil
  | more _ h ih => exact (i.on _ ih _ h).elim (fun z => z) fun z => absurd z List.not_mem_nil
/-- what is below a letter, in order -/
def downN (E : Ents) (c : Nat) : List Nat := sortN (dfs E (E.length * 11 + 10) [] (lesN E c).reverse)
theorem down_dfs {E : Ents} (h : ClE E) (c : Nat) : Dfs E c (dfs E (E.length * 11 + 10) [] (lesN E c).reverse) [] :=
  dfs_ok h _ (dfs_start E c) (by have := h.few c; unfold meas; rw [List.length_reverse]; simp only [List.length_nil]; omega)
theorem down_mem {E : Ents} (h : ClE E) {c x : Nat} : x ∈ downN E c ↔ Rch E c x := by
  unfold downN
  rw [sortN_mem, (down_dfs h c).all]
theorem down_lt {E : Ents} (h : ClE E) (c : Nat) : (downN E c).Pairwise (· < ·) := sortN_lt (down_dfs h c).nd
theorem down_len {E : Ents} (h : ClE E) (c : Nat) : (downN E c).length ≤ E.length := by
  unfold downN
  rw [sortN_len]
  exact (down_dfs h c).len h
end DL
namespace DL
open PySem PySem.Spec PyProof.Rows L2
/-! ### operators on words, numbers, lists of words -/
section
variable {s : Sto} {u v w x y : List Nat} {α : Type} {l : List α} {f : α → List Nat}
theorem cat_w (h : u.length + v.length ≤ 16777215) : addAll s (wd u) (wd v) = some (wd (u ++ v)) := by
  show (if (strW u).length + (strW v).length ≤ sizeLine then some (Dt.str (strW u ++ strW v)) else none) = _
  rw [if_pos (small (by rw [strW_len, strW_len]; exact h)), strW_cat]
  rfl
theorem cat_l {a b : List Dt} (h : a.length + b.length ≤ 16777215) : addAll s (.lst a) (.lst b) = some (.lst (a ++ b)) := if_pos (small h)
theorem cat_t {a b : List Dt} (h : a.length + b.length ≤ 16777215) : addAll s (.tup a) (.tup b) = some (.tup (a ++ b)) := if_pos (small h)
theorem add_nn {a b : Nat} : addAll s (.int ((a : Nat) : Int)) (.int ((b : Nat) : Int)) = some (.int ((a + b : Nat) : Int)) := by
  show some (Dt.int ((a : Int) + (b : Int))) = _
  rw [Int.natCast_add]
theorem add_n1 {a : Nat} : addAll s (.int ((a : Nat) : Int)) (.int 1) = some (.int ((a + 1 : Nat) : Int)) := rfl
theorem sub_nn {a b : Nat} (h : b ≤ a) : subG s (.int ((a : Nat) : Int)) (.int ((b : Nat) : Int)) = some (.int ((a - b : Nat) : Int)) := by
  show some (Dt.int ((a : Int) - (b : Int))) = _
  rw [Int.natCast_sub h]
theorem len_w (h : w.length ≤ 16777215) : lenG s [wd w] = some (.int ((w.length : Nat) : Int)) := if_pos (small h)
theorem len_lst {a : List Dt} : lenG s [.lst a] = some (.int ((a.length : Nat) : Int)) := rfl
theorem len_tup {a : List Dt} : lenG s [.tup a] = some (.int ((a.length : Nat) : Int)) := rfl
theorem len_dct {a : List (Key × Dt)} : lenG s [.dct a] = some (.int ((a.length : Nat) : Int)) := rfl
theorem at_w {k c : Nat} (hl : w.length ≤ 16777215) (hc : w[k]? = some c) : ixA s (wd w) (.int ((k : Nat) : Int)) = some (wd [c]) := by
  show (if (strW w).length ≤ sizeLine then (atI w.toArray.toList ((k : Nat) : Int)).map fun c => Dt.str ⟨#[c]⟩ else none) = _
  rw [if_pos (small (by rw [strW_len]; exact hl)), List.toList_toArray, atI_nat (j := k) hc]
  rfl
theorem at_l {k : Nat} {ds : List Dt} {d : Dt} (hc : ds[k]? = some d) : ixA s (.lst ds) (.int ((k : Nat) : Int)) = some d := ixA_lst hc
theorem at_t {k : Nat} {ds : List Dt} {d : Dt} (hc : ds[k]? = some d) : ixA s (.tup ds) (.int ((k : Nat) : Int)) = some d := ixA_tup hc
theorem eq_ww : eqG s (wd u) (wd v) = some (.bl (decide (u = v))) := by
  show some (Dt.bl (decide (strW u = strW v))) = _
  rw [show decide (strW u = strW v) = decide (u = v) from decide_eq_decide.mpr ⟨strW_inj, fun e => by rw [e]⟩]
theorem ne_ww : neG s (wd u) (wd v) = some (.bl (!decide (u = v))) := by unfold neG; rw [eq_ww]
theorem wd_flat2 (l : List α) (f : α → List Nat) : (l.map fun a => wd (f a)).all flatD = true := by
  induction l with
  | nil => rfl
  | cons x l ih => rw [List.map_cons, List.all_cons, ih]; rfl
theorem any_wd (l : List α) (f : α → List Nat) : ((l.map fun a => wd (f a)).any fun y => eqF y (wd x)) = decide (x ∈ l.map f) := by
  induction l with
  | nil => rfl
  | cons z l ih =>
    rw [List.map_cons, List.any_cons, ih]
    show ((strW (f z)) == strW x || decide (x ∈ l.map f)) = decide (x ∈ (z :: l).map f)
    rw [List.map_cons, Bool.eq_iff_iff, Bool.or_eq_true, decide_eq_true_iff, decide_eq_true_iff, List.mem_cons, beq_iff_eq]
    constructor
    · rintro (h | h)
      · exact .inl (strW_inj h).symm
      · exact .inr h
    · rintro (h | h)
      · exact .inl (by rw [h])
      · exact .inr h
theorem inB_lst : inB s (wd x) (.lst (l.map fun a => wd (f a))) = some (decide (x ∈ l.map f)) := by
  show (if flatD (wd x) = true ∧ (l.map fun a => wd (f a)).all flatD = true then some ((l.map fun a => wd (f a)).any fun y => eqF y (wd x)) else none) = _
  rw [if_pos ⟨rfl, wd_flat2 l f⟩, any_wd]
theorem inB_tup : inB s (wd x) (.tup (l.map fun a => wd (f a))) = some (decide (x ∈ l.map f)) := by
  show (if flatD (wd x) = true ∧ (l.map fun a => wd (f a)).all flatD = true then some ((l.map fun a => wd (f a)).any fun y => eqF y (wd x)) else none) = _
  rw [if_pos ⟨rfl, wd_flat2 l f⟩, any_wd]
theorem in_wl : inA s (wd x) (.lst (l.map fun a => wd (f a))) = some (.bl (decide (x ∈ l.map f))) := by
  show (inB s (wd x) (.lst (l.map fun a => wd (f a)))).map Dt.bl = _
  rw [inB_lst]; rfl
theorem notin_wl : notinA s (wd x) (.lst (l.map fun a => wd (f a))) = some (.bl (!decide (x ∈ l.map f))) := by
  show (inB s (wd x) (.lst (l.map fun a => wd (f a)))).map (fun b => Dt.bl (!b)) = _
  rw [inB_lst]; rfl
theorem in_wt : inA s (wd x) (.tup (l.map fun a => wd (f a))) = some (.bl (decide (x ∈ l.map f))) := by
  show (inB s (wd x) (.tup (l.map fun a => wd (f a)))).map Dt.bl = _
  rw [inB_tup]; rfl
theorem notin_wt : notinA s (wd x) (.tup (l.map fun a => wd (f a))) = some (.bl (!decide (x ∈ l.map f))) := by
  show (inB s (wd x) (.tup (l.map fun a => wd (f a)))).map (fun b => Dt.bl (!b)) = _
  rw [inB_tup]; rfl
theorem bools_mp (p : α → Bool) : ∀ l : List α, bools (l.map fun a => Dt.bl (p a)) = some (l.map p)
  | [] => rfl
  | x :: l => by
    rw [List.map_cons]
    unfold bools
    rw [bools_mp p l]
    rfl
theorem any_bl {p : α → Bool} : anyG s [.lst (l.map fun a => .bl (p a))] = some (.bl (l.any p)) := by
  show (bools _).map _ = _
  rw [bools_mp]
  show some (Dt.bl ((l.map p).any id)) = _
  rw [List.any_map]; rfl
theorem all_bl {p : α → Bool} : allG s [.lst (l.map fun a => .bl (p a))] = some (.bl (l.all p)) := by
  show (bools _).map _ = _
  rw [bools_mp]
  show some (Dt.bl ((l.map p).all id)) = _
  rw [List.all_map]; rfl
/-- in a dict with keys that are words -/
theorem val_some {κ : Type} {l : List κ} {f : κ → List Nat} {g : κ → Dt} {x : List Nat} : (valD (l.map fun a => (.inr (strW (f a)), g a)) (.inr (strW x))).isSome = decide (x ∈ l.map f) := by
  induction l with
  | nil => rfl
  | cons z l ih =>
    rw [List.map_cons, List.map_cons]
    unfold valD at ih ⊢
    rw [List.find?_cons]
    by_cases c : f z = x
    · rw [show decide ((.inr (strW (f z)) : Key) = .inr (strW x)) = true from decide_eq_true (by rw [c])]
      symm
      exact decide_eq_true (by rw [c]; exact List.mem_cons_self)
    · rw [show decide ((.inr (strW (f z)) : Key) = .inr (strW x)) = false from decide_eq_false fun e => c (strW_inj (Sum.inr.inj e))]
      dsimp only
      rw [ih]
      rw [decide_eq_decide]
      constructor
      · exact fun h => List.mem_cons_of_mem _ h
      · intro h
        rcases List.mem_cons.mp h with e | e
        · exact absurd e.symm c
        · exact e
theorem in_kd {κ : Type} {l : List κ} {f : κ → List Nat} {g : κ → Dt} : inA s (wd x) (.dct (l.map fun a => (.inr (strW (f a)), g a))) = some (.bl (decide (x ∈ l.map f))) := by
  show some (Dt.bl (valD _ (.inr (strW x))).isSome) = _
  rw [val_some]
theorem notin_kd {κ : Type} {l : List κ} {f : κ → List Nat} {g : κ → Dt} : notinA s (wd x) (.dct (l.map fun a => (.inr (strW (f a)), g a))) = some (.bl (!decide (x ∈ l.map f))) := by
  show some (Dt.bl (!(valD _ (.inr (strW x))).isSome)) = _
  rw [val_some]
end
theorem ones_mem {d : Nat} {l : List Nat} : [d] ∈ (l.map fun c => [c]) ↔ d ∈ l := by
  constructor
  · intro h
    obtain ⟨c, hc, e⟩ := List.mem_map.mp h
    cases e
    exact hc
  · exact fun h => List.mem_map.mpr ⟨d, h, rfl⟩
/-- single letters -/
abbrev onesD (l : List Nat) : List Dt := l.map fun c => wd [c]
abbrev trD (r : List Nat) : List (Key × Dt) := r.map fun c => (.inr (strW [c]), .bl true)
section
variable {s : Sto} {d : Nat} {l : List Nat} {g : Nat → Dt}
theorem in_l1 : inA s (wd [d]) (.lst (onesD l)) = some (.bl (decide (d ∈ l))) := by rw [in_wl]; simp only [ones_mem]
theorem notin_l1 : notinA s (wd [d]) (.lst (onesD l)) = some (.bl (!decide (d ∈ l))) := by rw [notin_wl]; simp only [ones_mem]
theorem in_t1 : inA s (wd [d]) (.tup (onesD l)) = some (.bl (decide (d ∈ l))) := by rw [in_wt]; simp only [ones_mem]
theorem notin_t1 : notinA s (wd [d]) (.tup (onesD l)) = some (.bl (!decide (d ∈ l))) := by rw [notin_wt]; simp only [ones_mem]
theorem in_k1 : inA s (wd [d]) (.dct (l.map fun c => (.inr (strW [c]), g c))) = some (.bl (decide (d ∈ l))) := by rw [in_kd]; simp only [ones_mem]
theorem notin_k1 : notinA s (wd [d]) (.dct (l.map fun c => (.inr (strW [c]), g c))) = some (.bl (!decide (d ∈ l))) := by rw [notin_kd]; simp only [ones_mem]
end
/-- sets kept as the keys of a dict -/
theorem put_new {κ : Type} {l : List κ} {f : κ → List Nat} {g : κ → Dt} {x : List Nat} {d : Dt} (h : x ∉ l.map f) : putD (l.map fun a => (.inr (strW (f a)), g a)) (.inr (strW x)) d = (l.map fun a => (.inr (strW (f a)), g a)) ++ [(.inr (strW x), d)] := by
  unfold putD
  rw [if_neg]
  intro hc
  obtain ⟨kv, h1, h2⟩ := List.any_eq_true.mp hc
  obtain ⟨a, ha, rfl⟩ := List.mem_map.mp h1
  exact h (List.mem_map.mpr ⟨a, ha, strW_inj (Sum.inr.inj (of_decide_eq_true h2))⟩)
end DL
namespace DL
open PySem PySem.Spec PyProof.Rows L2
local macro_rules | `(tactic| walk_at "op") => `(tactic| first | assumption | with_reducible rfl | exact cat_w (by omega) | exact sub_nn (by omega) | exact add_nn | exact at_w (by omega) (by assumption) | exact len_w (by omega) | exact in_l1 | exact notin_l1 | exact in_t1 | exact notin_t1 | exact in_k1 | exact notin_k1 | exact in_wl | exact notin_wl | exact in_wt | exact notin_wt | exact in_kd | exact notin_kd | exact eq_ww | exact ne_ww | exact any_bl | exact all_bl | rfl)
local macro_rules | `(tactic| walk_at "ev") => `(tactic| first | with_reducible exact c0 | ((with_reducible apply v0); rfl) | with_reducible exact a0 | with_reducible assumption | ((with_reducible apply aCons_ev); (focus walk_at "ev"); (focus walk_at "ev")) | ((with_reducible apply bindA_ev); (focus walk_at "ev"); (focus walk_at "op")) | ((with_reducible apply bind2_ev); (focus walk_at "ev"); (focus walk_at "ev"); (focus walk_at "op")) | ((with_reducible apply bind1_ev); (focus walk_at "ev"); (focus walk_at "op")) | ((with_reducible apply asB_ev); (focus walk_at "ev")) | ((with_reducible apply call_ev); (focus walk_at "ev"); (focus first | assumption | rfl)) | ((with_reducible apply truF_ev); (focus walk_at "ev"); (focus first | assumption | rfl)) | ((with_reducible apply notT_ev); (focus walk_at "ev")) | ((with_reducible apply andT_e); (focus walk_at "ev"); (focus (intro hq; walk_at "ev"))) | ((with_reducible apply orT_e); (focus walk_at "ev"); (focus (intro hq; walk_at "ev"))) | ((with_reducible apply seq_tup); (focus walk_at "ev")) | ((with_reducible apply seq_lst); (focus walk_at "ev")) | ((with_reducible apply seq_str); (focus walk_at "ev")))
/-! ### letters_reached -/
def edD (E : Ents) : Dt := .dct (E.map prD)
theorem get_ed {s : Sto} {E : Ents} {c : Nat} (h : c ∈ E.map (·.1)) : ixA s (edD E) (wd [c]) = some (lesD (lesN E c)) := val_ent h
theorem sorted_ones {s : Sto} {l : List Nat} (h : l.length < 64) : sortedG_ s [.lst (onesD l)] = some (.lst (onesD (sortN l))) := by
  have e : strsOf (onesD l) = some (l.map fun c => strW [c]) := by
    have := strsOf_map (l.map fun c => strW [c])
    rwa [List.map_map] at this
  unfold sortedG_ sortedStrG
  dsimp only
  rw [e]
  dsimp only
  rw [sortS_ones, List.map_map]
  rfl

theorem dfs_down {E : Ents} (h : ClE E) {c : Nat} {r : List Nat} (i : Dfs E c r []) : sortN r = downN E c :=
  lt_unique (sortN_lt i.nd) (down_lt h c) fun x => by rw [sortN_mem, i.all, down_mem h]
theorem reached_ok {E : Ents} (hE : ClE E) {c : Nat} (hc : c ∈ E.map (·.1)) (s : Sto) : Vletters_reached [edD E, wd [c]] s = some (.tup (onesD (downN E c)), s) := by
  refine fn_rt ?_
  have g2 : ixA s (edD E) (wd [c]) = some (lesD (lesN E c)) := get_ed hc
  refine (seq_nx (setN_ev (show 2 < 5 by decide) (d := .dct []) rfl)).trans ((seq_nx (setN_ev (show 3 < 5 by decide) (d := .lst (onesD (lesN E c))) (by walk_at "ev"))).trans ?_)
  have key := while_e (c := truF (fVar 3)) (F := (seqS (popS 3 4) (ifS (asB (bind2 (fVar 4) (fVar 2) notinA)) (seqS (dputS 2 (fVar 4) (fC (.bl true))) (extA 3 (bind2 (fVar 0) (fVar 4) ixA))) skipS))) (s := s)
    (env := [some (edD E), some (wd [c]), some (.dct (trD [])), some (.lst (onesD (lesN E c).reverse.reverse)), none]) (n := meas E [] (lesN E c).reverse)
    (R := fun n env s' => s' = s ∧ ∃ r a x, env = [some (edD E), some (wd [c]), some (.dct (trD r)), some (.lst (onesD a.reverse)), x] ∧ Dfs E c r a ∧ meas E r a = n ∧ n ≤ 1000)
    (P := fun env s' => s' = s ∧ ∃ r x, env = [some (edD E), some (wd [c]), some (.dct (trD r)), some (.lst []), x] ∧ Dfs E c r []) ⟨rfl, [], (lesN E c).reverse, none, rfl, dfs_start E c, rfl, by
    have := hE.n
    have := hE.few c
    unfold meas
    rw [List.length_reverse]
    simp only [List.length_nil]
    omega⟩ (by
    have := hE.n
    have := hE.few c
    unfold meas
    rw [List.length_reverse]
    show _ < 1000000000
    simp only [List.length_nil]
    omega) (by
    rintro n env s' ⟨rfl, r, a, x, rfl, i, hm, hn⟩
    cases a with
    | nil => exact .inl ⟨by walk_at "ev", rfl, r, x, rfl, i⟩
    | cons d a =>
      have hrev : onesD (d :: a).reverse = onesD a.reverse ++ [wd [d]] := by unfold onesD; rw [List.reverse_cons, List.map_append]; rfl
      have ht : truF (fVar 3) [some (edD E), some (wd [c]), some (.dct (trD r)), some (.lst (onesD (d :: a).reverse)), x] s' = some (true, s') := truF_ev (v0 rfl) (by rw [hrev]; simp [truA, truB])
      have hp := (pop_ev (i := 3) (k := 4) (env := [some (edD E), some (wd [c]), some (.dct (trD r)), some (.lst (onesD a.reverse ++ [wd [d]])), x]) (s := s') rfl)
      have hr := i.ra d List.mem_cons_self
      have g3 : ixA s' (edD E) (wd [d]) = some (lesD (lesN E d)) := get_ed (hE.rch hr)
      have gn := notin_k1 (s := s') (d := d) (l := r) (g := fun _ => .bl true)
      have hm' : meas E r a + 1 = meas E r (d :: a) := by unfold meas; rw [List.length_cons]; rfl
      rw [hrev] at ht ⊢
      by_cases hd : d ∈ r
      · rw [decide_eq_true hd] at gn
        exact .inr ⟨s', _, s', _, ht, (seq_nx hp).trans ((if_f (by walk_at "ev")).trans rfl), by omega, rfl, r, a, _, rfl, i.skip hd, rfl, by omega⟩
      · rw [decide_eq_false hd] at gn
        have j := i.take hd
        have hl := j.len hE
        have := hE.n
        have := hE.few d
        rw [List.length_append, List.length_singleton] at hl
        have ex : extA 3 (bind2 (fVar 0) (fVar 4) ixA) [some (edD E), some (wd [c]), some (.dct (trD (r ++ [d]))), some (.lst (onesD a.reverse)), some (wd [d])] s' = some (.nx [some (edD E), some (wd [c]), some (.dct (trD (r ++ [d]))), some (.lst (onesD ((lesN E d).reverse ++ a).reverse)), some (wd [d])], s') := by
          refine (extT_ev (es := onesD (lesN E d)) (ds := onesD a.reverse) (by walk_at "ev") rfl (small ?_)).trans ?_
          · rw [List.length_map, List.length_map, List.length_reverse]
            unfold meas at hm' hm
            rw [List.length_cons] at hm
            omega
          · rw [List.reverse_append, List.reverse_reverse, show onesD (a.reverse ++ lesN E d) = onesD a.reverse ++ onesD (lesN E d) from List.map_append ..]; rfl
        have dp : dputS 2 (fVar 4) (fC (.bl true)) [some (edD E), some (wd [c]), some (.dct (trD r)), some (.lst (onesD a.reverse)), some (wd [d])] s' = some (.nx [some (edD E), some (wd [c]), some (.dct (trD (r ++ [d]))), some (.lst (onesD a.reverse)), some (wd [d])], s') := by
          refine (dput_e (v := .bl true) (kd := wd [d]) (ks := trD r) (key := .inr (strW [d])) (by walk_at "ev") (by walk_at "ev") rfl rfl (small' (by rw [List.length_map]; omega))).trans ?_
          rw [put_new (fun z => hd (ones_mem.mp z)), show trD (r ++ [d]) = trD r ++ trD [d] from List.map_append ..]
          rfl
        refine .inr ⟨s', _, s', _, ht, (seq_nx hp).trans ((if_t (by walk_at "ev")).trans ((seq_nx dp).trans ex)), ?_, rfl, _, _, _, rfl, j, rfl, ?_⟩
        all_goals unfold meas
        all_goals rw [List.length_append, List.length_append, List.length_reverse, List.length_singleton]
        all_goals unfold meas at hm' hm
        all_goals rw [List.length_cons] at hm
        all_goals omega)
  obtain ⟨e', s', h1, rfl, r, x, rfl, i⟩ := key
  rw [List.reverse_reverse] at h1
  refine (seq_nx h1).trans ?_
  have hs := sorted_ones (s := s') (l := r) (by have := i.len hE; have := hE.n; omega)
  rw [dfs_down hE i] at hs
  have hl : toLstG s' [.dct (trD r)] = some (.lst (onesD r)) := by
    show some (Dt.lst ((r.map _).map _)) = _
    rw [List.map_map]; rfl
  exact ret_ev (by walk_at "ev")

end DL
namespace DL
open PySem PySem.Spec PyProof.Rows L2
local macro_rules | `(tactic| walk_at "op") => `(tactic| first | assumption | with_reducible rfl | exact cat_w (by omega) | exact sub_nn (by omega) | exact add_nn | exact at_w (by omega) (by assumption) | exact len_w (by omega) | exact in_l1 | exact notin_l1 | exact in_t1 | exact notin_t1 | exact in_k1 | exact notin_k1 | exact in_wl | exact notin_wl | exact in_wt | exact notin_wt | exact in_kd | exact notin_kd | exact eq_ww | exact ne_ww | exact any_bl | exact all_bl | rfl)
local macro_rules | `(tactic| walk_at "ev") => `(tactic| first | with_reducible exact c0 | ((with_reducible apply v0); rfl) | with_reducible exact a0 | with_reducible assumption | ((with_reducible apply aCons_ev); (focus walk_at "ev"); (focus walk_at "ev")) | ((with_reducible apply bindA_ev); (focus walk_at "ev"); (focus walk_at "op")) | ((with_reducible apply bind2_ev); (focus walk_at "ev"); (focus walk_at "ev"); (focus walk_at "op")) | ((with_reducible apply bind1_ev); (focus walk_at "ev"); (focus walk_at "op")) | ((with_reducible apply asB_ev); (focus walk_at "ev")) | ((with_reducible apply call_ev); (focus walk_at "ev"); (focus first | assumption | rfl)) | ((with_reducible apply truF_ev); (focus walk_at "ev"); (focus first | assumption | rfl)) | ((with_reducible apply notT_ev); (focus walk_at "ev")) | ((with_reducible apply andT_e); (focus walk_at "ev"); (focus (intro hq; walk_at "ev"))) | ((with_reducible apply orT_e); (focus walk_at "ev"); (focus (intro hq; walk_at "ev"))) | ((with_reducible apply seq_tup); (focus walk_at "ev")) | ((with_reducible apply seq_lst); (focus walk_at "ev")) | ((with_reducible apply seq_str); (focus walk_at "ev")))
abbrev bookD (E : Ents) (rs : List Ru) : Dt := .tup [.tup (entL E), .tup (rs.map Ru.d)]
def fallB (E : Ents) : Ru → Bool
  | .put c v _ => decide (v = []) || decide (v ∈ (downN E c).map fun a => [a])
  | _ => true
def okL (E : Ents) : Ru → Prop
  | .put c v _ => c ∈ E.map (·.1) ∧ ∀ a ∈ v, a ∈ E.map (·.1)
  | _ => True
section
variable {E : Ents} {s : Sto}
theorem need_letter_ok (hE : ClE E) (R : Dt) {c : Nat} (hc : c ∈ E.map (·.1)) : Vneed_letter [.tup [.tup (entL E), R], wd [c]] s = some (.non, s) := by
  refine fn_nx (e' := [some (.tup [.tup (entL E), R]), some (wd [c])]) ?_
  have h1 := letters_ok (E := E) R (by have := hE.n; omega) s
  have h2 : notinA s (wd [c]) (.tup (E.map fun e => wd [e.1])) = some (.bl false) := by
    have e : (E.map fun e => wd [e.1]) = onesD (E.map (·.1)) := by rw [onesD, List.map_map]; rfl
    rw [e, notin_t1, decide_eq_true hc]; rfl
  exact (if_f (by walk_at "ev")).trans rfl
theorem below_ok (hE : ClE E) (R : Dt) {c : Nat} (hc : c ∈ E.map (·.1)) : Vletters_below [.tup [.tup (entL E), R], wd [c]] s = some (.tup (onesD (downN E c)), s) := by
  refine fn_rt ?_
  have h1 := need_letter_ok (s := s) hE R hc
  have h2 := (toDct_ent s hE.ok.nd).1
  have h3 := reached_ok hE hc s
  have h4 : ixA s (.tup [.tup (entL E), R]) (.int 0) = some (.tup (entL E)) := rfl
  exact (seq_nx (dropS_ev (by walk_at "ev"))).trans (ret_ev (call_ev (aCons_ev (bindA_ev (aCons_ev (by walk_at "ev") a0) h2) (aCons_ev (by walk_at "ev") a0)) h3))
theorem fall_ok (hE : ClE E) (R : Dt) (r : Ru) (hr : okL E r) : Vdoes_fall [.tup [.tup (entL E), R], r.d] s = some (.bl (fallB E r), s) := by
  refine fn_rt (ret_ev ?_)
  cases r with
  | put c v l =>
    have h1 := below_ok (s := s) hE R hr.1
    have h2 : inA s (wd v) (.tup (onesD (downN E c))) = some (.bl (decide (v ∈ (downN E c).map fun a => [a]))) := in_wt
    have h3 : ixA s (Ru.put c v l).d (.int 1) = some (wd [c]) := rfl
    have h4 : ixA s (Ru.put c v l).d (.int 2) = some (wd v) := rfl
    have h5 : ixA s (Ru.put c v l).d (.int 0) = some (.str "put") := rfl
    have h6 : neG s (.str "put") (.str "put") = some (.bl false) := rfl
    have h7 : eqG s (wd v) (.str "") = some (.bl (decide (v = []))) := eq_ww (v := [])
    exact orV_e (a := false) (by walk_at "ev") fun _ => orV_e (by walk_at "ev") fun _ => by walk_at "ev"
  | drop n l => exact orV_e (a := true) (b := true) (bind2_ev (bind2_ev (v0 rfl) c0 rfl) c0 rfl) fun h => by cases h
  | half l => exact orV_e (a := true) (b := true) (bind2_ev (bind2_ev (v0 rfl) c0 rfl) c0 rfl) fun h => by cases h
  | empty => exact orV_e (a := true) (b := true) (bind2_ev (bind2_ev (v0 rfl) c0 rfl) c0 rfl) fun h => by cases h
  | lower l => exact orV_e (a := true) (b := true) (bind2_ev (bind2_ev (v0 rfl) c0 rfl) c0 rfl) fun h => by cases h
theorem falling_ok (hE : ClE E) (rs : List Ru) (hr : ∀ r ∈ rs, okL E r) (hl : rs.length ≤ 1000) : Vis_falling [bookD E rs] s = some (.bl (rs.all (fallB E)), s) := by
  refine fn_rt (ret_ev (bindA_ev (aCons_ev (lc_y (xs := rs) (enc := Ru.d) (g := fun r => .bl (fallB E r)) (seq_tup (bind2_ev (v0 rfl) c0 rfl)) (small (by omega)) fun r h => ?_) a0) all_bl))
  have := fall_ok (s := s) hE (.tup (rs.map Ru.d)) r (hr r h)
  walk_at "ev"
end

end DL
namespace DL
open PySem PySem.Spec PyProof.Rows L2
def F_law_dip_k18 : Fs := (seqS (setS 2 (bind2 (bind2 (fVar 0) (fC (.str "count")) ixA) (fC (.int 1)) addAll)) (seqS (hputS 0 (fC (.str "count")) (fVar 2)) (seqS (ifS (asB (bind2 (bind2 (fVar 0) (fC (.str "rest")) ixA) (fC (.int 0)) gtG)) (seqS (setS 3 (bind2 (bindA (aCons (bind2 (fVar 0) (fC (.str "rest")) ixA) aNil) intG) (fVar 1) modG)) (seqS (hputS 0 (fC (.str "rest")) (bind2 (bind2 (fVar 0) (fC (.str "rest")) ixA) (fVar 1) divG)) (retS (fVar 3)))) skipS) (seqS (setS 4 (bind2 (fVar 0) (fC (.str "place")) ixA)) (seqS (hputS 0 (fC (.str "place")) (bind2 (fVar 4) (fC (.int 1)) addAll)) (seqS (setS 5 (fC (.int 95319))) (seqS (ifS (asB (bind2 (bind2 (fVar 0) (fC (.str "cells")) ixA) (bindA aNil lstG) neG)) (setS 5 (bind2 (bind2 (fVar 0) (fC (.str "cells")) ixA) (bind2 (bindA (aCons (fVar 4) aNil) intG) (bindA (aCons (bind2 (fVar 0) (fC (.str "cells")) ixA) aNil) lenG) modG) ixA)) skipS) (seqS (ifS (andT (asB (bind2 (fVar 5) (bind2 (fC (.int 10)) (fC (.int 18)) powG) geG)) (asB (bind2 (fVar 4) (bindA (aCons (bind2 (fVar 0) (fC (.str "cells")) ixA) aNil) lenG) ltG))) (seqS (hputS 0 (fC (.str "rest")) (bind2 (fVar 5) (fVar 1) divG)) (retS (bind2 (bindA (aCons (fVar 5) aNil) intG) (fVar 1) modG))) skipS) (seqS (setS 6 (bind2 (bindA (aCons (bind2 (bind2 (bind2 (bind2 (bindA (aCons (fVar 5) aNil) intG) (fC (.int 2147483353)) modG) (bind2 (fC (.int 6029)) (fVar 2) mulG) addAll) (fC (.int 227)) addAll) (fC (.int 3)) powG) aNil) intG) (fC (.int 2147483647)) modG)) (seqS (setS 6 (bind2 (bindA (aCons (bind2 (bind2 (fVar 6) (bind2 (fC (.int 40031)) (fVar 2) mulG) addAll) (fC (.int 5)) powG) aNil) intG) (fC (.int 2147483587)) modG)) (retS (bind2 (bindA (aCons (bind2 (fVar 6) (fC (.int 128)) divG) aNil) intG) (fVar 1) modG))))))))))))
def V_law_dip_k18 : List Dt → Sto → Option (Dt × Sto) := fnV 7 F_law_dip_k18
def F_law_under_k18 : Fs := (seqS (par2S 1 2 (bindA (aCons (bindA (aCons (bind2 (fVar 0) (fC (.int 0)) ixA) aNil) toLstG) aNil) toDctG) emptyG) (seqS (forF (seqF (fVar 1)) (tgN 3) (seqS (par2S 4 5 (bindA (aCons (bind2 (fVar 1) (fVar 3) ixA) aNil) toLstG) (bindA aNil lstG)) (seqS (forF (rngF1 (fC (.int 40))) (tgN 6) (ifS (asB (bind2 (fVar 4) (bindA aNil lstG) neG)) (seqS (popS 4 7) (seqS (extS 5 (ifV (asB (bind2 (fVar 7) (fVar 5) notinA)) (bindA (aCons (fVar 7) aNil) lstG) (bindA aNil lstG))) (extS 4 (bindA (aCons (bind2 (fVar 1) (fVar 7) ixA) aNil) toLstG)))) skipS)) (dputS 2 (fVar 3) (fVar 5))))) (retS (fVar 2))))
def V_law_under_k18 : List Dt → Sto → Option (Dt × Sto) := fnV 8 F_law_under_k18
def F_law_at_most_k18 : Fs := (seqS (setS 3 (fC (.int 0))) (seqS (forF (seqF (fVar 1)) (tgN 4) (seqS (setS 5 (lcF (rngF2 (fVar 3) (bindA (aCons (fVar 2) aNil) lenG)) (tgN 6) (orT (asB (bind2 (bind2 (fVar 2) (fVar 6) ixA) (fVar 4) eqG)) (asB (bind2 (fVar 4) (bind2 (fVar 0) (bind2 (fVar 2) (fVar 6) ixA) ixA) inA))) (fVar 6) [6])) (seqS (ifS (asB (bind2 (fVar 5) (bindA aNil lstG) eqG)) (retS (fC (.bl false))) skipS) (setS 3 (bind2 (bind2 (fVar 5) (fC (.int 0)) ixA) (fC (.int 1)) addAll))))) (retS (fC (.bl true)))))
def V_law_at_most_k18 : List Dt → Sto → Option (Dt × Sto) := fnV 7 F_law_at_most_k18
def F_law_below_k18 : Fs := (retS (andV (bind2 (fVar 1) (fVar 2) neG) (callF V_law_at_most_k18 (aCons (fVar 0) (aCons (fVar 1) (aCons (fVar 2) aNil))))))
def V_law_below_k18 : List Dt → Sto → Option (Dt × Sto) := fnV 3 F_law_below_k18
def Flaw_k18 : Fs := (seqS (setS 2 (callF (V_law_book_k16 V_law_dip_k18) (aCons (fVar 1) (aCons (callF V_law_scenes_k16 aNil) (aCons (callF V_law_menu_k16 aNil) (aCons (callF (V_law_names_k16 V_law_dip_k18) (aCons (fVar 1) aNil)) aNil)))))) (seqS (unpS 3 4 (bindA (aCons (callF V_law_under_k18 (aCons (fVar 2) aNil)) (aCons (fC (.bl true)) aNil)) tupG)) (seqS (forF (seqF (bind2 (fVar 2) (fC (.int 0)) ixA)) (tgN 5) (forF (seqF (callF V_law_steps_k16 (aCons (fVar 2) (aCons (bind2 (fVar 5) (fC (.int 0)) ixA) aNil)))) (tgN 6) (setS 4 (andV (fVar 4) (callF V_law_below_k18 (aCons (fVar 3) (aCons (fVar 6) (aCons (bind2 (fVar 5) (fC (.int 0)) ixA) aNil)))))))) (seqS (ifS (asB (bind2 (bindA (aCons (bindA (aCons (callF Vis_falling (aCons (fVar 2) aNil)) (aCons (callF (fun ds s => Vis_falling (permL [0] ds) s) (aCons (fVar 2) aNil)) aNil)) lstG) aNil) reprG) (bindA (aCons (bindA (aCons (fVar 4) (aCons (fVar 4) aNil)) lstG) aNil) reprG) neG)) (retS (fC (.bl false))) skipS) (seqS (forF (rngF1 (ifV (truF (fVar 4)) (fC (.int 4)) (fC (.int 0)))) (tgN 7) (seqS (setS 8 (callF (V_law_word_k16 V_law_dip_k18) (aCons (fVar 1) (aCons (fVar 2) (aCons (fC (.int 5)) aNil))))) (ifS (asB (bind2 (lcF (seqF (callF Vsteps_of (aCons (fVar 2) (aCons (fVar 8) aNil)))) (tgN 6) (notT (truF (callF V_law_below_k18 (aCons (fVar 3) (aCons (fVar 6) (aCons (fVar 8) aNil)))))) (fVar 6) [6]) (bindA aNil lstG) neG)) (retS (fC (.bl false))) skipS))) (retS (fC (.bl true))))))))
def Elaw_k18 : Fe := (callF V_law_spring_k16 (aCons (fVar 0) aNil))
end DL
namespace DL
open PySem PySem.Spec PyProof.Rows L2
local macro_rules | `(tactic| walk_at "op") => `(tactic| first | assumption | with_reducible rfl | exact cat_w (by omega) | exact sub_nn (by omega) | exact add_nn | exact at_w (by omega) (by assumption) | exact len_w (by omega) | exact in_l1 | exact notin_l1 | exact in_t1 | exact notin_t1 | exact in_k1 | exact notin_k1 | exact in_wl | exact notin_wl | exact in_wt | exact notin_wt | exact in_kd | exact notin_kd | exact eq_ww | exact ne_ww | exact any_bl | exact all_bl | rfl)
local macro_rules | `(tactic| walk_at "ev") => `(tactic| first | with_reducible exact c0 | ((with_reducible apply v0); rfl) | with_reducible exact a0 | with_reducible assumption | ((with_reducible apply aCons_ev); (focus walk_at "ev"); (focus walk_at "ev")) | ((with_reducible apply bindA_ev); (focus walk_at "ev"); (focus walk_at "op")) | ((with_reducible apply bind2_ev); (focus walk_at "ev"); (focus walk_at "ev"); (focus walk_at "op")) | ((with_reducible apply bind1_ev); (focus walk_at "ev"); (focus walk_at "op")) | ((with_reducible apply asB_ev); (focus walk_at "ev")) | ((with_reducible apply call_ev); (focus walk_at "ev"); (focus first | assumption | rfl)) | ((with_reducible apply truF_ev); (focus walk_at "ev"); (focus first | assumption | rfl)) | ((with_reducible apply notT_ev); (focus walk_at "ev")) | ((with_reducible apply andT_e); (focus walk_at "ev"); (focus (intro hq; walk_at "ev"))) | ((with_reducible apply orT_e); (focus walk_at "ev"); (focus (intro hq; walk_at "ev"))) | ((with_reducible apply seq_tup); (focus walk_at "ev")) | ((with_reducible apply seq_lst); (focus walk_at "ev")) | ((with_reducible apply seq_str); (focus walk_at "ev")))
/-! ### lists of words compared with the empty one -/
theorem shaped_wds {α : Type} (f : α → List Nat) : ∀ (l : List α), (∀ x ∈ l, lowc (f x)) → plain (.lst (l.map fun a => wd (f a))) = true ∧ SeqAt.shaped (py (.lst (l.map fun a => wd (f a)))) = true := by
  intro l hl
  have h1 : plains (l.map fun a => wd (f a)) = true := by
    clear hl
    induction l with
    | nil => rfl
    | cons x l ih => simpa [plains, plain, wd] using ih
  have h2 : ∀ l : List α, (∀ x ∈ l, lowc (f x)) → PyData.canLayAll0 (pys (l.map fun a => wd (f a))) = true := by
    intro l
    induction l with
    | nil => exact fun _ => rfl
    | cons x l ih =>
      intro hl
      rw [List.map_cons]
      show (PyData.canLay0 (py (wd (f x))) && _) = true
      rw [Bool.and_eq_true]
      exact ⟨wd_good (hl x List.mem_cons_self), ih fun y hy => hl y (List.mem_cons_of_mem _ hy)⟩
  have h3 : ∀ l : List α, PyData.depthAll (pys (l.map fun a => wd (f a))) = 0 := by
    intro l
    induction l with
    | nil => rfl
    | cons x l ih => simpa [pys, py, PyData.depthAll, PyData.depth, wd] using ih
  refine ⟨by simpa [plain] using h1, ?_⟩
  simp [SeqAt.shaped, py, PyData.canLay0, PyData.depth, h2 l hl, h3 l]
theorem ne_wds {α : Type} {s : Sto} {l : List α} {f : α → List Nat} (h : ∀ x ∈ l, lowc (f x)) : neG s (.lst (l.map fun a => wd (f a))) (.lst []) = some (.bl (!l.isEmpty)) := by
  rw [ne_nil s (shaped_wds f l h).1 (shaped_wds f l h).2]
  cases l <;> rfl
theorem eq_nil (s : Sto) {ds : List Dt} (h1 : plain (.lst ds) = true) (h2 : SeqAt.shaped (py (.lst ds)) = true) : eqG s (.lst ds) (.lst []) = some (.bl ds.isEmpty) := by
  obtain ⟨h3, h4⟩ := shaped_ints []
  unfold eqG
  dsimp only
  rw [if_pos ⟨h1, h3, h2, h4⟩]
  cases ds <;> rfl
theorem eq_wds {α : Type} {s : Sto} {l : List α} {f : α → List Nat} (h : ∀ x ∈ l, lowc (f x)) : eqG s (.lst (l.map fun a => wd (f a))) (.lst []) = some (.bl l.isEmpty) := by
  rw [eq_nil s (shaped_wds f l h).1 (shaped_wds f l h).2]
  cases l <;> rfl
theorem eq_ints {α : Type} {s : Sto} {l : List α} {f : α → Int} : eqG s (.lst (l.map fun a => .int (f a))) (.lst []) = some (.bl l.isEmpty) := by
  have e : (l.map fun a => Dt.int (f a)) = (l.map f).map Dt.int := by rw [List.map_map]; rfl
  rw [e, eq_nil s (shaped_ints _).1 (shaped_ints _).2]
  cases l <;> rfl
/-! ### what is under a letter, by the law -/
def undS (E : Ents) (q : List Nat × List Nat) : List Nat × List Nat := match q.1 with
  | [] => q
  | d :: a => ((lesN E d).reverse ++ a, if d ∈ q.2 then q.2 else q.2 ++ [d])
def undI (E : Ents) (c : Nat) : Nat → List Nat × List Nat
  | 0 => ((lesN E c).reverse, [])
  | n + 1 => undS E (undI E c n)
def undN (E : Ents) (c : Nat) : List Nat := (undI E c 40).2
structure UndI (E : Ents) (n : Nat) (q : List Nat × List Nat) : Prop where
  a : ∀ x ∈ q.1, x ∈ E.map (·.1)
  l1 : q.1.length ≤ 10 * (n + 1)
  l2 : q.2.length ≤ n
theorem undI_ok {E : Ents} (h : ClE E) (c : Nat) : ∀ n, UndI E n (undI E c n)
  | 0 => ⟨fun x hx => h.let (List.mem_reverse.mp hx), by show (lesN E c).reverse.length ≤ _; rw [List.length_reverse]; exact h.few c, Nat.le_refl _⟩
  | n + 1 => by
    have i := undI_ok h c n
    show UndI E (n + 1) (undS E (undI E c n))
    unfold undS
    split
    · exact ⟨i.a, by have := i.l1; omega, by have := i.l2; omega⟩
    · rename_i d a e
      have h1 := i.l1
      have h2 := i.l2
      have h3 := h.few d
      rw [e, List.length_cons] at h1
      refine ⟨fun x hx => ?_, ?_, ?_⟩
      · rcases List.mem_append.mp hx with z | z
        · exact h.let (List.mem_reverse.mp z)
        · exact i.a x (by rw [e]; exact List.mem_cons_of_mem _ z)
      · show ((lesN E d).reverse ++ a).length ≤ _
        rw [List.length_append, List.length_reverse]; omega
      · dsimp only
        split
        · omega
        · rw [List.length_append, List.length_singleton]; omega
def undD (E : Ents) (l : List Nat) : List (Key × Dt) := l.map fun c => (.inr (strW [c]), .lst (onesD (undN E c)))
def underD (E : Ents) : Dt := .dct (undD E (E.map (·.1)))
def bodyU : Fs := (ifS (asB (bind2 (fVar 4) (bindA aNil lstG) neG)) (seqS (popS 4 7) (seqS (extS 5 (ifV (asB (bind2 (fVar 7) (fVar 5) notinA)) (bindA (aCons (fVar 7) aNil) lstG) (bindA aNil lstG))) (extS 4 (bindA (aCons (bind2 (fVar 1) (fVar 7) ixA) aNil) toLstG)))) skipS)
theorem under_in {E : Ents} (h : ClE E) (P Fo : Dt) (c : Nat) (y6 y7 : Option Dt) (s : Sto) : ∃ x6 x7, forF (rngF1 (fC (.int 40))) (tgN 6) bodyU [some P, some (edD E), some Fo, some (wd [c]), some (.lst (onesD (undI E c 0).1.reverse)), some (.lst (onesD (undI E c 0).2)), y6, y7] s = some (.nx [some P, some (edD E), some Fo, some (wd [c]), some (.lst (onesD (undI E c 40).1.reverse)), some (.lst (onesD (undN E c))), x6, x7], s) := by
  obtain ⟨e', s', h1, rfl, x6, x7, rfl⟩ := for_pre (xs := List.range 40) (enc := fun i => .int (0 + (i : Nat))) (i := 6) (F := bodyU) (fi := rngF1 (fC (.int 40))) (s := s) (env := [some P, some (edD E), some Fo, some (wd [c]), some (.lst (onesD (undI E c 0).1.reverse)), some (.lst (onesD (undI E c 0).2)), y6, y7])
    (fun pre env s' => s' = s ∧ ∃ x6 x7, env = [some P, some (edD E), some Fo, some (wd [c]), some (.lst (onesD (undI E c pre.length).1.reverse)), some (.lst (onesD (undI E c pre.length).2)), x6, x7])
    (rng_ev c0 (by decide) (by decide)) ⟨rfl, y6, y7, rfl⟩ (by
    rintro pre k post env s' he ⟨rfl, x6, x7, rfl⟩
    have hn : pre.length < 40 := by
      have := congrArg List.length he
      rw [List.length_range, List.length_append, List.length_cons] at this
      omega
    have i := undI_ok h c pre.length
    rw [List.length_append, List.length_singleton]
    show ∃ e' s'_1, bodyU [some P, some (edD E), some Fo, some (wd [c]), some (.lst (onesD (undI E c pre.length).1.reverse)), some (.lst (onesD (undI E c pre.length).2)), some (.int (0 + (k : Nat))), x7] s' = some (.nx e', s'_1) ∧ s'_1 = s' ∧ ∃ x6 x7, e' = [some P, some (edD E), some Fo, some (wd [c]), some (.lst (onesD (undS E (undI E c pre.length)).1.reverse)), some (.lst (onesD (undS E (undI E c pre.length)).2)), x6, x7]
    generalize undI E c pre.length = q at i ⊢
    obtain ⟨a, b⟩ := q
    have hne := ne_wds (s := s') (l := a.reverse) (f := fun c => [c]) (fun x hx c hc => by
      rw [List.mem_singleton.mp hc]
      exact h.lo x (i.a x (List.mem_reverse.mp hx)))
    cases a with
    | nil => exact ⟨_, s', (if_f (by walk_at "ev")).trans rfl, rfl, _, _, rfl⟩
    | cons d a =>
      have hrev : onesD (d :: a).reverse = onesD a.reverse ++ [wd [d]] := by unfold onesD; rw [List.reverse_cons, List.map_append]; rfl
      have hne' : neG s' (.lst (onesD (d :: a).reverse)) (.lst []) = some (.bl true) := by rw [hne]; simp
      have hl1 := i.l1
      have hl2 := i.l2
      have g3 : ixA s' (edD E) (wd [d]) = some (lesD (lesN E d)) := get_ed (i.a d List.mem_cons_self)
      have g4 : toLstG s' [lesD (lesN E d)] = some (.lst (onesD (lesN E d))) := rfl
      have gn := notin_l1 (s := s') (d := d) (l := b)
      have hf := h.few d
      simp only [List.length_cons] at hl1 hl2
      unfold undS
      dsimp only
      rw [hrev] at hne' ⊢
      have x1 : extS 5 (ifV (asB (bind2 (fVar 7) (fVar 5) notinA)) (bindA (aCons (fVar 7) aNil) lstG) (bindA aNil lstG)) [some P, some (edD E), some Fo, some (wd [c]), some (.lst (onesD a.reverse)), some (.lst (onesD b)), some (.int (0 + (k : Nat))), some (wd [d])] s' = some (.nx [some P, some (edD E), some Fo, some (wd [c]), some (.lst (onesD a.reverse)), some (.lst (onesD (if d ∈ b then b else b ++ [d]))), some (.int (0 + (k : Nat))), some (wd [d])], s') := by
        by_cases hd : d ∈ b
        · rw [decide_eq_true hd] at gn
          rw [if_pos hd]
          refine (ext_ev (es := []) (ds := onesD b) ((ifV_f (by walk_at "ev")).trans rfl) rfl (small (by rw [List.length_map]; simp only [List.length_nil]; omega))).trans ?_
          rw [List.append_nil]; rfl
        · rw [decide_eq_false hd] at gn
          rw [if_neg hd]
          refine (ext_ev (es := [wd [d]]) (ds := onesD b) ((ifV_t (by walk_at "ev")).trans rfl) rfl (small (by rw [List.length_map, List.length_singleton]; omega))).trans ?_
          rw [show onesD (b ++ [d]) = onesD b ++ [wd [d]] from List.map_append ..]; rfl
      have x2 : extS 4 (bindA (aCons (bind2 (fVar 1) (fVar 7) ixA) aNil) toLstG) [some P, some (edD E), some Fo, some (wd [c]), some (.lst (onesD a.reverse)), some (.lst (onesD (if d ∈ b then b else b ++ [d]))), some (.int (0 + (k : Nat))), some (wd [d])] s' = some (.nx [some P, some (edD E), some Fo, some (wd [c]), some (.lst (onesD ((lesN E d).reverse ++ a).reverse)), some (.lst (onesD (if d ∈ b then b else b ++ [d]))), some (.int (0 + (k : Nat))), some (wd [d])], s') := by
        refine (ext_ev (es := onesD (lesN E d)) (ds := onesD a.reverse) (by walk_at "ev") rfl (small (by rw [List.length_map, List.length_map, List.length_reverse]; omega))).trans ?_
        rw [List.reverse_append, List.reverse_reverse, show onesD (a.reverse ++ lesN E d) = onesD a.reverse ++ onesD (lesN E d) from List.map_append ..]; rfl
      exact ⟨_, s', (if_t (by walk_at "ev")).trans ((seq_nx (pop_ev rfl)).trans ((seq_nx x1).trans x2)), rfl, _, _, rfl⟩)
  refine ⟨x6, x7, ?_⟩
  have e : (List.range 40).length = 40 := List.length_range
  rw [e] at h1
  exact h1

end DL
namespace DL
open PySem PySem.Spec PyProof.Rows L2
local macro_rules | `(tactic| walk_at "op") => `(tactic| first | assumption | with_reducible rfl | exact cat_w (by omega) | exact sub_nn (by omega) | exact add_nn | exact at_w (by omega) (by assumption) | exact len_w (by omega) | exact in_l1 | exact notin_l1 | exact in_t1 | exact notin_t1 | exact in_k1 | exact notin_k1 | exact in_wl | exact notin_wl | exact in_wt | exact notin_wt | exact in_kd | exact notin_kd | exact eq_ww | exact ne_ww | exact any_bl | exact all_bl | rfl)
local macro_rules | `(tactic| walk_at "ev") => `(tactic| first | with_reducible exact c0 | ((with_reducible apply v0); rfl) | with_reducible exact a0 | with_reducible assumption | ((with_reducible apply aCons_ev); (focus walk_at "ev"); (focus walk_at "ev")) | ((with_reducible apply bindA_ev); (focus walk_at "ev"); (focus walk_at "op")) | ((with_reducible apply bind2_ev); (focus walk_at "ev"); (focus walk_at "ev"); (focus walk_at "op")) | ((with_reducible apply bind1_ev); (focus walk_at "ev"); (focus walk_at "op")) | ((with_reducible apply asB_ev); (focus walk_at "ev")) | ((with_reducible apply call_ev); (focus walk_at "ev"); (focus first | assumption | rfl)) | ((with_reducible apply truF_ev); (focus walk_at "ev"); (focus first | assumption | rfl)) | ((with_reducible apply notT_ev); (focus walk_at "ev")) | ((with_reducible apply andT_e); (focus walk_at "ev"); (focus (intro hq; walk_at "ev"))) | ((with_reducible apply orT_e); (focus walk_at "ev"); (focus (intro hq; walk_at "ev"))) | ((with_reducible apply seq_tup); (focus walk_at "ev")) | ((with_reducible apply seq_lst); (focus walk_at "ev")) | ((with_reducible apply seq_str); (focus walk_at "ev")))
theorem under_ok {E : Ents} (h : ClE E) (R : Dt) (s : Sto) : V_law_under_k18 [.tup [.tup (entL E), R]] s = some (underD E, s) := by
  refine fn_rt ?_
  let P : Dt := .tup [.tup (entL E), R]
  have g1 := (toDct_ent s h.ok.nd).2
  have g2 : ixA s P (.int 0) = some (.tup (entL E)) := rfl
  have g3 : toLstG s [.tup (entL E)] = some (.lst (entL E)) := rfl
  have hl1 : (entL E).length = E.length := List.length_map ..
  refine (seq_nx (par_ev (x := edD E) (y := .dct []) (s1 := s) (s2 := s) ⟨by simp, by simp⟩ (bindA_ev (aCons_ev (by walk_at "ev") a0) g1) rfl)).trans ?_
  have key := for_pre (xs := E.map (·.1)) (enc := fun c => wd [c]) (i := 3) (F := (seqS (par2S 4 5 (bindA (aCons (bind2 (fVar 1) (fVar 3) ixA) aNil) toLstG) (bindA aNil lstG)) (seqS (forF (rngF1 (fC (.int 40))) (tgN 6) bodyU) (dputS 2 (fVar 3) (fVar 5))))) (fi := seqF (fVar 1)) (s := s)
    (env := [some P, some (edD E), some (.dct []), none, none, none, none, none])
    (fun pre env s' => s' = s ∧ ∃ x3 x4 x5 x6 x7, env = [some P, some (edD E), some (.dct (undD E pre)), x3, x4, x5, x6, x7])
    ((seq_dct (v0 rfl)).trans (by rw [List.map_map, List.map_map]; rfl)) ⟨rfl, none, none, none, none, none, rfl⟩ (by
    rintro pre c post env s' he ⟨rfl, x3, x4, x5, x6, x7, rfl⟩
    have hc : c ∈ E.map (·.1) := by rw [he]; exact List.mem_append_right _ List.mem_cons_self
    have hpre : pre.length < 100 := by
      have := congrArg List.length he
      have := h.n
      rw [List.length_map, List.length_append, List.length_cons] at *
      omega
    have hnp : c ∉ pre := fun hm => by
      have := h.ok.nd
      rw [he] at this
      exact (List.nodup_append.mp this).2.2 c hm c List.mem_cons_self rfl
    have g4 : ixA s' (edD E) (wd [c]) = some (lesD (lesN E c)) := get_ed hc
    have g5 : toLstG s' [lesD (lesN E c)] = some (.lst (onesD (lesN E c))) := rfl
    have a1 : par2S 4 5 (bindA (aCons (bind2 (fVar 1) (fVar 3) ixA) aNil) toLstG) (bindA aNil lstG) [some P, some (edD E), some (.dct (undD E pre)), some (wd [c]), x4, x5, x6, x7] s' = some (.nx [some P, some (edD E), some (.dct (undD E pre)), some (wd [c]), some (.lst (onesD (undI E c 0).1.reverse)), some (.lst (onesD (undI E c 0).2)), x6, x7], s') := by
      rw [show (undI E c 0).1.reverse = lesN E c from List.reverse_reverse _]
      exact par_ev (x := .lst (onesD (lesN E c))) (y := .lst []) (s1 := s') ⟨by simp, by simp⟩ (by walk_at "ev") rfl
    obtain ⟨z6, z7, a2⟩ := under_in h P (.dct (undD E pre)) c x6 x7 s'
    have a3 : dputS 2 (fVar 3) (fVar 5) [some P, some (edD E), some (.dct (undD E pre)), some (wd [c]), some (.lst (onesD (undI E c 40).1.reverse)), some (.lst (onesD (undN E c))), z6, z7] s' = some (.nx [some P, some (edD E), some (.dct (undD E (pre ++ [c]))), some (wd [c]), some (.lst (onesD (undI E c 40).1.reverse)), some (.lst (onesD (undN E c))), z6, z7], s') := by
      refine (dput_e (kd := wd [c]) (v := .lst (onesD (undN E c))) (ks := undD E pre) (key := .inr (strW [c])) (by walk_at "ev") (by walk_at "ev") rfl rfl (small' (by unfold undD; rw [List.length_map]; omega))).trans ?_
      unfold undD
      rw [put_new (fun z => hnp (ones_mem.mp z)), List.map_append]
      rfl
    exact ⟨_, s', (seq_nx a1).trans ((seq_nx a2).trans a3), rfl, _, _, _, _, _, rfl⟩)
  obtain ⟨e', s', h1, rfl, x3, x4, x5, x6, x7, rfl⟩ := key
  exact (seq_nx h1).trans (ret_ev (v0 rfl))
/-! ### whether one is at most the other, by the law -/
def fitU (E : Ents) (a c : Nat) : Bool := decide (c = a) || decide (a ∈ undN E c)
/-- the places from at on that fit, the first one taken -/
def gat (E : Ents) (v : List Nat) : List Nat → Nat → Bool
  | [], _ => true
  | a :: u, at_ => match ((List.range (v.length - at_)).filter fun k => fitU E a (v.getD (at_ + k) 0)).head? with
    | none => false
    | some k => gat E v u (at_ + k + 1)
theorem gat_cons (E : Ents) (v : List Nat) (a : Nat) (u : List Nat) (k : Nat) : gat E v (a :: u) k = match ((List.range (v.length - k)).filter fun j => fitU E a (v.getD (k + j) 0)).head? with
    | none => false
    | some j => gat E v u (k + j + 1) := rfl
theorem get_und {E : Ents} {c : Nat} (s : Sto) (h : c ∈ E.map (·.1)) : ixA s (underD E) (wd [c]) = some (.lst (onesD (undN E c))) := by
  show valD (undD E (E.map (·.1))) (.inr (strW [c])) = _
  generalize E.map (·.1) = l at h
  unfold undD
  induction l with
  | nil => exact absurd h List.not_mem_nil
  | cons d l ih =>
    rw [List.map_cons]
    unfold valD at ih ⊢
    rw [List.find?_cons]
    by_cases e : d = c
    · subst e
      rw [show decide ((.inr (strW [d]) : Key) = .inr (strW [d])) = true from decide_eq_true rfl]
      rfl
    · rw [show decide ((.inr (strW [d]) : Key) = .inr (strW [c])) = false from decide_eq_false fun z => e (by have := strW_inj (Sum.inr.inj z); cases this; rfl)]
      exact ih ((List.mem_cons.mp h).elim (fun z => absurd z.symm e) fun z => z)
theorem most_ok {E : Ents} (h : ClE E) {u v : List Nat} (hv : ∀ c ∈ v, c ∈ E.map (·.1)) (hl : v.length ≤ 1000) (s : Sto) : V_law_at_most_k18 [underD E, wd u, wd v] s = some (.bl (gat E v u 0), s) := by
  refine fn_rt ((seq_nx (set_ev c0)).trans ?_)
  have key := for_ret (xs := u) (enc := fun c => wd [c]) (i := 4) (F := (seqS (setS 5 (lcF (rngF2 (fVar 3) (bindA (aCons (fVar 2) aNil) lenG)) (tgN 6) (orT (asB (bind2 (bind2 (fVar 2) (fVar 6) ixA) (fVar 4) eqG)) (asB (bind2 (fVar 4) (bind2 (fVar 0) (bind2 (fVar 2) (fVar 6) ixA) ixA) inA))) (fVar 6) [6])) (seqS (ifS (asB (bind2 (fVar 5) (bindA aNil lstG) eqG)) (retS (fC (.bl false))) skipS) (setS 3 (bind2 (bind2 (fVar 5) (fC (.int 0)) ixA) (fC (.int 1)) addAll)))))
    (fi := seqF (fVar 1)) (s := s) (env := [some (underD E), some (wd u), some (wd v), some (.int 0), none, none, none])
    (fun pre env s' => s' = s ∧ ∃ (k : Nat) (x4 x5 x6 : Option Dt) (post : List Nat), u = pre ++ post ∧ env = [some (underD E), some (wd u), some (wd v), some (.int (k : Int)), x4, x5, x6] ∧ k ≤ v.length ∧ gat E v u 0 = gat E v post k)
    (fun d s' => d = .bl false ∧ s' = s ∧ gat E v u 0 = false)
    (seq_str (v0 rfl)) ⟨rfl, 0, none, none, none, u, rfl, rfl, Nat.zero_le _, rfl⟩ (by
    rintro pre a post env s' he ⟨rfl, k, x4, x5, x6, post', he', rfl, hk, hg⟩
    have hp : post' = a :: post := List.append_cancel_left (he'.symm.trans he)
    subst hp
    have hlen := len_w (s := s') (w := v) (by omega)
    have hcomp : lcF (rngF2 (fVar 3) (bindA (aCons (fVar 2) aNil) lenG)) (tgN 6) (orT (asB (bind2 (bind2 (fVar 2) (fVar 6) ixA) (fVar 4) eqG)) (asB (bind2 (fVar 4) (bind2 (fVar 0) (bind2 (fVar 2) (fVar 6) ixA) ixA) inA))) (fVar 6) [6] [some (underD E), some (wd u), some (wd v), some (.int (k : Int)), some (wd [a]), x5, x6] s'
        = some (.lst (((List.range (v.length - k)).filter fun j => fitU E a (v.getD (k + j) 0)).map fun j => .int ((k + j : Nat) : Int)), s') := by
      refine lc_e (xs := List.range (v.length - k)) (enc := fun j => .int ((k : Int) + (j : Nat))) (s1 := s') ?_ (small (by rw [List.length_range]; omega)) (fun j hj => ?_) (fun j hj _ => ?_)
      · refine (rng2_ev (a := (k : Int)) (b := ((v.length : Nat) : Int)) (v0 rfl) (by walk_at "ev") ⟨by omega, by omega, by omega, by omega⟩).trans ?_
        rw [show ((v.length : Int) - (k : Int)).toNat = v.length - k by omega]
      · have hj' := List.mem_range.mp hj
        have hlt : k + j < v.length := by omega
        have e1 : v[k + j]? = some (v.getD (k + j) 0) := by rw [List.getD_eq_getElem?_getD, List.getElem?_eq_getElem hlt]; rfl
        have g1 := at_w (s := s') (w := v) (by omega) e1
        have hm : v.getD (k + j) 0 ∈ E.map (·.1) := hv _ (List.mem_of_getElem? e1)
        have g2 := get_und s' hm
        have g3 := eq_ww (s := s') (u := [v.getD (k + j) 0]) (v := [a])
        have g4 := in_l1 (s := s') (d := a) (l := undN E (v.getD (k + j) 0))
        rw [show ((k + j : Nat) : Int) = (k : Int) + (j : Nat) from Int.natCast_add ..] at g1
        refine (orT_e (a := decide ([v.getD (k + j) 0] = [a])) (b := decide (a ∈ undN E (v.getD (k + j) 0))) (by walk_at "ev") (fun _ => by walk_at "ev")).trans ?_
        unfold fitU
        simp only [List.cons.injEq, and_true]
      · exact (v0 rfl).trans (by rw [Int.natCast_add])
    have hq := eq_ints (s := s') (l := (List.range (v.length - k)).filter fun j => fitU E a (v.getD (k + j) 0)) (f := fun j => ((k + j : Nat) : Int))
    rw [gat_cons] at hg
    cases hd : ((List.range (v.length - k)).filter fun j => fitU E a (v.getD (k + j) 0)) with
    | nil =>
      rw [hd] at hcomp hq hg
      refine ⟨_, s', (seq_nx (set_ev hcomp)).trans (seq_rt ((if_t (by walk_at "ev")).trans rfl)), .inr ⟨_, rfl, rfl, rfl, hg⟩⟩
    | cons j r =>
      rw [hd] at hcomp hq hg
      have hj : j < v.length - k := by
        have : j ∈ (List.range (v.length - k)).filter fun j => fitU E a (v.getD (k + j) 0) := by rw [hd]; exact List.mem_cons_self
        exact List.mem_range.mp (List.mem_filter.mp this).1
      have g5 : ixA s' (.lst ((j :: r).map fun j => .int ((k + j : Nat) : Int))) (.int 0) = some (.int ((k + j : Nat) : Int)) := at_l (k := 0) rfl
      refine ⟨_, s', (seq_nx (set_ev hcomp)).trans ((seq_nx ((if_f (by walk_at "ev")).trans rfl)).trans (set_ev (by walk_at "ev"))), .inl ⟨_, rfl, rfl, k + j + 1, _, _, _, post, by rw [he, List.append_assoc]; rfl, rfl, by omega, hg⟩⟩)
  obtain ⟨o, s', h1, h2⟩ := key
  rcases h2 with ⟨e', rfl, rfl, k, x4, x5, x6, post, he, rfl, _, hg⟩ | ⟨d, rfl, rfl, rfl, hg⟩
  · have hp : post = [] := by
      have := congrArg List.length he
      rw [List.length_append] at this
      exact List.eq_nil_of_length_eq_zero (by omega)
    subst hp
    rw [hg]
    exact (seq_nx h1).trans (ret_ev c0)
  · rw [hg]
    exact seq_rt h1

end DL
namespace DL
open PySem PySem.Spec PyProof.Rows L2
local macro_rules | `(tactic| walk_at "op") => `(tactic| first | assumption | with_reducible rfl | exact cat_w (by omega) | exact sub_nn (by omega) | exact add_nn | exact at_w (by omega) (by assumption) | exact len_w (by omega) | exact in_l1 | exact notin_l1 | exact in_t1 | exact notin_t1 | exact in_k1 | exact notin_k1 | exact in_wl | exact notin_wl | exact in_wt | exact notin_wt | exact in_kd | exact notin_kd | exact eq_ww | exact ne_ww | exact any_bl | exact all_bl | rfl)
local macro_rules | `(tactic| walk_at "ev") => `(tactic| first | with_reducible exact c0 | ((with_reducible apply v0); rfl) | with_reducible exact a0 | with_reducible assumption | ((with_reducible apply aCons_ev); (focus walk_at "ev"); (focus walk_at "ev")) | ((with_reducible apply bindA_ev); (focus walk_at "ev"); (focus walk_at "op")) | ((with_reducible apply bind2_ev); (focus walk_at "ev"); (focus walk_at "ev"); (focus walk_at "op")) | ((with_reducible apply bind1_ev); (focus walk_at "ev"); (focus walk_at "op")) | ((with_reducible apply asB_ev); (focus walk_at "ev")) | ((with_reducible apply call_ev); (focus walk_at "ev"); (focus first | assumption | rfl)) | ((with_reducible apply truF_ev); (focus walk_at "ev"); (focus first | assumption | rfl)) | ((with_reducible apply notT_ev); (focus walk_at "ev")) | ((with_reducible apply andT_e); (focus walk_at "ev"); (focus (intro hq; walk_at "ev"))) | ((with_reducible apply orT_e); (focus walk_at "ev"); (focus (intro hq; walk_at "ev"))) | ((with_reducible apply seq_tup); (focus walk_at "ev")) | ((with_reducible apply seq_lst); (focus walk_at "ev")) | ((with_reducible apply seq_str); (focus walk_at "ev")))
/-! ### one embeds into the other -/
inductive Emb (P : Nat → Nat → Prop) : List Nat → List Nat → Prop
  | nil (v : List Nat) : Emb P [] v
  | skip {c : Nat} {u v : List Nat} : Emb P u v → Emb P u (c :: v)
  | take {a c : Nat} {u v : List Nat} : P a c → Emb P u v → Emb P (a :: u) (c :: v)
section
variable {P : Nat → Nat → Prop}
theorem Emb.pre {u v : List Nat} (h : Emb P u v) : ∀ x : List Nat, Emb P u (x ++ v)
  | [] => h
  | _ :: x => .skip (h.pre x)
theorem Emb.of_drop {u v : List Nat} {m : Nat} (h : Emb P u (v.drop m)) : Emb P u v := by
  have := h.pre (v.take m)
  rwa [List.take_append_drop] at this
theorem Emb.app {a b c d : List Nat} (h : Emb P a b) (h' : Emb P c d) : Emb P (a ++ c) (b ++ d) := by
  induction h with
  | nil v => exact h'.pre v
  | skip _ ih => exact .skip ih
  | take p _ ih => exact .take p ih
theorem Emb.refl (hp : ∀ c, P c c) : ∀ w : List Nat, Emb P w w
  | [] => .nil []
  | c :: w => .take (hp c) (Emb.refl hp w)
theorem Emb.head {a : Nat} {u v : List Nat} (h : Emb P (a :: u) v) : ∃ j, j < v.length ∧ P a (v.getD j 0) ∧ Emb P u (v.drop (j + 1)) := by
  generalize hx : a :: u = x at h
  induction h with
  | nil v => cases hx
  | @skip c u' v _ ih =>
    obtain ⟨j, h1, h2, h3⟩ := ih hx
    exact ⟨j + 1, by rw [List.length_cons]; omega, h2, h3⟩
  | @take a' c u' v p h _ =>
    cases hx
    exact ⟨0, by rw [List.length_cons]; omega, p, h⟩
end
theorem gat_emb {E : Ents} {v : List Nat} : ∀ {u : List Nat} {k : Nat}, Emb (fun a c => fitU E a c = true) u (v.drop k) → gat E v u k = true
  | [], _, _ => rfl
  | a :: u, k, h => by
    obtain ⟨j, h1, h2, h3⟩ := h.head
    rw [List.length_drop] at h1
    have hg : (v.drop k).getD j 0 = v.getD (k + j) 0 := by rw [List.getD_eq_getElem?_getD, List.getD_eq_getElem?_getD, List.getElem?_drop]
    rw [hg] at h2
    rw [gat_cons, List.head?_filter]
    cases q : (List.range (v.length - k)).find? fun j => fitU E a (v.getD (k + j) 0) with
    | none =>
      have := List.find?_eq_none.mp q j (List.mem_range.mpr h1)
      exact absurd h2 this
    | some j0 =>
      dsimp only
      have hle : j0 ≤ j := by
        rcases Nat.lt_or_ge j j0 with z | z
        · obtain ⟨_, _, h6⟩ := List.find?_range_eq_some.mp q
          have := h6 j z
          rw [h2] at this; cases this
        · exact z
      refine gat_emb ?_
      have e : (v.drop (k + j0 + 1)).drop (j - j0) = (v.drop k).drop (j + 1) := by
        rw [List.drop_drop, List.drop_drop]; congr 1; omega
      exact Emb.of_drop (m := j - j0) (e ▸ h3)
/-! ### falling rules lead down -/
structure FitE (E : Ents) : Prop where
  cl : ClE E
  un : ∀ c ∈ E.map (·.1), ∀ a, a ∈ undN E c ↔ a ∈ downN E c
section
variable {E : Ents}
theorem fit_refl (c : Nat) : fitU E c c = true := by unfold fitU; simp
theorem fit_down (h : FitE E) {a c : Nat} (hc : c ∈ E.map (·.1)) (ha : a ∈ downN E c) : fitU E a c = true := by
  unfold fitU
  rw [decide_eq_true ((h.un c hc a).mpr ha), Bool.or_true]
theorem split_at {w : List Nat} {k : Nat} (h : k < w.length) : w = w.take k ++ [w.getD k 0] ++ w.drop (k + 1) := by
  have e : w.getD k 0 = w[k] := by rw [List.getD_eq_getElem?_getD, List.getElem?_eq_getElem h]; rfl
  rw [e, List.append_assoc, List.singleton_append, ← List.drop_eq_getElem_cons h, List.take_append_drop]
theorem res_emb (h : FitE E) {w : List Nat} (hw : ∀ c ∈ w, c ∈ E.map (·.1)) (r : Ru) (hf : fallB E r = true) : ∀ x ∈ resN E w r, Emb (fun a c => fitU E a c = true) x w := by
  have rf := Emb.refl (P := fun a c => fitU E a c = true) fit_refl
  intro x hx
  cases r with
  | drop n l =>
    obtain ⟨k, hk, rfl⟩ := List.mem_map.mp hx
    have e : w.take k ++ w.drop k = w := List.take_append_drop k w
    have := (rf (w.take k)).app (Emb.of_drop (m := n) (v := w.drop k) (by rw [List.drop_drop]; exact rf _))
    rwa [e] at this
  | half l =>
    rw [List.mem_singleton.mp hx]
    cases l with
    | true =>
      have := (rf (w.take (w.length / 2))).app (Emb.nil (w.drop (w.length / 2)))
      rwa [List.append_nil, List.take_append_drop] at this
    | false => exact Emb.of_drop (m := w.length - w.length / 2) (rf _)
  | empty =>
    rw [List.mem_singleton.mp hx]
    exact .nil w
  | lower l =>
    obtain ⟨k, hk, hx⟩ := List.mem_flatMap.mp hx
    obtain ⟨c, hc, rfl⟩ := List.mem_map.mp hx
    have hk2 := pos_lt hk
    have hm : w.getD k 0 ∈ w := by
      rw [List.getD_eq_getElem?_getD, List.getElem?_eq_getElem hk2]; exact List.getElem_mem _
    have hd : c ∈ downN E (w.getD k 0) := (down_mem h.cl).mpr (.one hc)
    have := ((rf (w.take k)).app (Emb.take (fit_down h (hw _ hm) hd) (Emb.nil []))).app (rf (w.drop (k + 1)))
    rwa [← split_at hk2] at this
  | put c v l =>
    obtain ⟨k, hk, rfl⟩ := List.mem_map.mp hx
    obtain ⟨hk1, hk3⟩ := List.mem_filter.mp hk
    have hk2 := pos_lt hk1
    have e : w.getD k 0 = c := by rw [List.getD_eq_getElem?_getD, of_decide_eq_true hk3]; rfl
    have hm : c ∈ w := List.mem_of_getElem? (of_decide_eq_true hk3)
    have hv : Emb (fun a c => fitU E a c = true) v [w.getD k 0] := by
      have hf' : (decide (v = []) || decide (v ∈ (downN E c).map fun a => [a])) = true := hf
      rw [Bool.or_eq_true, decide_eq_true_iff, decide_eq_true_iff] at hf'
      rcases hf' with rfl | hf'
      · exact .nil _
      · obtain ⟨a, ha, rfl⟩ := List.mem_map.mp hf'
        rw [e]
        exact .take (fit_down h (hw _ hm) ha) (.nil [])
    have := ((rf (w.take k)).app hv).app (rf (w.drop (k + 1)))
    rwa [← split_at hk2] at this
theorem once_iff {w x : List Nat} : ∀ {l acc : List (List Nat)}, x ∈ onceN w acc l ↔ x ∈ acc ∨ (x ∈ l ∧ x ≠ w)
  | [], acc => by simp [onceN]
  | y :: l, acc => by
    show x ∈ onceN w (if y = w ∨ y ∈ acc then acc else acc ++ [y]) l ↔ _
    rw [once_iff]
    by_cases c : y = w ∨ y ∈ acc
    · rw [if_pos c]
      constructor
      · rintro (h | ⟨h1, h2⟩)
        · exact .inl h
        · exact .inr ⟨List.mem_cons_of_mem _ h1, h2⟩
      · rintro (h | ⟨h1, h2⟩)
        · exact .inl h
        · rcases List.mem_cons.mp h1 with rfl | h1
          · exact c.elim (fun z => absurd z h2) fun z => .inl z
          · exact .inr ⟨h1, h2⟩
    · rw [if_neg c]
      have cw : y ≠ w := fun z => c (.inl z)
      constructor
      · rintro (h | ⟨h1, h2⟩)
        · rcases List.mem_append.mp h with h | h
          · exact .inl h
          · rw [List.mem_singleton.mp h]; exact .inr ⟨List.mem_cons_self, cw⟩
        · exact .inr ⟨List.mem_cons_of_mem _ h1, h2⟩
      · rintro (h | ⟨h1, h2⟩)
        · exact .inl (List.mem_append_left _ h)
        · rcases List.mem_cons.mp h1 with rfl | h1
          · exact .inl (List.mem_append_right _ List.mem_cons_self)
          · exact .inr ⟨h1, h2⟩
theorem steps_mem {w x : List Nat} {rs : List Ru} : x ∈ onceN w [] (everyN E w rs) ↔ (∃ r ∈ rs, x ∈ resN E w r) ∧ x ≠ w := by
  rw [once_iff, everyN, List.mem_flatMap]
  simp
end
/-! ### what is drawn keeps to all this -/
theorem ent_cl : ∀ t ∈ tables, ∀ f ∈ firsts, ∀ e ∈ entN t f, ∀ d ∈ e.2, d ∈ (entN t f).map (·.1) := by decide +kernel
theorem ent_und : ∀ t ∈ tables, ∀ f ∈ firsts, ∀ c ∈ (entN t f).map (·.1), sortN (undN (entN t f) c) = downN (entN t f) c := by decide +kernel
def okLb (E : Ents) : Ru → Bool
  | .put c v _ => decide (c ∈ E.map (·.1)) && v.all fun a => decide (a ∈ E.map (·.1))
  | _ => true
theorem okL_of {E : Ents} {r : Ru} (h : okLb E r = true) : okL E r := by
  cases r with
  | put c v l =>
    unfold okLb at h
    rw [Bool.and_eq_true, decide_eq_true_iff, List.all_eq_true] at h
    exact ⟨h.1, fun a ha => of_decide_eq_true (h.2 a ha)⟩
  | _ => exact trivial
theorem ru_fit : ∀ t ∈ tables, ∀ f ∈ firsts, ∀ g ∈ signs, fitG f g = true → okLb (entN t f) (ruOf t g) = true := by decide +kernel
def oneB (E : Ents) (r : Ru) : Bool := (E.map (·.1)).all fun c => (resN E [c] r).all fun x => decide (x = [c]) || gat E [c] x 0
theorem ru_one : ∀ t ∈ tables, ∀ f ∈ firsts, ∀ g ∈ signs, fitG f g = true → oneB (entN t f) (ruOf t g) = fallB (entN t f) (ruOf t g) := by decide +kernel
theorem fit_ent {t f : Str} (ht : t ∈ tables) (hf : f ∈ firsts) : FitE (entN t f) := by
  obtain ⟨h1, h2, h3, h4, h5⟩ := ent_ok ht hf
  refine ⟨⟨⟨h1, h2⟩, ent_cl t ht f hf, by omega, fun c hc => ?_⟩, fun c hc a => ?_⟩
  · obtain ⟨e, he, rfl⟩ := List.mem_map.mp hc
    exact h3 e he
  · rw [← ent_und t ht f hf c hc, sortN_mem]

end DL
namespace DL
open PySem PySem.Spec PyProof.Rows L2
local macro_rules | `(tactic| walk_at "op") => `(tactic| first | assumption | with_reducible rfl | exact cat_w (by omega) | exact sub_nn (by omega) | exact add_nn | exact at_w (by omega) (by assumption) | exact len_w (by omega) | exact in_l1 | exact notin_l1 | exact in_t1 | exact notin_t1 | exact in_k1 | exact notin_k1 | exact in_wl | exact notin_wl | exact in_wt | exact notin_wt | exact in_kd | exact notin_kd | exact eq_ww | exact ne_ww | exact any_bl | exact all_bl | rfl)
local macro_rules | `(tactic| walk_at "ev") => `(tactic| first | with_reducible exact c0 | ((with_reducible apply v0); rfl) | with_reducible exact a0 | with_reducible assumption | ((with_reducible apply aCons_ev); (focus walk_at "ev"); (focus walk_at "ev")) | ((with_reducible apply bindA_ev); (focus walk_at "ev"); (focus walk_at "op")) | ((with_reducible apply bind2_ev); (focus walk_at "ev"); (focus walk_at "ev"); (focus walk_at "op")) | ((with_reducible apply bind1_ev); (focus walk_at "ev"); (focus walk_at "op")) | ((with_reducible apply asB_ev); (focus walk_at "ev")) | ((with_reducible apply call_ev); (focus walk_at "ev"); (focus first | assumption | rfl)) | ((with_reducible apply truF_ev); (focus walk_at "ev"); (focus first | assumption | rfl)) | ((with_reducible apply notT_ev); (focus walk_at "ev")) | ((with_reducible apply andT_e); (focus walk_at "ev"); (focus (intro hq; walk_at "ev"))) | ((with_reducible apply orT_e); (focus walk_at "ev"); (focus (intro hq; walk_at "ev"))) | ((with_reducible apply seq_tup); (focus walk_at "ev")) | ((with_reducible apply seq_lst); (focus walk_at "ev")) | ((with_reducible apply seq_str); (focus walk_at "ev")))
/-! ### a tape: a list of four cells -/
def tpl (l : List Int) (y z u : Int) : List Dt := [.lst (l.map .int), .int y, .int z, .int u]
theorem ixH {p : Addr} {xs : List Dt} {k : Nat} {d : Dt} (h : xs[k]? = some d) : ixA [(p, .lst xs)] (.ref p) (.int ((k : Nat) : Int)) = some d := by
  have e : ixA [(p, .lst xs)] (.ref p) (.int ((k : Nat) : Int)) = atI xs ((k : Nat) : Int) := by simp [ixA, dctOf, ixG, List.lookup]
  rw [e]
  exact atI_nat h
theorem getH {env : Env} {p : Addr} {xs : List Dt} {k : Nat} {d : Dt} {i : Nat} {c : Int} (h : env[i]? = some (some (.ref p))) (hc : c = ((k : Nat) : Int)) (hv : xs[k]? = some d) : bind2 (fVar i) (fC (.int c)) ixA env [(p, .lst xs)] = some (d, [(p, .lst xs)]) := by
  subst hc
  exact bind2_ev (v0 h) c0 (ixH hv)
theorem putH {env : Env} {p : Addr} {xs ys : List Dt} {d : Dt} {i : Nat} {c : Int} {fv : Fe} (h : env[i]? = some (some (.ref p))) (hf : fv env [(p, .lst xs)] = some (d, [(p, .lst xs)])) (hp : setI xs c d = some ys) : hputL i (fC (.int c)) fv env [(p, .lst xs)] = some (.nx env, [(p, .lst ys)]) := by
  unfold hputL
  rw [hf]
  dsimp only
  rw [c0, h]
  dsimp only
  have : ([(p, Dt.lst xs)] : Sto).lookup p = some (.lst xs) := by simp [List.lookup]
  rw [this]
  dsimp only
  rw [hp]
  simp
def drwF (q0 m1 q1 q2 m2 q3 q4 m3 : Int) : Fs := (seqS (hputL 0 (fC (.int 3)) (bind2 (bind2 (fVar 0) (fC (.int 3)) ixA) (fC (.int 1)) addAll)) (seqS (ifS (asB (bind2 (bind2 (fVar 0) (fC (.int 2)) ixA) (fC (.int 0)) gtG)) (seqS (setS 2 (bind2 (bindA (aCons (bind2 (fVar 0) (fC (.int 2)) ixA) aNil) intG) (fVar 1) modG)) (seqS (hputL 0 (fC (.int 2)) (bind2 (bind2 (fVar 0) (fC (.int 2)) ixA) (fVar 1) divG)) (retS (fVar 2)))) skipS) (seqS (setS 3 (bind2 (fVar 0) (fC (.int 1)) ixA)) (seqS (hputL 0 (fC (.int 1)) (bind2 (fVar 3) (fC (.int 1)) addAll)) (seqS (setS 4 (ifV (asB (bind2 (bind2 (fVar 0) (fC (.int 0)) ixA) (bindA aNil lstG) neG)) (bind2 (bind2 (fVar 0) (fC (.int 0)) ixA) (bind2 (bindA (aCons (fVar 3) aNil) intG) (bindA (aCons (bind2 (fVar 0) (fC (.int 0)) ixA) aNil) lenG) modG) ixA) (fC (.int q0)))) (seqS (ifS (andT (asB (bind2 (fVar 4) (bind2 (fC (.int 10)) (fC (.int 18)) powG) geG)) (asB (bind2 (fVar 3) (bindA (aCons (bind2 (fVar 0) (fC (.int 0)) ixA) aNil) lenG) ltG))) (seqS (hputL 0 (fC (.int 2)) (bind2 (fVar 4) (fVar 1) divG)) (retS (bind2 (bindA (aCons (fVar 4) aNil) intG) (fVar 1) modG))) skipS) (seqS (setS 5 (bind2 (bindA (aCons (bind2 (bind2 (bind2 (bind2 (bindA (aCons (fVar 4) aNil) intG) (fC (.int m1)) modG) (bind2 (fC (.int q1)) (bind2 (fVar 0) (fC (.int 3)) ixA) mulG) addAll) (fC (.int q2)) addAll) (fC (.int 3)) powG) aNil) intG) (fC (.int m2)) modG)) (seqS (setS 5 (bind2 (bindA (aCons (bind2 (bind2 (bind2 (fVar 5) (bind2 (bind2 (fC (.int q3)) (bind2 (fVar 0) (fC (.int 3)) ixA) mulG) (bind2 (fVar 0) (fC (.int 3)) ixA) mulG) addAll) (fC (.int q4)) addAll) (fC (.int 5)) powG) aNil) intG) (fC (.int m3)) modG)) (retS (bind2 (bindA (aCons (bind2 (fVar 5) (fC (.int 64)) divG) aNil) intG) (fVar 1) modG))))))))))
theorem log_le {b : Int} {k : Nat} (h : b.natAbs < 2 ^ (k + 1)) : b.natAbs.log2 ≤ k := by
  by_cases hb : b.natAbs = 0
  · rw [hb]; exact Nat.zero_le _
  · exact Nat.le_of_lt_succ ((Nat.log2_lt hb).mpr h)
theorem drw_ok {q0 m1 q1 q2 m2 q3 q4 m3 : Int} (k1 : 0 ≤ q1 ∧ q1 < 65536) (k2 : 0 ≤ q2 ∧ q2 < 65536) (k3 : 0 ≤ q3 ∧ q3 < 65536) (k4 : 0 ≤ q4 ∧ q4 < 65536) (j1 : 0 < m1 ∧ m1 < 2147483648) (j2 : 0 < m2 ∧ m2 < 2147483648) (j3 : 0 < m3) {l : List Int} {y z u m : Int} {p : Addr} (hm : 0 < m) (hm2 : m < 1073741824) (hu : 0 ≤ u) (hu2 : u < 1048576) :
    ∃ r y' z', (fnV 6 (drwF q0 m1 q1 q2 m2 q3 q4 m3)) [.ref p, .int m] [(p, .lst (tpl l y z u))] = some (.int r, [(p, .lst (tpl l y' z' (u + 1)))]) ∧ 0 ≤ r ∧ r < m := by
  have md : ∀ a : Int, 0 ≤ a % m ∧ a % m < m := fun a => ⟨Int.emod_nonneg _ (by omega), Int.emod_lt_of_pos _ hm⟩
  have modm : ∀ (s : Sto) (a : Int), modG s (.int a) (.int m) = some (.int (a % m)) := fun s a => if_pos hm
  have divm : ∀ (s : Sto) (a : Int), divG s (.int a) (.int m) = some (.int (a / m)) := fun s a => if_pos ⟨hm, hm2⟩
  suffices h : ∃ r y' z', (drwF q0 m1 q1 q2 m2 q3 q4 m3) [some (.ref p), some (.int m), none, none, none, none] [(p, .lst (tpl l y z u))] = some (.rt (.int r), [(p, .lst (tpl l y' z' (u + 1)))]) ∧ 0 ≤ r ∧ r < m by
    obtain ⟨r, y', z', h1, h2⟩ := h
    exact ⟨r, y', z', fn_rt h1, h2⟩
  unfold drwF
  have g0 : ∀ {env : Env} {l y z u}, env[0]? = some (some (.ref p)) → bind2 (fVar 0) (fC (.int 0)) ixA env [(p, .lst (tpl l y z u))] = some (.lst (l.map .int), [(p, .lst (tpl l y z u))]) := fun h => getH (k := 0) h rfl rfl
  have g1 : ∀ {env : Env} {l y z u}, env[0]? = some (some (.ref p)) → bind2 (fVar 0) (fC (.int 1)) ixA env [(p, .lst (tpl l y z u))] = some (.int y, [(p, .lst (tpl l y z u))]) := fun h => getH (k := 1) h rfl rfl
  have g2 : ∀ {env : Env} {l y z u}, env[0]? = some (some (.ref p)) → bind2 (fVar 0) (fC (.int 2)) ixA env [(p, .lst (tpl l y z u))] = some (.int z, [(p, .lst (tpl l y z u))]) := fun h => getH (k := 2) h rfl rfl
  have g3 : ∀ {env : Env} {l y z u}, env[0]? = some (some (.ref p)) → bind2 (fVar 0) (fC (.int 3)) ixA env [(p, .lst (tpl l y z u))] = some (.int u, [(p, .lst (tpl l y z u))]) := fun h => getH (k := 3) h rfl rfl
  rw [seq_nx (putH (ys := tpl l y z (u + 1)) rfl (bind2_ev (g3 rfl) c0 rfl) rfl)]
  have e1 : ∀ (env : Env), env[0]? = some (some (.ref p)) → asB (bind2 (bind2 (fVar 0) (fC (.int 2)) ixA) (fC (.int 0)) gtG) env [(p, .lst (tpl l y z (u + 1)))] = some (decide (0 < z), [(p, .lst (tpl l y z (u + 1)))]) := fun env he => asB_ev (bind2_ev (g2 he) c0 rfl)
  by_cases hz : 0 < z
  · have e2 := e1 [some (.ref p), some (.int m), none, none, none, none] rfl
    rw [decide_eq_true hz] at e2
    refine ⟨z % m, y, z / m, ?_, md z⟩
    refine seq_rt ((if_t e2).trans ?_)
    refine (seq_nx (set_ev (bind2_ev (bindA_ev (aCons_ev (g2 rfl) a0) rfl) (v0 rfl) (modm _ _)))).trans ?_
    refine (seq_nx (putH (ys := tpl l y (z / m) (u + 1)) rfl (bind2_ev (g2 rfl) (v0 rfl) (divm _ _)) rfl)).trans ?_
    exact ret_ev (v0 rfl)
  · have e2 := e1 [some (.ref p), some (.int m), none, none, none, none] rfl
    rw [decide_eq_false hz] at e2
    rw [seq_nx ((if_f e2).trans rfl)]
    rw [seq_nx (set_ev (g1 rfl))]
    rw [seq_nx (putH (ys := tpl l (y + 1) z (u + 1)) rfl (bind2_ev (v0 rfl) c0 rfl) rfl)]
    have hlen : ∀ s : Sto, lenG s [.lst (l.map Dt.int)] = some (.int ((l.length : Nat) : Int)) := fun s => by
      show some (Dt.int ((l.map Dt.int).length : Nat)) = _
      rw [List.length_map]
    have cell : ∃ c, ifV (asB (bind2 (bind2 (fVar 0) (fC (.int 0)) ixA) (bindA aNil lstG) neG)) (bind2 (bind2 (fVar 0) (fC (.int 0)) ixA) (bind2 (bindA (aCons (fVar 3) aNil) intG) (bindA (aCons (bind2 (fVar 0) (fC (.int 0)) ixA) aNil) lenG) modG) ixA) (fC (.int q0)) [some (.ref p), some (.int m), none, some (.int y), none, none] [(p, .lst (tpl l (y + 1) z (u + 1)))] = some (.int c, [(p, .lst (tpl l (y + 1) z (u + 1)))]) := by
      have t : asB (bind2 (bind2 (fVar 0) (fC (.int 0)) ixA) (bindA aNil lstG) neG) [some (.ref p), some (.int m), none, some (.int y), none, none] [(p, .lst (tpl l (y + 1) z (u + 1)))] = some (!l.isEmpty, [(p, .lst (tpl l (y + 1) z (u + 1)))]) :=
        asB_ev (bind2_ev (g0 rfl) (bindA_ev a0 (z := .lst []) (if_pos (show ([] : List Dt).length ≤ sizeLine from Nat.zero_le _))) (ne_cells _ l))
      cases hl : l.isEmpty with
      | true => rw [hl] at t; exact ⟨q0, (ifV_f t).trans c0⟩
      | false =>
        rw [hl] at t
        obtain ⟨c, hc⟩ := atI_mod (l := l) (fun z => by rw [z] at hl; cases hl) y
        have hpos : (0 : Int) < ((l.length : Nat) : Int) := by
          cases l with
          | nil => cases hl
          | cons => rw [List.length_cons]; omega
        refine ⟨c, (ifV_t t).trans (bind2_ev (g0 rfl) (bind2_ev (x := .int y) (y := .int ((l.length : Nat) : Int)) (bindA_ev (aCons_ev (v0 rfl) a0) rfl) (bindA_ev (aCons_ev (g0 rfl) a0) (hlen _)) (if_pos hpos)) ?_)⟩
        exact hc
    obtain ⟨c, hc⟩ := cell
    rw [show ([some (.ref p), some (.int m), none, none, none, none] : Env).set 3 (some (.int y)) = [some (.ref p), some (.int m), none, some (.int y), none, none] from rfl, seq_nx (set_ev hc), show ([some (.ref p), some (.int m), none, some (.int y), none, none] : Env).set 4 (some (.int c)) = [some (.ref p), some (.int m), none, some (.int y), some (.int c), none] from rfl]
    have c18 : bind2 (fC (.int 10)) (fC (.int 18)) powG = fun (_ : Env) (s : Sto) => some (.int 1000000000000000000, s) := by
      funext env s
      exact bind2_ev c0 c0 rfl
    have e8 : andT (asB (bind2 (fVar 4) (bind2 (fC (.int 10)) (fC (.int 18)) powG) geG)) (asB (bind2 (fVar 3) (bindA (aCons (bind2 (fVar 0) (fC (.int 0)) ixA) aNil) lenG) ltG)) [some (.ref p), some (.int m), none, some (.int y), some (.int c), none] [(p, .lst (tpl l (y + 1) z (u + 1)))]
        = some (decide ((1000000000000000000 : Int) ≤ c) && decide (y < l.length), [(p, .lst (tpl l (y + 1) z (u + 1)))]) :=
      andT_e (asB_ev (bind2_ev (v0 rfl) (show bind2 (fC (.int 10)) (fC (.int 18)) powG _ _ = _ by rw [c18]) rfl)) fun _ => asB_ev (bind2_ev (v0 rfl) (bindA_ev (aCons_ev (g0 rfl) a0) (hlen _)) rfl)
    cases q : decide ((1000000000000000000 : Int) ≤ c) && decide (y < l.length) with
    | true =>
      rw [q] at e8
      refine ⟨c % m, y + 1, c / m, ?_, md c⟩
      exact seq_rt ((if_t e8).trans ((seq_nx (putH (ys := tpl l (y + 1) (c / m) (u + 1)) rfl (bind2_ev (v0 rfl) (v0 rfl) (divm _ _)) rfl)).trans (ret_ev (bind2_ev (bindA_ev (aCons_ev (v0 rfl) a0) rfl) (v0 rfl) (modm _ _)))))
    | false =>
      rw [q] at e8
      rw [seq_nx ((if_f e8).trans rfl)]
      have d1 := Int.emod_nonneg c (show m1 ≠ 0 by omega)
      have d2 := Int.emod_lt_of_pos c j1.1
      have b1 : q1 * (u + 1) ≤ 65536 * 1048577 := Int.mul_le_mul (by omega) (by omega) (by omega) (by decide)
      have b0 : 0 ≤ q1 * (u + 1) := Int.mul_nonneg k1.1 (by omega)
      have b3 : q3 * (u + 1) ≤ 65536 * 1048577 := Int.mul_le_mul (by omega) (by omega) (by omega) (by decide)
      have b2 : 0 ≤ q3 * (u + 1) := Int.mul_nonneg k3.1 (by omega)
      have b5 : q3 * (u + 1) * (u + 1) ≤ 65536 * 1048577 * 1048577 := Int.mul_le_mul b3 (by omega) (by omega) (by decide)
      have b4 : 0 ≤ q3 * (u + 1) * (u + 1) := Int.mul_nonneg b2 (by omega)
      have w1 : ∀ s : Sto, mulG s (.int q1) (.int (u + 1)) = some (.int (q1 * (u + 1))) := fun s => if_pos (by
        have h5 : (u + 1).natAbs.log2 ≤ 30 := log_le (by omega)
        have h6 : q1.natAbs.log2 ≤ 16 := log_le (by omega)
        omega)
      have w2 : ∀ s : Sto, powG s (.int (c % m1 + q1 * (u + 1) + q2)) (.int 3) = some (.int ((c % m1 + q1 * (u + 1) + q2) ^ 3)) := fun s => if_pos ⟨by decide, by decide, by omega⟩
      have w3 : ∀ s : Sto, mulG s (.int q3) (.int (u + 1)) = some (.int (q3 * (u + 1))) := fun s => if_pos (by
        have h5 : (u + 1).natAbs.log2 ≤ 30 := log_le (by omega)
        have h6 : q3.natAbs.log2 ≤ 16 := log_le (by omega)
        omega)
      have w4 : ∀ s : Sto, mulG s (.int (q3 * (u + 1))) (.int (u + 1)) = some (.int (q3 * (u + 1) * (u + 1))) := fun s => if_pos (by
        have h5 : (u + 1).natAbs.log2 ≤ 30 := log_le (by omega)
        have h6 : (q3 * (u + 1)).natAbs.log2 ≤ 60 := log_le (by omega)
        omega)
      have x1 : modG [] (.int ((c % m1 + q1 * (u + 1) + q2) ^ 3)) (.int m2) = some (.int ((c % m1 + q1 * (u + 1) + q2) ^ 3 % m2)) := if_pos j2.1
      generalize hv : (c % m1 + q1 * (u + 1) + q2) ^ 3 % m2 = v at x1
      have d3 : 0 ≤ v := by rw [← hv]; exact Int.emod_nonneg _ (by omega)
      have d4 : v < m2 := by rw [← hv]; exact Int.emod_lt_of_pos _ j2.1
      have w5 : ∀ s : Sto, powG s (.int (v + q3 * (u + 1) * (u + 1) + q4)) (.int 5) = some (.int ((v + q3 * (u + 1) * (u + 1) + q4) ^ 5)) := fun s => if_pos ⟨by decide, by decide, by omega⟩
      refine ⟨((v + q3 * (u + 1) * (u + 1) + q4) ^ 5 % m3 / 64) % m, y + 1, z, ?_, md _⟩
      refine (seq_nx (set_ev (bind2_ev (bindA_ev (aCons_ev (bind2_ev (bind2_ev (bind2_ev (bind2_ev (bindA_ev (aCons_ev (v0 rfl) a0) rfl) c0 (if_pos j1.1)) (bind2_ev c0 (g3 rfl) (w1 _)) rfl) c0 rfl) c0 (w2 _)) a0) rfl) c0 x1))).trans ?_
      refine (seq_nx (set_ev (bind2_ev (bindA_ev (aCons_ev (bind2_ev (bind2_ev (bind2_ev (v0 rfl) (bind2_ev (bind2_ev c0 (g3 rfl) (w3 _)) (g3 rfl) (w4 _)) rfl) c0 rfl) c0 (w5 _)) a0) rfl) c0 (if_pos j3)))).trans ?_
      exact ret_ev (bind2_ev (bindA_ev (aCons_ev (bind2_ev (v0 rfl) c0 rfl) a0) rfl) (v0 rfl) (modm _ _))
/-- the store holds a tape of which at most n numbers were drawn -/
def SpL (p : Addr) (n : Nat) (s : Sto) : Prop := ∃ l y z u, s = [(p, .lst (tpl l y z u))] ∧ 0 ≤ u ∧ u ≤ (n : Int)
theorem drw_of {dp : Fn} {q0 m1 q1 q2 m2 q3 q4 m3 : Int} (e : dp = fnV 6 (drwF q0 m1 q1 q2 m2 q3 q4 m3)) (k1 : 0 ≤ q1 ∧ q1 < 65536) (k2 : 0 ≤ q2 ∧ q2 < 65536) (k3 : 0 ≤ q3 ∧ q3 < 65536) (k4 : 0 ≤ q4 ∧ q4 < 65536) (j1 : 0 < m1 ∧ m1 < 2147483648) (j2 : 0 < m2 ∧ m2 < 2147483648) (j3 : 0 < m3) : Dip dp SpL where
  draw := fun {p n s m} ⟨l, y, z, u, e1, h1, h2⟩ hn hm hm2 => by
    subst e e1
    obtain ⟨r, y', z', e, r1, r2⟩ := drw_ok k1 k2 k3 k4 j1 j2 j3 (q0 := q0) (l := l) (y := y) (z := z) (p := p) hm hm2 h1 (by omega)
    exact ⟨r, _, e, r1, r2, l, y', z', u + 1, rfl, by omega, by omega⟩
  mono := fun {p n m s} ⟨l, y, z, u, e, h1, h2⟩ hm => ⟨l, y, z, u, e, h1, by omega⟩

end DL
namespace DL
open PySem PySem.Spec PyProof.Rows L2
local macro_rules | `(tactic| walk_at "op") => `(tactic| first | assumption | with_reducible rfl | exact cat_w (by omega) | exact sub_nn (by omega) | exact add_nn | exact at_w (by omega) (by assumption) | exact len_w (by omega) | exact in_l1 | exact notin_l1 | exact in_t1 | exact notin_t1 | exact in_k1 | exact notin_k1 | exact in_wl | exact notin_wl | exact in_wt | exact notin_wt | exact in_kd | exact notin_kd | exact eq_ww | exact ne_ww | exact any_bl | exact all_bl | rfl)
local macro_rules | `(tactic| walk_at "ev") => `(tactic| first | with_reducible exact c0 | ((with_reducible apply v0); rfl) | with_reducible exact a0 | with_reducible assumption | ((with_reducible apply aCons_ev); (focus walk_at "ev"); (focus walk_at "ev")) | ((with_reducible apply bindA_ev); (focus walk_at "ev"); (focus walk_at "op")) | ((with_reducible apply bind2_ev); (focus walk_at "ev"); (focus walk_at "ev"); (focus walk_at "op")) | ((with_reducible apply bind1_ev); (focus walk_at "ev"); (focus walk_at "op")) | ((with_reducible apply asB_ev); (focus walk_at "ev")) | ((with_reducible apply call_ev); (focus walk_at "ev"); (focus first | assumption | rfl)) | ((with_reducible apply truF_ev); (focus walk_at "ev"); (focus first | assumption | rfl)) | ((with_reducible apply notT_ev); (focus walk_at "ev")) | ((with_reducible apply andT_e); (focus walk_at "ev"); (focus (intro hq; walk_at "ev"))) | ((with_reducible apply orT_e); (focus walk_at "ev"); (focus (intro hq; walk_at "ev"))) | ((with_reducible apply seq_tup); (focus walk_at "ev")) | ((with_reducible apply seq_lst); (focus walk_at "ev")) | ((with_reducible apply seq_str); (focus walk_at "ev")))
variable {dp : Fn} {Sp : Addr → Nat → Sto → Prop}
/-! ### comprehensions that draw -/
section
variable {α : Type} {enc : α → Dt} {te : Fe} {tt : Ft} {fi : Fi} {w env : Env} {k : Nat} {vs : List Nat} {s s1 : Sto} {p : Addr}
theorem lcL_sp (Q : Dt → Prop) (c N : Nat) : ∀ {xs : List α} {n : Nat} {s : Sto}, Sp p n s → n + c * xs.length ≤ N → (∀ x, x ∈ xs → ∀ n s, Sp p n s → n + c ≤ N → ∃ d s', te (w.set k (some (enc x))) s = some (d, s') ∧ Q d ∧ Sp p (n + c) s') →
    ∃ ds s', lcL (tgN k) yesT te w (xs.map enc) s = some (ds, s') ∧ ds.length = xs.length ∧ (∀ d ∈ ds, Q d) ∧ Sp p (n + c * xs.length) s'
  | [], n, s, h, _, _ => ⟨[], s, rfl, rfl, fun d hd => absurd hd List.not_mem_nil, h⟩
  | x :: xs, n, s, h, hn, hs => by
    rw [List.length_cons, Nat.mul_succ] at hn
    obtain ⟨d, s1, e1, q1, h1⟩ := hs x List.mem_cons_self n s h (by omega)
    obtain ⟨ds, s2, e2, l2, q2, h2⟩ := lcL_sp Q c N (xs := xs) (n := n + c) h1 (by omega) fun y hy => hs y (List.mem_cons_of_mem _ hy)
    refine ⟨d :: ds, s2, ?_, by rw [List.length_cons, l2, List.length_cons], fun z hz => (List.mem_cons.mp hz).elim (fun e => e ▸ q1) (q2 z), by rw [List.length_cons, Nat.mul_succ]; rw [show n + (c * xs.length + c) = n + c + c * xs.length by omega]; exact h2⟩
    rw [List.map_cons]
    unfold lcL
    simp only [tgN, yesT]
    rw [e1]
    dsimp only
    rw [e2]
theorem lc_sp (Q : Dt → Prop) (c N : Nat) {xs : List α} {n : Nat} (hi : fi env s = some (xs.map enc, s1)) (hl : xs.length ≤ 16777215) (h : Sp p n s1) (hn : n + c * xs.length ≤ N) (hs : ∀ x, x ∈ xs → ∀ n s, Sp p n s → n + c ≤ N → ∃ d s', te ((wipeE env vs).set k (some (enc x))) s = some (d, s') ∧ Q d ∧ Sp p (n + c) s') :
    ∃ ds s', lcF fi (tgN k) yesT te vs env s = some (.lst ds, s') ∧ ds.length = xs.length ∧ (∀ d ∈ ds, Q d) ∧ Sp p (n + c * xs.length) s' := by
  obtain ⟨ds, s', e, l, q, h'⟩ := lcL_sp (te := te) (w := wipeE env vs) (k := k) Q c N h hn hs
  refine ⟨ds, s', ?_, l, q, h'⟩
  unfold lcF
  rw [hi]
  dsimp only
  rw [e]
  dsimp only
  rw [if_pos (small (by omega))]
theorem lcL_sub {g : α → Dt} (N : Nat) : ∀ {xs : List α} {n : Nat} {s : Sto}, Sp p n s → n + xs.length ≤ N → (∀ x, x ∈ xs → ∀ n s, Sp p n s → n < N → ∃ b s', tt (w.set k (some (enc x))) s = some (b, s') ∧ Sp p (n + 1) s') → (∀ x, x ∈ xs → ∀ s, te (w.set k (some (enc x))) s = some (g x, s)) →
    ∃ (ys : List α) (s' : Sto), lcL (tgN k) tt te w (xs.map enc) s = some (ys.map g, s') ∧ ys.Sublist xs ∧ Sp p (n + xs.length) s'
  | [], n, s, h, _, _, _ => ⟨[], s, rfl, .slnil, h⟩
  | x :: xs, n, s, h, hn, hs, ht => by
    rw [List.length_cons] at hn
    obtain ⟨b, s1, e1, h1⟩ := hs x List.mem_cons_self n s h (by omega)
    obtain ⟨ys, s2, e2, l2, h2⟩ := lcL_sub N (xs := xs) (n := n + 1) (g := g) h1 (by omega) (fun y hy => hs y (List.mem_cons_of_mem _ hy)) fun y hy => ht y (List.mem_cons_of_mem _ hy)
    have h2' : Sp p (n + (x :: xs).length) s2 := by rw [List.length_cons, show n + (xs.length + 1) = n + 1 + xs.length by omega]; exact h2
    cases b with
    | true =>
      refine ⟨x :: ys, s2, ?_, l2.cons₂ x, h2'⟩
      rw [List.map_cons]
      unfold lcL
      simp only [tgN]
      rw [e1]
      dsimp only
      rw [ht x List.mem_cons_self]
      dsimp only
      rw [e2]
      rfl
    | false =>
      refine ⟨ys, s2, ?_, l2.cons x, h2'⟩
      rw [List.map_cons]
      unfold lcL
      simp only [tgN]
      rw [e1]
      exact e2
theorem lc_sub {g : α → Dt} (N : Nat) {xs : List α} {n : Nat} (hi : fi env s = some (xs.map enc, s1)) (hl : xs.length ≤ 16777215) (h : Sp p n s1) (hn : n + xs.length ≤ N) (hs : ∀ x, x ∈ xs → ∀ n s, Sp p n s → n < N → ∃ b s', tt ((wipeE env vs).set k (some (enc x))) s = some (b, s') ∧ Sp p (n + 1) s') (ht : ∀ x, x ∈ xs → ∀ s, te ((wipeE env vs).set k (some (enc x))) s = some (g x, s)) :
    ∃ (ys : List α) (s' : Sto), lcF fi (tgN k) tt te vs env s = some (.lst (ys.map g), s') ∧ ys.Sublist xs ∧ Sp p (n + xs.length) s' := by
  obtain ⟨ys, s', e, l, h'⟩ := lcL_sub (tt := tt) (te := te) (w := wipeE env vs) (k := k) (g := g) N h hn hs ht
  refine ⟨ys, s', ?_, l, h'⟩
  unfold lcF
  rw [hi]
  dsimp only
  rw [e]
  dsimp only
  rw [if_pos (small (by rw [List.length_map]; have := l.length_le; omega))]
end
/-! ### letters -/
theorem parN_ev {is : List Nat} {fs : List Fe} {env : Env} {s s' : Sto} {ds : List Dt} (h1 : is.all (fun i => decide (i < env.length)) = true) (h2 : evalL fs env s = some (ds, s')) (h3 : is.length = ds.length) : parNS is fs env s = some (.nx (setL is ds env), s') := by
  unfold parNS
  rw [if_pos h1, h2]
  dsimp only
  rw [if_pos h3]
theorem ev_nil {env : Env} {s : Sto} : evalL [] env s = some ([], s) := rfl
theorem ev_cons {f : Fe} {fs : List Fe} {env : Env} {s s1 s2 : Sto} {d : Dt} {ds : List Dt} (h1 : f env s = some (d, s1)) (h2 : evalL fs env s1 = some (ds, s2)) : evalL (f :: fs) env s = some (d :: ds, s2) := by
  unfold evalL
  rw [h1]
  dsimp only
  rw [h2]
def poolN : List Nat := "qzaybxcwdvmeuftgshrinpk".toList.map Char.toNat
theorem pool_str : (.str "qzaybxcwdvmeuftgshrinpk" : Dt) = wd poolN := rfl
theorem pool_len : poolN.length = 23 := by decide
theorem pool_low : ∀ c ∈ poolN, 97 ≤ c ∧ c ≤ 122 := by decide
def sgN (a b M : Nat) : List Nat := (List.range M).map fun k => poolN.getD ((a + k * b) % 23) 0
theorem sg_nd : ∀ a < 23, ∀ b < 22, (sgN a (1 + b) 8).Nodup := by decide +kernel
theorem sgN_nd {a b M : Nat} (ha : a < 23) (hb : b < 22) (hM : M ≤ 8) : (sgN a (1 + b) M).Nodup := by
  have h := sg_nd a ha b hb
  unfold sgN at h ⊢
  exact h.sublist ((List.range_sublist.mpr hM).map _)
theorem sgN_low (a b M : Nat) : ∀ c ∈ sgN a b M, 97 ≤ c ∧ c ≤ 122 := fun c hc => by
  obtain ⟨k, _, rfl⟩ := List.mem_map.mp hc
  have hk : (a + k * b) % 23 < poolN.length := by rw [pool_len]; exact Nat.mod_lt _ (by decide)
  rw [List.getD_eq_getElem?_getD, List.getElem?_eq_getElem hk]
  exact pool_low _ (List.getElem_mem hk)
theorem signs_sp (D : Dip dp Sp) {p : Addr} {n M : Nat} {s : Sto} (hM : M ≤ 8) (h : Sp p n s) (hn : n < 900000) : ∃ L s', (V_law_signs_k01 dp) [.ref p, .int ((M : Nat) : Int)] s = some (.lst (onesD L), s') ∧ L.Nodup ∧ L.length = M ∧ (∀ c ∈ L, 97 ≤ c ∧ c ≤ 122) ∧ Sp p (n + 2) s' := by
  obtain ⟨r, s1, e1, r1, r2, h1⟩ := D.draw (m := 23) h (by omega) (by decide) (by decide)
  obtain ⟨r', s2, e2, r3, r4, h2⟩ := D.draw (m := 22) h1 (by omega) (by decide) (by decide)
  obtain ⟨a, rfl⟩ := Int.eq_ofNat_of_zero_le r1
  obtain ⟨b, rfl⟩ := Int.eq_ofNat_of_zero_le r3
  have ha : a < 23 := by omega
  have hb : b < 22 := by omega
  refine ⟨sgN a (1 + b) M, s2, ?_, sgN_nd ha hb hM, by unfold sgN; rw [List.length_map, List.length_range], sgN_low _ _ _, h2⟩
  refine fn_rt ?_
  refine (seq_nx (parN_ev (ds := [wd poolN, .int ((a : Nat) : Int), .int ((1 + b : Nat) : Int)]) (s' := s2) rfl (ev_cons c0 (ev_cons (call_ev (aCons_ev (v0 rfl) (aCons_ev c0 a0)) e1) (ev_cons (bind2_ev c0 (call_ev (aCons_ev (v0 rfl) (aCons_ev c0 a0)) e2) (show addAll s2 (.int 1) (.int ((b : Nat) : Int)) = some (.int ((1 + b : Nat) : Int)) from add_nn (a := 1))) ev_nil))) rfl)).trans ?_
  refine ret_ev ?_
  refine (lc_y (xs := List.range M) (enc := fun i => .int (0 + ((i : Nat) : Int))) (g := fun k => wd [poolN.getD ((a + k * (1 + b)) % 23) 0]) (s1 := s2) ?_ (small (by rw [List.length_range]; omega)) fun k hk => ?_).trans ?_
  · exact rng_ev (m := ((M : Nat) : Int)) (v0 rfl) (by omega) (by omega)
  · have hk' := List.mem_range.mp hk
    have hi : (a + k * (1 + b)) % 23 < poolN.length := by rw [pool_len]; exact Nat.mod_lt _ (by decide)
    have g1 : poolN[(a + k * (1 + b)) % 23]? = some (poolN.getD ((a + k * (1 + b)) % 23) 0) := by rw [List.getD_eq_getElem?_getD, List.getElem?_eq_getElem hi]; rfl
    have g2 := at_w (s := s2) (w := poolN) (by decide) g1
    have g3 : mulG s2 (.int (0 + ((k : Nat) : Int))) (.int ((1 + b : Nat) : Int)) = some (.int ((k * (1 + b) : Nat) : Int)) := by
      have e : (0 + ((k : Nat) : Int)) * ((1 + b : Nat) : Int) = ((k * (1 + b) : Nat) : Int) := by rw [Int.zero_add, Int.natCast_mul]
      rw [← e]
      refine if_pos ?_
      have h5 : (0 + ((k : Nat) : Int)).natAbs.log2 ≤ 30 := log_le (by omega)
      have h6 : ((1 + b : Nat) : Int).natAbs.log2 ≤ 30 := log_le (by omega)
      omega
    have g4 : addAll s2 (.int ((a : Nat) : Int)) (.int ((k * (1 + b) : Nat) : Int)) = some (.int ((a + k * (1 + b) : Nat) : Int)) := add_nn
    have g5 : modG s2 (.int ((a + k * (1 + b) : Nat) : Int)) (.int 23) = some (.int (((a + k * (1 + b)) % 23 : Nat) : Int)) := by
      show (if (0 : Int) < 23 then some (Dt.int (((a + k * (1 + b) : Nat) : Int) % 23)) else none) = _
      rw [if_pos (show (0 : Int) < 23 by decide), Int.natCast_emod]; rfl
    exact bind2_ev (v0 rfl) (bind2_ev (bindA_ev (aCons_ev (bind2_ev (v0 rfl) (bind2_ev (v0 rfl) (v0 rfl) g3) g4) a0) rfl) c0 g5) g2
  · unfold sgN onesD
    rw [List.map_map]
    rfl

end DL
namespace DL
open PySem PySem.Spec PyProof.Rows L2
local macro_rules | `(tactic| walk_at "op") => `(tactic| first | assumption | with_reducible rfl | exact cat_w (by omega) | exact sub_nn (by omega) | exact add_nn | exact at_w (by omega) (by assumption) | exact len_w (by omega) | exact in_l1 | exact notin_l1 | exact in_t1 | exact notin_t1 | exact in_k1 | exact notin_k1 | exact in_wl | exact notin_wl | exact in_wt | exact notin_wt | exact in_kd | exact notin_kd | exact eq_ww | exact ne_ww | exact any_bl | exact all_bl | rfl)
local macro_rules | `(tactic| walk_at "ev") => `(tactic| first | with_reducible exact c0 | ((with_reducible apply v0); rfl) | with_reducible exact a0 | with_reducible assumption | ((with_reducible apply aCons_ev); (focus walk_at "ev"); (focus walk_at "ev")) | ((with_reducible apply bindA_ev); (focus walk_at "ev"); (focus walk_at "op")) | ((with_reducible apply bind2_ev); (focus walk_at "ev"); (focus walk_at "ev"); (focus walk_at "op")) | ((with_reducible apply bind1_ev); (focus walk_at "ev"); (focus walk_at "op")) | ((with_reducible apply asB_ev); (focus walk_at "ev")) | ((with_reducible apply call_ev); (focus walk_at "ev"); (focus first | assumption | rfl)) | ((with_reducible apply truF_ev); (focus walk_at "ev"); (focus first | assumption | rfl)) | ((with_reducible apply notT_ev); (focus walk_at "ev")) | ((with_reducible apply andT_e); (focus walk_at "ev"); (focus (intro hq; walk_at "ev"))) | ((with_reducible apply orT_e); (focus walk_at "ev"); (focus (intro hq; walk_at "ev"))) | ((with_reducible apply seq_tup); (focus walk_at "ev")) | ((with_reducible apply seq_lst); (focus walk_at "ev")) | ((with_reducible apply seq_str); (focus walk_at "ev")))
variable {dp : Fn} {Sp : Addr → Nat → Sto → Prop}
/-! ### slices of lists -/
theorem cutD_take {α : Type} (xs : List α) (k : Nat) : cutD xs none (some ((k : Nat) : Int)) = xs.take k := by
  unfold cutD
  rw [HT.sIx_none, HT.sIx_nat]
  show (xs.drop 0).take (min k xs.length - 0) = _
  rw [List.drop_zero, Nat.sub_zero]
  by_cases h : k ≤ xs.length
  · rw [Nat.min_eq_left h]
  · rw [Nat.min_eq_right (by omega), List.take_of_length_le (Nat.le_refl _), List.take_of_length_le (by omega)]
theorem cutD_sub {α : Type} (xs : List α) (a b : Option Int) : (cutD xs a b).Sublist xs := (List.take_sublist _ _).trans (List.drop_sublist _ _)
theorem cutD_map {α β : Type} (f : α → β) (xs : List α) (a b : Option Int) : cutD (xs.map f) a b = (cutD xs a b).map f := by
  unfold cutD
  rw [List.length_map, List.map_take, List.map_drop]
theorem sl_ev {f : Fe} {l h : Fo} {env : Env} {s s1 : Sto} {xs : List Dt} {a b : Option Int} (hx : f env s = some (.lst xs, s1)) (hl : l env s1 = some (a, s1)) (hh : h env s1 = some (b, s1)) : bindS f l h sliceG env s = some (.lst (cutD xs a b), s1) := by
  unfold bindS
  rw [hx]
  simp only [Option.bind_eq_bind, Option.bind_some, hl, hh]
  rfl
theorem oS_ev {f : Fe} {env : Env} {s s1 : Sto} {i : Int} (h : f env s = some (.int i, s1)) : oSome f env s = some (some i, s1) := by unfold oSome; rw [h]
/-! ### entries in order -/
def sortE (E : Ents) : Ents := sortK (fun e : Nat × List Nat => strW [e.1]) E
theorem sortE_perm (E : Ents) : (sortE E).Perm E := sortK_perm E
theorem pairs_entS : ∀ E : Ents, pairsS (entL E) = some (E.map fun e => (strW [e.1], lesD e.2))
  | [] => rfl
  | e :: E => by
    show (pairsS (entL E)).map ((strW [e.1], lesD e.2) :: ·) = _
    rw [pairs_entS E]
    rfl
theorem sorted_ent {s : Sto} {E : Ents} (h : (E.map (·.1)).Nodup) : sortedG_ s [.lst (entL E)] = some (.lst (entL (sortE E))) := by
  have e2 : sortedPG s [.lst (entL E)] = some (.lst (entL (sortE E))) := by
    unfold sortedPG
    dsimp only
    rw [pairs_entS]
    dsimp only
    have hn : ((E.map fun e => (strW [e.1], lesD e.2)).map (·.1)).Nodup := by
      have e1 : ((E.map fun e => (strW [e.1], lesD e.2)).map (·.1)) = (E.map (·.1)).map fun c => strW [c] := by rw [List.map_map, List.map_map]; rfl
      rw [e1]
      exact List.Pairwise.map _ (fun a b hab e => hab (by have := strW_inj e; simpa using this)) h
    rw [if_pos hn]
    congr 2
    have e3 := sortK_map (k := fun p : Str × Dt => p.1) (f := fun e : Nat × List Nat => (strW [e.1], lesD e.2)) E
    rw [← e3, List.map_map]
    rfl
  unfold sortedG_
  cases E with
  | nil => rfl
  | cons e E => exact (show (match sortedPG s [.lst (entL (e :: E))] with | some d => some d | none => sortedIntG s [.lst (entL (e :: E))]) = _ by rw [e2])
theorem range_pre {n k : Nat} {pre post : List Nat} (h : List.range n = pre ++ k :: post) : k = pre.length ∧ k < n := by
  have hl := congrArg List.length h
  rw [List.length_range, List.length_append, List.length_cons] at hl
  have h1 : (List.range n)[pre.length]? = some k := by rw [h, List.getElem?_append_right (Nat.le_refl _), Nat.sub_self]; rfl
  rw [List.getElem?_range (by omega)] at h1
  cases h1
  exact ⟨rfl, by omega⟩
/-! ### rows -/
/-- rows over these letters -/
structure RowE (L : List Nat) (E : Ents) : Prop where
  fst : E.map (·.1) = L
  nd : ∀ e ∈ E, e.2.Nodup
  sub : ∀ e ∈ E, ∀ d ∈ e.2, d ∈ L
  lt : ∀ e ∈ E, e.2.Pairwise (· < ·)
theorem tup_app_ent (E : Ents) (c : Nat) (l : List Nat) : entL E ++ [.tup [wd [c], .tup (onesD l)]] = entL (E ++ [(c, l)]) := by
  unfold entL
  rw [List.map_append]
  rfl
def rowB (dp : Fn) : Fs := (seqS (setS 5 (lcF (rngF1 (fVar 4)) (tgN 6) (asB (bind2 (callF dp (aCons (fVar 0) (aCons (fC (.int 2)) aNil))) (fC (.int 0)) eqG)) (bind2 (fVar 1) (fVar 6) ixA) [6])) (seqS (ifS (asB (bind2 (fVar 2) (fC (.int 2)) ltG)) (setS 5 (ifV (asB (bind2 (fVar 2) (fC (.int 0)) eqG)) (bindS (fVar 1) oNone (oSome (fVar 4)) sliceG) (bindS (bindS (fVar 1) oNone (oSome (fVar 4)) sliceG) (oSome (bind1 (fC (.int 1)) negG)) oNone sliceG))) skipS) (appS 3 (bindA (aCons (bind2 (fVar 1) (fVar 4) ixA) (aCons (bindA (aCons (bindA (aCons (ifV (asB (bind2 (fVar 2) (fC (.int 4)) ltG)) (fVar 5) (bindA aNil lstG)) aNil) sortedG_) aNil) toTupG) aNil)) tupG))))
theorem row_one (D : Dip dp Sp) {p : Addr} {n k way : Nat} {L : List Nat} {E : Ents} {s : Sto} (hL : L.length ≤ 8) (hnd : L.Nodup) (hk : k < L.length) (hE : RowE (L.take k) E) (h : Sp p n s) (hn : n < 900000) (x5 x6 : Option Dt) :
    ∃ E' y5 y6 s', rowB dp [some (.ref p), some (.lst (onesD L)), some (.int ((way : Nat) : Int)), some (.lst (entL E)), some (.int (0 + ((k : Nat) : Int))), x5, x6] s = some (.nx [some (.ref p), some (.lst (onesD L)), some (.int ((way : Nat) : Int)), some (.lst (entL E')), some (.int (0 + ((k : Nat) : Int))), y5, y6], s') ∧ RowE (L.take (k + 1)) E' ∧ Sp p (n + k) s' := by
  rw [Int.zero_add]
  have hlt : (L.take k).length = k := by rw [List.length_take]; omega
  -- the drawn ones
  obtain ⟨ys, s1, e1, hsub, h1⟩ := lc_sub (tt := asB (bind2 (callF dp (aCons (fVar 0) (aCons (fC (.int 2)) aNil))) (fC (.int 0)) eqG)) (te := bind2 (fVar 1) (fVar 6) ixA) (k := 6) (vs := [6]) (g := fun j => wd [L.getD j 0]) (enc := fun j => .int (0 + ((j : Nat) : Int))) (fi := rngF1 (fVar 4)) (env := [some (.ref p), some (.lst (onesD L)), some (.int ((way : Nat) : Int)), some (.lst (entL E)), some (.int ((k : Nat) : Int)), x5, x6]) (s := s) 910000 (xs := List.range k) (rng_ev (m := ((k : Nat) : Int)) (v0 rfl) (by omega) (by omega)) (by rw [List.length_range]; omega) h (by rw [List.length_range]; omega)
    (fun j hj n s h hn => by
      obtain ⟨r, s', e, _, _, h'⟩ := D.draw (m := 2) h (by omega) (by decide) (by decide)
      exact ⟨_, s', asB_ev (bind2_ev (call_ev (aCons_ev (v0 rfl) (aCons_ev c0 a0)) e) c0 rfl), h'⟩)
    (fun j hj s => by
      have hj' := List.mem_range.mp hj
      have g : (onesD L)[j]? = some (wd [L.getD j 0]) := by
        unfold onesD
        rw [List.getElem?_map, List.getD_eq_getElem?_getD, List.getElem?_eq_getElem (by omega)]
        rfl
      refine bind2_ev (v0 rfl) (v0 rfl) ?_
      rw [Int.zero_add]
      exact at_l g)
  rw [List.length_range] at h1
  have hs0 : (ys.map fun j => L.getD j 0).Sublist (L.take k) := by
    have e : (List.range k).map (fun j => L.getD j 0) = L.take k := by
      apply List.ext_getElem
      · rw [List.length_map, List.length_range, hlt]
      · intro i h1 h2
        rw [List.length_map, List.length_range] at h1
        rw [List.getElem_map, List.getElem_range, List.getElem_take, List.getD_eq_getElem?_getD, List.getElem?_eq_getElem (by omega)]
        rfl
    rw [← e]
    exact hsub.map _
  have e1' : lcF (rngF1 (fVar 4)) (tgN 6) (asB (bind2 (callF dp (aCons (fVar 0) (aCons (fC (.int 2)) aNil))) (fC (.int 0)) eqG)) (bind2 (fVar 1) (fVar 6) ixA) [6] [some (.ref p), some (.lst (onesD L)), some (.int ((way : Nat) : Int)), some (.lst (entL E)), some (.int ((k : Nat) : Int)), x5, x6] s = some (.lst (onesD (ys.map fun j => L.getD j 0)), s1) := by
    rw [e1, onesD, List.map_map]; rfl
  -- or all, or the last one
  obtain ⟨l1, y6, e2, hs1⟩ : ∃ (l1 : List Nat) (y6 : Option Dt), (ifS (asB (bind2 (fVar 2) (fC (.int 2)) ltG)) (setS 5 (ifV (asB (bind2 (fVar 2) (fC (.int 0)) eqG)) (bindS (fVar 1) oNone (oSome (fVar 4)) sliceG) (bindS (bindS (fVar 1) oNone (oSome (fVar 4)) sliceG) (oSome (bind1 (fC (.int 1)) negG)) oNone sliceG))) skipS) [some (.ref p), some (.lst (onesD L)), some (.int ((way : Nat) : Int)), some (.lst (entL E)), some (.int ((k : Nat) : Int)), some (.lst (onesD (ys.map fun j => L.getD j 0))), x6] s1
      = some (.nx [some (.ref p), some (.lst (onesD L)), some (.int ((way : Nat) : Int)), some (.lst (entL E)), some (.int ((k : Nat) : Int)), some (.lst (onesD l1)), y6], s1) ∧ l1.Sublist (L.take k) := by
    have t2 : asB (bind2 (fVar 2) (fC (.int 2)) ltG) [some (.ref p), some (.lst (onesD L)), some (.int ((way : Nat) : Int)), some (.lst (entL E)), some (.int ((k : Nat) : Int)), some (.lst (onesD (ys.map fun j => L.getD j 0))), x6] s1 = some (decide (((way : Nat) : Int) < 2), s1) := asB_ev (bind2_ev (v0 rfl) c0 rfl)
    have t0 : asB (bind2 (fVar 2) (fC (.int 0)) eqG) [some (.ref p), some (.lst (onesD L)), some (.int ((way : Nat) : Int)), some (.lst (entL E)), some (.int ((k : Nat) : Int)), some (.lst (onesD (ys.map fun j => L.getD j 0))), x6] s1 = some (decide (((way : Nat) : Int) = 0), s1) := asB_ev (bind2_ev (v0 rfl) c0 rfl)
    have c1 : bindS (fVar 1) oNone (oSome (fVar 4)) sliceG [some (.ref p), some (.lst (onesD L)), some (.int ((way : Nat) : Int)), some (.lst (entL E)), some (.int ((k : Nat) : Int)), some (.lst (onesD (ys.map fun j => L.getD j 0))), x6] s1 = some (.lst (onesD (L.take k)), s1) := by
      refine (sl_ev (v0 rfl) rfl (oS_ev (v0 rfl))).trans ?_
      rw [cutD_take, onesD, onesD, List.map_take]
    by_cases hw : ((way : Nat) : Int) < 2
    · rw [decide_eq_true hw] at t2
      by_cases h0 : ((way : Nat) : Int) = 0
      · rw [decide_eq_true h0] at t0
        exact ⟨L.take k, x6, (if_t t2).trans (set_ev ((ifV_t t0).trans c1)), .refl _⟩
      · rw [decide_eq_false h0] at t0
        refine ⟨cutD (L.take k) (some (-1)) none, x6, (if_t t2).trans (set_ev ((ifV_f t0).trans ((sl_ev c1 (oS_ev (i := -1) rfl) rfl).trans ?_))), cutD_sub _ _ _⟩
        rw [cutD_map]
    · rw [decide_eq_false hw] at t2
      exact ⟨_, x6, (if_f t2).trans rfl, hs0⟩
  -- put in order
  obtain ⟨l2, e3, hs2⟩ : ∃ l2 : List Nat, ifV (asB (bind2 (fVar 2) (fC (.int 4)) ltG)) (fVar 5) (bindA aNil lstG) [some (.ref p), some (.lst (onesD L)), some (.int ((way : Nat) : Int)), some (.lst (entL E)), some (.int ((k : Nat) : Int)), some (.lst (onesD l1)), y6] s1 = some (.lst (onesD l2), s1) ∧ l2.Sublist (L.take k) := by
    have t4 : asB (bind2 (fVar 2) (fC (.int 4)) ltG) [some (.ref p), some (.lst (onesD L)), some (.int ((way : Nat) : Int)), some (.lst (entL E)), some (.int ((k : Nat) : Int)), some (.lst (onesD l1)), y6] s1 = some (decide (((way : Nat) : Int) < 4), s1) := asB_ev (bind2_ev (v0 rfl) c0 rfl)
    by_cases hw : ((way : Nat) : Int) < 4
    · rw [decide_eq_true hw] at t4
      exact ⟨l1, (ifV_t t4).trans (v0 rfl), hs1⟩
    · rw [decide_eq_false hw] at t4
      exact ⟨[], (ifV_f t4).trans rfl, List.nil_sublist _⟩
  have hl2 : l2.length ≤ 8 := by have := hs2.length_le; omega
  have hn2 : l2.Nodup := hs2.nodup ((List.take_sublist _ _).nodup hnd)
  have g4 : (onesD L)[k]? = some (wd [L.getD k 0]) := by
    unfold onesD
    rw [List.getElem?_map, List.getD_eq_getElem?_getD, List.getElem?_eq_getElem hk]
    rfl
  have hE3 : E.length = k := by have := congrArg List.length hE.fst; rw [List.length_map] at this; omega
  refine ⟨E ++ [(L.getD k 0, sortN l2)], some (.lst (onesD l1)), y6, s1, ?_, ?_, h1⟩
  · refine (seq_nx (set_ev e1')).trans ((seq_nx e2).trans ?_)
    have g5 := sorted_ones (s := s1) (l := l2) (by omega)
    have g6 : toTupG s1 [.lst (onesD (sortN l2))] = some (.tup (onesD (sortN l2))) := rfl
    have g7 : tupG s1 [wd [L.getD k 0], .tup (onesD (sortN l2))] = some (.tup [wd [L.getD k 0], .tup (onesD (sortN l2))]) := rfl
    refine (app_ev (i := 3) (ds := entL E) (d := .tup [wd [L.getD k 0], .tup (onesD (sortN l2))]) (s' := s1) (bindA_ev (aCons_ev (bind2_ev (v0 rfl) (v0 rfl) (at_l g4)) (aCons_ev (bindA_ev (aCons_ev (bindA_ev (aCons_ev e3 a0) g5) a0) g6) a0)) g7) rfl (small' ?_)).trans ?_
    · unfold entL; rw [List.length_map]; omega
    · rw [tup_app_ent]; rfl
  · have et : L.take (k + 1) = L.take k ++ [L.getD k 0] := by
      rw [List.take_succ, List.getD_eq_getElem?_getD, List.getElem?_eq_getElem hk]; rfl
    have ml : ∀ d, d ∈ sortN l2 → d ∈ L.take k := fun d hd => hs2.subset (sortN_mem.mp hd)
    refine ⟨?_, fun e he => ?_, fun e he d hd => ?_, fun e he => ?_⟩
    · rw [List.map_append, hE.fst, et]; rfl
    · rcases List.mem_append.mp he with z | z
      · exact hE.nd e z
      · rw [List.mem_singleton.mp z]; exact (sortN_lt hn2).imp fun h => Nat.ne_of_lt h
    · rw [et]
      rcases List.mem_append.mp he with z | z
      · exact List.mem_append_left _ (hE.sub e z d hd)
      · rw [List.mem_singleton.mp z] at hd
        exact List.mem_append_left _ (ml d hd)
    · rcases List.mem_append.mp he with z | z
      · exact hE.lt e z
      · rw [List.mem_singleton.mp z]; exact sortN_lt hn2

theorem rows_sp (D : Dip dp Sp) {p : Addr} {n : Nat} {L : List Nat} {s : Sto} (hL : L.length ≤ 8) (hnd : L.Nodup) (h : Sp p n s) (hn : n < 800000) :
    ∃ E s', (V_law_rows_k01 dp) [.ref p, .lst (onesD L)] s = some (.tup (entL (sortE E)), s') ∧ RowE L E ∧ Sp p (n + 65) s' := by
  obtain ⟨r, s1, e1, r1, r2, h1⟩ := D.draw (m := 5) h (by omega) (by decide) (by decide)
  obtain ⟨way, rfl⟩ := Int.eq_ofNat_of_zero_le r1
  have key := for_pre (xs := List.range L.length) (enc := fun k => .int (0 + ((k : Nat) : Int))) (i := 4) (F := rowB dp) (fi := rngF1 (bindA (aCons (fVar 1) aNil) lenG)) (s := s1) (s1 := s1)
    (env := [some (.ref p), some (.lst (onesD L)), some (.int ((way : Nat) : Int)), some (.lst (entL [])), none, none, none])
    (fun pre env s' => Sp p (n + 1 + 8 * pre.length) s' ∧ ∃ E x4 x5 x6, env = [some (.ref p), some (.lst (onesD L)), some (.int ((way : Nat) : Int)), some (.lst (entL E)), x4, x5, x6] ∧ RowE (L.take pre.length) E)
    (by
      have hlen : (onesD L).length = L.length := List.length_map ..
      refine (rng_ev (m := ((L.length : Nat) : Int)) (bindA_ev (aCons_ev (v0 rfl) a0) ?_) (by omega) (by omega)).trans ?_
      · rw [← hlen]; rfl
      · rfl)
    ⟨h1, [], none, none, none, rfl, rfl, fun e he => absurd he List.not_mem_nil, fun e he => absurd he List.not_mem_nil, fun e he => absurd he List.not_mem_nil⟩ (by
    rintro pre k post env s' he ⟨hs, E, x4, x5, x6, rfl, hE⟩
    have hk := range_pre he
    obtain ⟨hk1, hk2⟩ := hk
    rw [← hk1] at hE hs
    show ∃ e' s2, rowB dp [some (.ref p), some (.lst (onesD L)), some (.int ((way : Nat) : Int)), some (.lst (entL E)), some (.int (0 + ((k : Nat) : Int))), x5, x6] s' = some (.nx e', s2) ∧ _
    obtain ⟨E', y5, y6, s2, e2, hE', h2⟩ := row_one D (way := way) hL hnd hk2 hE hs (by omega) x5 x6
    refine ⟨_, s2, e2, ?_, E', _, y5, y6, rfl, ?_⟩
    · rw [List.length_append, List.length_singleton, ← hk1]
      exact D.mono h2 (by omega)
    · rw [List.length_append, List.length_singleton, ← hk1]; exact hE')
  obtain ⟨e', s2, e2, hs, E, x4, x5, x6, rfl, hE⟩ := key
  rw [List.length_range, List.take_length] at hE
  rw [List.length_range] at hs
  refine ⟨E, s2, fn_rt ?_, hE, D.mono hs (by omega)⟩
  have hnE : (E.map (·.1)).Nodup := by rw [hE.fst]; exact hnd
  have g1 := sorted_ent (s := s2) hnE
  have g2 : toTupG s2 [.lst (entL (sortE E))] = some (.tup (entL (sortE E))) := rfl
  refine (seq_nx (par_ev (x := .int ((way : Nat) : Int)) (y := .lst []) (s1 := s1) (s2 := s1) ⟨by simp, by simp⟩ (call_ev (aCons_ev (v0 rfl) (aCons_ev c0 a0)) e1) rfl)).trans ?_
  refine (seq_nx e2).trans (ret_ev ?_)
  exact bindA_ev (aCons_ev (bindA_ev (aCons_ev (v0 rfl) a0) g1) a0) g2
/-- a book's rows -/
theorem cl_of {L : List Nat} {E : Ents} (h : RowE L E) (hnd : L.Nodup) (hL : L.length ≤ 8) (hlo : ∀ c ∈ L, 97 ≤ c ∧ c ≤ 122) : ClE (sortE E) where
  ok := ⟨by rw [((sortE_perm E).map _).nodup_iff, h.fst]; exact hnd, fun e he => by
    have m := (sortE_perm E).mem_iff.mp he
    have := nodup_le (h.nd e m) (h.sub e m)
    omega⟩
  cl := fun e he d hd => by
    rw [((sortE_perm E).map _).mem_iff, h.fst]
    exact h.sub e ((sortE_perm E).mem_iff.mp he) d hd
  n := by
    rw [(sortE_perm E).length_eq]
    have := congrArg List.length h.fst
    rw [List.length_map] at this
    omega
  lo := fun c hc => by
    rw [((sortE_perm E).map _).mem_iff, h.fst] at hc
    exact hlo c hc

end DL
namespace DL
open PySem PySem.Spec PyProof.Rows L2
local macro_rules | `(tactic| walk_at "op") => `(tactic| first | assumption | with_reducible rfl | exact cat_w (by omega) | exact sub_nn (by omega) | exact add_nn | exact at_w (by omega) (by assumption) | exact len_w (by omega) | exact in_l1 | exact notin_l1 | exact in_t1 | exact notin_t1 | exact in_k1 | exact notin_k1 | exact in_wl | exact notin_wl | exact in_wt | exact notin_wt | exact in_kd | exact notin_kd | exact eq_ww | exact ne_ww | exact any_bl | exact all_bl | rfl)
local macro_rules | `(tactic| walk_at "ev") => `(tactic| first | with_reducible exact c0 | ((with_reducible apply v0); rfl) | with_reducible exact a0 | with_reducible assumption | ((with_reducible apply aCons_ev); (focus walk_at "ev"); (focus walk_at "ev")) | ((with_reducible apply bindA_ev); (focus walk_at "ev"); (focus walk_at "op")) | ((with_reducible apply bind2_ev); (focus walk_at "ev"); (focus walk_at "ev"); (focus walk_at "op")) | ((with_reducible apply bind1_ev); (focus walk_at "ev"); (focus walk_at "op")) | ((with_reducible apply asB_ev); (focus walk_at "ev")) | ((with_reducible apply call_ev); (focus walk_at "ev"); (focus first | assumption | rfl)) | ((with_reducible apply truF_ev); (focus walk_at "ev"); (focus first | assumption | rfl)) | ((with_reducible apply notT_ev); (focus walk_at "ev")) | ((with_reducible apply andT_e); (focus walk_at "ev"); (focus (intro hq; walk_at "ev"))) | ((with_reducible apply orT_e); (focus walk_at "ev"); (focus (intro hq; walk_at "ev"))) | ((with_reducible apply seq_tup); (focus walk_at "ev")) | ((with_reducible apply seq_lst); (focus walk_at "ev")) | ((with_reducible apply seq_str); (focus walk_at "ev")))
variable {dp : Fn} {Sp : Addr → Nat → Sto → Prop}
theorem join_ones {s : Sto} {w : List Nat} (h : w.length ≤ 100000) : joinG s (.str "") (.lst (onesD w)) = some (wd w) := by
  have e : onesD w = (w.map fun c => strW [c]).map Dt.str := by unfold onesD; rw [List.map_map]; rfl
  unfold joinG
  dsimp only
  rw [e, strsOf_map]
  dsimp only
  rw [join_w, if_pos]
  · rfl
  have h3 := sum_le (l := w.map fun c => strW [c]) (k := 1) fun x hx => by
    obtain ⟨c, _, rfl⟩ := List.mem_map.mp hx
    exact Nat.le_refl 1
  rw [List.length_map] at h3
  have h4 : ("" : Str).length = 0 := rfl
  rw [h4]
  omega
theorem ones_of {L : List Nat} : ∀ {ds : List Dt}, (∀ d ∈ ds, d ∈ onesD L) → ∃ w : List Nat, ds = onesD w ∧ w.length = ds.length ∧ ∀ c ∈ w, c ∈ L
  | [], _ => ⟨[], rfl, rfl, fun c hc => absurd hc List.not_mem_nil⟩
  | d :: ds, h => by
    obtain ⟨w, e, hl, hc⟩ := ones_of (ds := ds) fun z hz => h z (List.mem_cons_of_mem _ hz)
    obtain ⟨c, hcm, rfl⟩ := List.mem_map.mp (h d List.mem_cons_self)
    refine ⟨c :: w, by rw [e]; rfl, by rw [List.length_cons, List.length_cons, hl], fun x hx => ?_⟩
    rcases List.mem_cons.mp hx with rfl | hx
    · exact hcm
    · exact hc x hx
/-- "".join([pick for k in range(m)]) -/
theorem picks_sp (D : Dip dp Sp) {p : Addr} {n m k ip il : Nat} {L : List Nat} {env : Env} {vs : List Nat} {f : Fe} {s s1 : Sto} (hf : rngF1 f env s = some ((List.range m).map fun i => .int (0 + ((i : Nat) : Int)), s1)) (hm : m ≤ 100000) (hL : L ≠ []) (hl : L.length ≤ 1000) (h : Sp p n s1) (hn : n + m < 900000)
    (hp : ∀ d : Dt, ((wipeE env vs).set k (some d))[ip]? = some (some (.ref p))) (hi : ∀ d : Dt, ((wipeE env vs).set k (some d))[il]? = some (some (.lst (onesD L)))) :
    ∃ (w : List Nat) (s' : Sto), bind2 (toStrOnly (fC (.str ""))) (lcF (rngF1 f) (tgN k) yesT (callF (V_law_pick_k01 dp) (aCons (fVar ip) (aCons (fVar il) aNil))) vs) joinG env s = some (wd w, s') ∧ w.length = m ∧ (∀ c ∈ w, c ∈ L) ∧ Sp p (n + m) s' := by
  have hne : onesD L ≠ [] := by
    cases L with
    | nil => exact absurd rfl hL
    | cons => exact fun z => by cases z
  obtain ⟨ds, s2, e, hlen, hq, h2⟩ := lc_sp (te := callF (V_law_pick_k01 dp) (aCons (fVar ip) (aCons (fVar il) aNil))) (k := k) (vs := vs) (env := env) (s := s) (fun d => d ∈ onesD L) 1 900000 (xs := List.range m) (enc := fun i => .int (0 + ((i : Nat) : Int))) hf (by rw [List.length_range]; omega) h (by rw [List.length_range]; omega) (fun x hx n s h hn => by
    obtain ⟨d, s', e, hd, h'⟩ := pick_sp D (ds := onesD L) h (by omega) hne (by rw [List.length_map]; omega)
    exact ⟨d, s', call_ev (aCons_ev (v0 (hp _)) (aCons_ev (v0 (hi _)) a0)) e, hd, h'⟩)
  obtain ⟨w, rfl, hwl, hc⟩ := ones_of hq
  rw [List.length_range] at hlen h2
  rw [Nat.one_mul] at h2
  exact ⟨w, s2, bind2_ev (x := .str "") rfl e (join_ones (by omega)), by omega, hc, h2⟩
/-! ### rules -/
def ruL (L : List Nat) : Ru → Prop
  | .put c v _ => c ∈ L ∧ (∀ a ∈ v, a ∈ L) ∧ v ≠ [c] ∧ v.length ≤ 3
  | .drop n _ => 1 ≤ n ∧ n ≤ 4
  | _ => True
theorem eq_ones {s : Sto} {L : List Nat} (h : ∀ c ∈ L, 97 ≤ c ∧ c ≤ 122) : eqG s (.lst (onesD L)) (.lst []) = some (.bl L.isEmpty) :=
  eq_wds (l := L) (f := fun c => [c]) fun x hx c hc => by rw [List.mem_singleton.mp hc]; exact h x hx
theorem side_sp (D : Dip dp Sp) {p : Addr} {n : Nat} {s : Sto} (h : Sp p n s) (hn : n < 900000) : ∃ b s', (V_law_pick_k01 dp) [.ref p, .lst [.str "left", .str "right"]] s = some (sideD b, s') ∧ Sp p (n + 1) s' := by
  obtain ⟨d, s', e, hd, h'⟩ := pick_sp D (ds := [.str "left", .str "right"]) h (by omega) (by decide) (by decide)
  rcases List.mem_cons.mp hd with rfl | hd
  · exact ⟨true, s', e, h'⟩
  · rw [List.mem_singleton.mp hd] at e
    exact ⟨false, s', e, h'⟩
theorem norm_sp (D : Dip dp Sp) {p : Addr} {n : Nat} {L : List Nat} {s : Sto} (hL : L.length ≤ 8) (hlo : ∀ c ∈ L, 97 ≤ c ∧ c ≤ 122) (h : Sp p n s) (hn : n < 800000) : ∃ r s', (V_law_norm_k01 dp) [.ref p, .lst (onesD L)] s = some (Ru.d r, s') ∧ ruL L r ∧ Sp p (n + 7) s' := by
  obtain ⟨r, s1, e1, r1, r2, h1⟩ := D.draw (m := 8) h (by omega) (by decide) (by decide)
  obtain ⟨way, rfl⟩ := Int.eq_ofNat_of_zero_le r1
  obtain ⟨b, s2, e2, h2⟩ := side_sp D h1 (by omega)
  have g0 : lstG s1 [.str "left", .str "right"] = some (.lst [.str "left", .str "right"]) := rfl
  let env : Env := [some (.ref p), some (.lst (onesD L)), some (.int ((way : Nat) : Int)), some (sideD b), none, none, none]
  have a1 : ∀ B, seqS (par2S 2 3 (callF dp (aCons (fVar 0) (aCons (fC (.int 8)) aNil))) (callF (V_law_pick_k01 dp) (aCons (fVar 0) (aCons (bindA (aCons (fC (.str "left")) (aCons (fC (.str "right")) aNil)) lstG) aNil)))) B [some (.ref p), some (.lst (onesD L)), none, none, none, none, none] s = B env s2 := fun B =>
    seq_nx (par_ev (x := .int ((way : Nat) : Int)) (y := sideD b) (s1 := s1) (s2 := s2) ⟨by simp, by simp⟩ (call_ev (aCons_ev (v0 rfl) (aCons_ev c0 a0)) e1) (call_ev (aCons_ev (v0 rfl) (aCons_ev (bindA_ev (aCons_ev c0 (aCons_ev c0 a0)) g0) a0)) e2))
  have t2 : asB (bind2 (fVar 2) (fC (.int 2)) ltG) env s2 = some (decide (((way : Nat) : Int) < 2), s2) := asB_ev (bind2_ev (v0 rfl) c0 rfl)
  have t3 : asB (bind2 (fVar 2) (fC (.int 2)) eqG) env s2 = some (decide (((way : Nat) : Int) = 2), s2) := asB_ev (bind2_ev (v0 rfl) c0 rfl)
  have t4 : asB (bind2 (fVar 2) (fC (.int 3)) eqG) env s2 = some (decide (((way : Nat) : Int) = 3), s2) := asB_ev (bind2_ev (v0 rfl) c0 rfl)
  have t5 : orT (asB (bind2 (fVar 2) (fC (.int 6)) ltG)) (asB (bind2 (fVar 1) (bindA aNil lstG) eqG)) env s2 = some (decide (((way : Nat) : Int) < 6) || L.isEmpty, s2) :=
    orT_e (asB_ev (bind2_ev (v0 rfl) c0 rfl)) fun _ => asB_ev (bind2_ev (v0 rfl) (bindA_ev a0 rfl) (eq_ones hlo))
  by_cases w2 : ((way : Nat) : Int) < 2
  · rw [decide_eq_true w2] at t2
    obtain ⟨r, s3, e3, r3, r4, h3⟩ := D.draw (m := 4) h2 (by omega) (by decide) (by decide)
    obtain ⟨a, rfl⟩ := Int.eq_ofNat_of_zero_le r3
    refine ⟨.drop (1 + a) b, s3, fn_rt ((a1 _).trans (seq_rt ((if_t t2).trans (ret_ev (bindA_ev (aCons_ev c0 (aCons_ev (bind2_ev c0 (call_ev (aCons_ev (v0 rfl) (aCons_ev c0 a0)) e3) (show addAll s3 (.int 1) (.int ((a : Nat) : Int)) = some (.int ((1 + a : Nat) : Int)) from add_nn (a := 1))) (aCons_ev (v0 rfl) a0))) rfl))))), ⟨by omega, by omega⟩, D.mono h3 (by omega)⟩
  rw [decide_eq_false w2] at t2
  have a2 : ∀ A B, seqS (ifS (asB (bind2 (fVar 2) (fC (.int 2)) ltG)) A skipS) B env s2 = B env s2 := fun A B => seq_nx ((if_f t2).trans rfl)
  by_cases w3 : ((way : Nat) : Int) = 2
  · rw [decide_eq_true w3] at t3
    exact ⟨.half b, s2, fn_rt ((a1 _).trans ((a2 _ _).trans (seq_rt ((if_t t3).trans (ret_ev (bindA_ev (aCons_ev c0 (aCons_ev (v0 rfl) a0)) rfl)))))), trivial, D.mono h2 (by omega)⟩
  rw [decide_eq_false w3] at t3
  have a3 : ∀ A B, seqS (ifS (asB (bind2 (fVar 2) (fC (.int 2)) eqG)) A skipS) B env s2 = B env s2 := fun A B => seq_nx ((if_f t3).trans rfl)
  by_cases w4 : ((way : Nat) : Int) = 3
  · rw [decide_eq_true w4] at t4
    exact ⟨.empty, s2, fn_rt ((a1 _).trans ((a2 _ _).trans ((a3 _ _).trans (seq_rt ((if_t t4).trans (ret_ev (bindA_ev (aCons_ev c0 a0) rfl))))))), trivial, D.mono h2 (by omega)⟩
  rw [decide_eq_false w4] at t4
  have a4 : ∀ A B, seqS (ifS (asB (bind2 (fVar 2) (fC (.int 3)) eqG)) A skipS) B env s2 = B env s2 := fun A B => seq_nx ((if_f t4).trans rfl)
  by_cases w5 : (decide (((way : Nat) : Int) < 6) || L.isEmpty) = true
  · rw [w5] at t5
    exact ⟨.lower b, s2, fn_rt ((a1 _).trans ((a2 _ _).trans ((a3 _ _).trans ((a4 _ _).trans (seq_rt ((if_t t5).trans (ret_ev (bindA_ev (aCons_ev c0 (aCons_ev (v0 rfl) a0)) rfl)))))))), trivial, D.mono h2 (by omega)⟩
  have w5' : (decide (((way : Nat) : Int) < 6) || L.isEmpty) = false := by simpa using w5
  rw [w5'] at t5
  have a5 : ∀ A B, seqS (ifS (orT (asB (bind2 (fVar 2) (fC (.int 6)) ltG)) (asB (bind2 (fVar 1) (bindA aNil lstG) eqG))) A skipS) B env s2 = B env s2 := fun A B => seq_nx ((if_f t5).trans rfl)
  have hne : L ≠ [] := fun z => by rw [z] at w5'; simp at w5'
  have hneD : onesD L ≠ [] := by
    cases L with
    | nil => exact absurd rfl hne
    | cons => exact fun z => by cases z
  obtain ⟨d, s3, e3, hd, h3⟩ := pick_sp D (ds := onesD L) h2 (by omega) hneD (by rw [List.length_map]; omega)
  obtain ⟨c, hc, rfl⟩ := List.mem_map.mp hd
  obtain ⟨r, s4, e4, r3, r4, h4⟩ := D.draw (m := 4) h3 (by omega) (by decide) (by decide)
  obtain ⟨m, rfl⟩ := Int.eq_ofNat_of_zero_le r3
  obtain ⟨w, s5, e5, hwl, hw, h5⟩ := picks_sp D (m := m) (k := 6) (ip := 0) (il := 1) (vs := [6]) (L := L) (env := [some (.ref p), some (.lst (onesD L)), some (.int ((way : Nat) : Int)), some (sideD b), some (wd [c]), none, none]) (f := callF dp (aCons (fVar 0) (aCons (fC (.int 4)) aNil))) (s := s3)
    (rng_ev (m := ((m : Nat) : Int)) (call_ev (aCons_ev (v0 rfl) (aCons_ev c0 a0)) e4) (by omega) (by omega)) (by omega) hne (by omega) h4 (by omega) (fun _ => rfl) fun _ => rfl
  have g6 : asB (bind2 (fVar 5) (fVar 4) neG) [some (.ref p), some (.lst (onesD L)), some (.int ((way : Nat) : Int)), some (sideD b), some (wd [c]), some (wd w), none] s5 = some (!decide (w = [c]), s5) := asB_ev (bind2_ev (v0 rfl) (v0 rfl) ne_ww)
  have fin : ∀ v : List Nat, ifV (asB (bind2 (fVar 5) (fVar 4) neG)) (fVar 5) (fC (.str "")) [some (.ref p), some (.lst (onesD L)), some (.int ((way : Nat) : Int)), some (sideD b), some (wd [c]), some (wd w), none] s5 = some (wd v, s5) → ruL L (.put c v b) → ∃ r s', (V_law_norm_k01 dp) [.ref p, .lst (onesD L)] s = some (Ru.d r, s') ∧ ruL L r ∧ Sp p (n + 7) s' := fun v hv hr =>
    ⟨.put c v b, s5, fn_rt ((a1 _).trans ((a2 _ _).trans ((a3 _ _).trans ((a4 _ _).trans ((a5 _ _).trans ((seq_nx (set_ev (call_ev (aCons_ev (v0 rfl) (aCons_ev (v0 rfl) a0)) e3))).trans ((seq_nx (set_ev e5)).trans (ret_ev (bindA_ev (aCons_ev c0 (aCons_ev (v0 rfl) (aCons_ev hv (aCons_ev (v0 rfl) a0)))) rfl))))))))), hr, D.mono h5 (by omega)⟩
  by_cases hwc : w = [c]
  · rw [decide_eq_true hwc] at g6
    exact fin [] ((ifV_f g6).trans c0) ⟨hc, fun a ha => absurd ha List.not_mem_nil, (fun z => by cases z), Nat.zero_le _⟩
  · rw [decide_eq_false hwc] at g6
    exact fin w ((ifV_t g6).trans (v0 rfl)) ⟨hc, hw, hwc, by omega⟩

/-- a page's letters and rules -/
structure Page (M R : Nat) (L : List Nat) (E : Ents) (rs : List Ru) : Prop where
  n : L.length ≤ M
  nd : L.Nodup
  lo : ∀ c ∈ L, 97 ≤ c ∧ c ≤ 122
  row : RowE L E
  rn : rs.length ≤ R
  ru : ∀ r ∈ rs, ruL L r
theorem rus_of {L : List Nat} : ∀ {ds : List Dt}, (∀ d ∈ ds, ∃ r, d = Ru.d r ∧ ruL L r) → ∃ rs : List Ru, ds = rs.map Ru.d ∧ rs.length = ds.length ∧ ∀ r ∈ rs, ruL L r
  | [], _ => ⟨[], rfl, rfl, fun c hc => absurd hc List.not_mem_nil⟩
  | d :: ds, h => by
    obtain ⟨w, e, hl, hc⟩ := rus_of (ds := ds) fun z hz => h z (List.mem_cons_of_mem _ hz)
    obtain ⟨r, rfl, hr⟩ := h d List.mem_cons_self
    refine ⟨r :: w, by rw [e]; rfl, by rw [List.length_cons, List.length_cons, hl], fun x hx => ?_⟩
    rcases List.mem_cons.mp hx with rfl | hx
    · exact hr
    · exact hc x hx
theorem page_sp (D : Dip dp Sp) {p : Addr} {n M R : Nat} {s : Sto} (hM : M ≤ 8) (hR : R ≤ 10) (h : Sp p n s) (hn : n < 700000) :
    ∃ L E rs s', (V_law_page_k01 dp) [.ref p, .int ((M : Nat) : Int), .int ((R : Nat) : Int)] s = some (bookD (sortE E) rs, s') ∧ Page M R L E rs ∧ Sp p (n + 140) s' := by
  obtain ⟨r, s1, e1, r1, r2, h1⟩ := D.draw (m := 2) h (by omega) (by decide) (by decide)
  obtain ⟨m, s2, e2, hm, h2⟩ : ∃ (m : Nat) (s2 : Sto), ifV (asB (bind2 (callF dp (aCons (fVar 0) (aCons (fC (.int 2)) aNil))) (fC (.int 0)) eqG)) (fVar 1) (callF dp (aCons (fVar 0) (aCons (bind2 (fVar 1) (fC (.int 1)) addAll) aNil))) [some (.ref p), some (.int ((M : Nat) : Int)), some (.int ((R : Nat) : Int)), none, none, none] s = some (.int ((m : Nat) : Int), s2) ∧ m ≤ M ∧ Sp p (n + 2) s2 := by
    have t : asB (bind2 (callF dp (aCons (fVar 0) (aCons (fC (.int 2)) aNil))) (fC (.int 0)) eqG) [some (.ref p), some (.int ((M : Nat) : Int)), some (.int ((R : Nat) : Int)), none, none, none] s = some (decide (r = 0), s1) := asB_ev (bind2_ev (call_ev (aCons_ev (v0 rfl) (aCons_ev c0 a0)) e1) c0 rfl)
    by_cases h0 : r = 0
    · rw [decide_eq_true h0] at t
      exact ⟨M, s1, (ifV_t t).trans (v0 rfl), Nat.le_refl _, D.mono h1 (by omega)⟩
    · rw [decide_eq_false h0] at t
      obtain ⟨q, s2, e2, q1, q2, h2⟩ := D.draw (m := ((M + 1 : Nat) : Int)) h1 (by omega) (by omega) (by omega)
      obtain ⟨m, rfl⟩ := Int.eq_ofNat_of_zero_le q1
      exact ⟨m, s2, (ifV_f t).trans (call_ev (aCons_ev (v0 rfl) (aCons_ev (bind2_ev (v0 rfl) c0 add_n1) a0)) e2), by omega, h2⟩
  obtain ⟨L, s3, e3, hnd, hl, hlo, h3⟩ := signs_sp D (M := m) (by omega) h2 (by omega)
  obtain ⟨E, s4, e4, hE, h4⟩ := rows_sp D (L := L) (by omega) hnd h3 (by omega)
  obtain ⟨q, s5, e5, q1, q2, h5⟩ := D.draw (m := ((R + 1 : Nat) : Int)) h4 (by omega) (by omega) (by omega)
  obtain ⟨k, rfl⟩ := Int.eq_ofNat_of_zero_le q1
  obtain ⟨ds, s6, e6, hlen, hq, h6⟩ := lc_sp (te := callF (V_law_norm_k01 dp) (aCons (fVar 0) (aCons (fVar 3) aNil))) (k := 5) (vs := [5]) (fi := rngF1 (callF dp (aCons (fVar 0) (aCons (bind2 (fVar 2) (fC (.int 1)) addAll) aNil)))) (env := [some (.ref p), some (.int ((M : Nat) : Int)), some (.int ((R : Nat) : Int)), some (.lst (onesD L)), some (.tup (entL (sortE E))), none]) (s := s4) (s1 := s5) (fun d => ∃ r, d = Ru.d r ∧ ruL L r) 7 790000 (xs := List.range k) (enc := fun i => .int (0 + ((i : Nat) : Int)))
    (rng_ev (m := ((k : Nat) : Int)) (call_ev (aCons_ev (v0 rfl) (aCons_ev (bind2_ev (v0 rfl) c0 add_n1) a0)) e5) (by omega) (by omega)) (by rw [List.length_range]; omega) h5 (by rw [List.length_range]; omega) (fun x hx n s h hn => by
      obtain ⟨r, s', e, hr, h'⟩ := norm_sp D (L := L) (by omega) hlo h (by omega)
      exact ⟨_, s', call_ev (aCons_ev (v0 rfl) (aCons_ev (v0 rfl) a0)) e, ⟨r, rfl, hr⟩, h'⟩)
  obtain ⟨rs, rfl, hrl, hru⟩ := rus_of hq
  rw [List.length_range] at hlen h6
  refine ⟨L, E, rs, s6, fn_rt ?_, ⟨by omega, hnd, hlo, hE, by omega, hru⟩, D.mono h6 (by omega)⟩
  have g1 : toTupG s6 [.lst (rs.map Ru.d)] = some (.tup (rs.map Ru.d)) := rfl
  refine (seq_nx (set_ev (call_ev (aCons_ev (v0 rfl) (aCons_ev e2 a0)) e3))).trans ?_
  refine (seq_nx (set_ev (call_ev (aCons_ev (v0 rfl) (aCons_ev (v0 rfl) a0)) e4))).trans ?_
  exact ret_ev (bindA_ev (aCons_ev (v0 rfl) (aCons_ev (bindA_ev (aCons_ev e6 a0) g1) a0)) rfl)
theorem lword_sp (D : Dip dp Sp) {p : Addr} {n M : Nat} {L : List Nat} {s : Sto} (hM : M ≤ 100) (hM1 : 1 ≤ M) (hL : L.length ≤ 8) (hlo : ∀ c ∈ L, 97 ≤ c ∧ c ≤ 122) (h : Sp p n s) (hn : n < 800000) :
    ∃ w s', (V_law_word_k01 dp) [.ref p, .lst (onesD L), .int ((M : Nat) : Int)] s = some (wd w, s') ∧ (∀ c ∈ w, c ∈ L) ∧ w.length ≤ M ∧ Sp p (n + (M + 2)) s' := by
  have t0 : asB (bind2 (fVar 1) (bindA aNil lstG) eqG) [some (.ref p), some (.lst (onesD L)), some (.int ((M : Nat) : Int)), none, none] s = some (L.isEmpty, s) := asB_ev (bind2_ev (v0 rfl) (bindA_ev a0 rfl) (eq_ones hlo))
  cases hq : L.isEmpty with
  | true =>
    rw [hq] at t0
    exact ⟨[], s, fn_rt (seq_rt ((if_t t0).trans (ret_ev c0))), fun c hc => absurd hc List.not_mem_nil, Nat.zero_le _, D.mono h (by omega)⟩
  | false =>
    rw [hq] at t0
    have hne : L ≠ [] := fun z => by rw [z] at hq; cases hq
    obtain ⟨r, s1, e1, r1, r2, h1⟩ := D.draw (m := 2) h (by omega) (by decide) (by decide)
    obtain ⟨m, s2, e2, hm, h2⟩ : ∃ (m : Nat) (s2 : Sto), ifV (asB (bind2 (callF dp (aCons (fVar 0) (aCons (fC (.int 2)) aNil))) (fC (.int 0)) eqG)) (bind2 (fVar 2) (callF dp (aCons (fVar 0) (aCons (fC (.int 2)) aNil))) subG) (callF dp (aCons (fVar 0) (aCons (bind2 (fVar 2) (fC (.int 1)) addAll) aNil))) [some (.ref p), some (.lst (onesD L)), some (.int ((M : Nat) : Int)), none, none] s = some (.int ((m : Nat) : Int), s2) ∧ m ≤ M ∧ Sp p (n + 2) s2 := by
      have t : asB (bind2 (callF dp (aCons (fVar 0) (aCons (fC (.int 2)) aNil))) (fC (.int 0)) eqG) [some (.ref p), some (.lst (onesD L)), some (.int ((M : Nat) : Int)), none, none] s = some (decide (r = 0), s1) := asB_ev (bind2_ev (call_ev (aCons_ev (v0 rfl) (aCons_ev c0 a0)) e1) c0 rfl)
      by_cases h0 : r = 0
      · rw [decide_eq_true h0] at t
        obtain ⟨q, s2, e2, q1, q2, h2⟩ := D.draw (m := 2) h1 (by omega) (by decide) (by decide)
        obtain ⟨k, rfl⟩ := Int.eq_ofNat_of_zero_le q1
        exact ⟨M - k, s2, (ifV_t t).trans (bind2_ev (v0 rfl) (call_ev (aCons_ev (v0 rfl) (aCons_ev c0 a0)) e2) (sub_nn (by omega))), by omega, h2⟩
      · rw [decide_eq_false h0] at t
        obtain ⟨q, s2, e2, q1, q2, h2⟩ := D.draw (m := ((M + 1 : Nat) : Int)) h1 (by omega) (by omega) (by omega)
        obtain ⟨m, rfl⟩ := Int.eq_ofNat_of_zero_le q1
        exact ⟨m, s2, (ifV_f t).trans (call_ev (aCons_ev (v0 rfl) (aCons_ev (bind2_ev (v0 rfl) c0 add_n1) a0)) e2), by omega, h2⟩
    obtain ⟨w, s3, e3, hwl, hw, h3⟩ := picks_sp D (m := m) (k := 4) (ip := 0) (il := 1) (vs := [4]) (L := L) (env := [some (.ref p), some (.lst (onesD L)), some (.int ((M : Nat) : Int)), some (.int ((m : Nat) : Int)), none]) (f := fVar 3) (s := s2)
      (rng_ev (m := ((m : Nat) : Int)) (v0 rfl) (by omega) (by omega)) (by omega) hne (by omega) h2 (by omega) (fun _ => rfl) fun _ => rfl
    exact ⟨w, s3, fn_rt ((seq_nx ((if_f t0).trans rfl)).trans ((seq_nx (set_ev e2)).trans (ret_ev e3))), hw, by omega, D.mono h3 (by omega)⟩
theorem lletters_ok {E : Ents} {s : Sto} (R : Dt) (hn : E.length ≤ 100) : V_law_letters_k01 [.tup [.tup (entL E), R]] s = some (.lst (onesD (E.map (·.1))), s) := by
  refine fn_rt (ret_ev ?_)
  refine (lc_y (xs := E) (enc := fun e => .tup [wd [e.1], .tup (e.2.map fun c => wd [c])]) (g := fun e => wd [e.1]) (s1 := s) (seq_tup (bind2_ev (v0 rfl) c0 rfl)) (small (by omega)) fun e he => ?_).trans ?_
  · exact bind2_ev (v0 rfl) c0 rfl
  · unfold onesD
    rw [List.map_map]
    rfl

end DL
namespace DL
open PySem PySem.Spec PyProof.Rows L2
local macro_rules | `(tactic| walk_at "op") => `(tactic| first | assumption | with_reducible rfl | exact cat_w (by omega) | exact sub_nn (by omega) | exact add_nn | exact at_w (by omega) (by assumption) | exact len_w (by omega) | exact in_l1 | exact notin_l1 | exact in_t1 | exact notin_t1 | exact in_k1 | exact notin_k1 | exact in_wl | exact notin_wl | exact in_wt | exact notin_wt | exact in_kd | exact notin_kd | exact eq_ww | exact ne_ww | exact any_bl | exact all_bl | rfl)
local macro_rules | `(tactic| walk_at "ev") => `(tactic| first | with_reducible exact c0 | ((with_reducible apply v0); rfl) | with_reducible exact a0 | with_reducible assumption | ((with_reducible apply aCons_ev); (focus walk_at "ev"); (focus walk_at "ev")) | ((with_reducible apply bindA_ev); (focus walk_at "ev"); (focus walk_at "op")) | ((with_reducible apply bind2_ev); (focus walk_at "ev"); (focus walk_at "ev"); (focus walk_at "op")) | ((with_reducible apply bind1_ev); (focus walk_at "ev"); (focus walk_at "op")) | ((with_reducible apply asB_ev); (focus walk_at "ev")) | ((with_reducible apply call_ev); (focus walk_at "ev"); (focus first | assumption | rfl)) | ((with_reducible apply truF_ev); (focus walk_at "ev"); (focus first | assumption | rfl)) | ((with_reducible apply notT_ev); (focus walk_at "ev")) | ((with_reducible apply andT_e); (focus walk_at "ev"); (focus (intro hq; walk_at "ev"))) | ((with_reducible apply orT_e); (focus walk_at "ev"); (focus (intro hq; walk_at "ev"))) | ((with_reducible apply seq_tup); (focus walk_at "ev")) | ((with_reducible apply seq_lst); (focus walk_at "ev")) | ((with_reducible apply seq_str); (focus walk_at "ev")))
/-! ### at a letter or below it -/
def lowB (E : Ents) (a c : Nat) : Bool := decide (a = c) || decide (a ∈ downN E c)
abbrev LowP (E : Ents) : Nat → Nat → Prop := fun a c => lowB E a c = true
theorem lowP_iff {E : Ents} (h : ClE E) {a c : Nat} : LowP E a c ↔ a = c ∨ Rch E c a := by
  show lowB E a c = true ↔ _
  unfold lowB
  rw [Bool.or_eq_true, decide_eq_true_iff, decide_eq_true_iff, down_mem h]
theorem lowP_trans {E : Ents} (h : ClE E) {a b c : Nat} (h1 : LowP E a b) (h2 : LowP E b c) : LowP E a c := by
  rw [lowP_iff h] at *
  rcases h1 with rfl | h1
  · exact h2
  · rcases h2 with rfl | h2
    · exact .inr h1
    · exact .inr (h2.trans h1)
section
variable {P : Nat → Nat → Prop}
theorem Emb.tail {a : Nat} {u v : List Nat} (h : Emb P (a :: u) v) : Emb P u v := by
  generalize hx : a :: u = x at h
  induction h with
  | nil v => cases hx
  | skip _ ih => exact .skip (ih hx)
  | take _ h _ => cases hx; exact .skip h
theorem Emb.trans (hp : ∀ {a b c}, P a b → P b c → P a c) {x y z : List Nat} (h : Emb P x y) (h' : Emb P y z) : Emb P x z := by
  induction h' generalizing x with
  | nil v => cases h with | nil => exact .nil _
  | skip _ ih => exact .skip (ih h)
  | take p _ ih =>
    cases h with
    | nil => exact .nil _
    | skip h => exact .skip (ih h)
    | take q h => exact .take (hp q p) (ih h)
theorem Emb.len {u v : List Nat} (h : Emb P u v) : u.length ≤ v.length := by
  induction h with
  | nil v => exact Nat.zero_le _
  | skip _ ih => exact Nat.le_succ_of_le ih
  | take _ _ ih => exact Nat.succ_le_succ ih
theorem Emb.snoc {u v : List Nat} {c : Nat} : Emb P u (v ++ [c]) ↔ Emb P u v ∨ ∃ t a, u = t ++ [a] ∧ Emb P t v ∧ P a c := by
  constructor
  · intro h
    generalize hx : v ++ [c] = x at h
    induction h generalizing v with
    | nil _ => exact .inl (.nil _)
    | @skip d u' v' h ih =>
      cases v with
      | nil =>
        cases hx
        cases h
        exact .inl (.nil _)
      | cons e v =>
        cases hx
        rcases ih rfl with z | ⟨t, a, e1, e2, e3⟩
        · exact .inl (.skip z)
        · exact .inr ⟨t, a, e1, .skip e2, e3⟩
    | @take b d u' v' p h ih =>
      cases v with
      | nil =>
        cases hx
        cases h
        exact .inr ⟨[], b, rfl, .nil _, p⟩
      | cons e v =>
        cases hx
        rcases ih rfl with z | ⟨t, a, e1, e2, e3⟩
        · exact .inl (.take p z)
        · exact .inr ⟨b :: t, a, by rw [e1]; rfl, .take p e2, e3⟩
  · rintro (h | ⟨t, a, rfl, h, p⟩)
    · have := h.app (.nil [c] : Emb P [] [c])
      rwa [List.append_nil] at this
    · exact h.app (.take p (.nil []))
end
/-! ### letter by letter -/
def grd (E : Ents) (u : List Nat) : Nat → List Nat → Nat
  | i, [] => i
  | i, c :: v => grd E u (if (decide (i < u.length) && lowB E (u.getD i 0) c) = true then i + 1 else i) v
def embB (E : Ents) (u v : List Nat) : Bool := decide (grd E u 0 v = u.length)
theorem grd_iff {E : Ents} {u : List Nat} : ∀ {v : List Nat} {i : Nat}, i ≤ u.length → (grd E u i v = u.length ↔ Emb (LowP E) (u.drop i) v)
  | [], i, hi => by
    show i = u.length ↔ _
    constructor
    · rintro rfl
      rw [List.drop_length]
      exact .nil _
    · intro h
      have := h.len
      rw [List.length_drop] at this
      simp only [List.length_nil] at this
      omega
  | c :: v, i, hi => by
    show grd E u (if (decide (i < u.length) && lowB E (u.getD i 0) c) = true then i + 1 else i) v = u.length ↔ _
    by_cases h1 : i < u.length
    · have ed : u.drop i = u.getD i 0 :: u.drop (i + 1) := by
        rw [List.drop_eq_getElem_cons h1, List.getD_eq_getElem?_getD, List.getElem?_eq_getElem h1]; rfl
      rw [decide_eq_true h1, Bool.true_and]
      by_cases h2 : lowB E (u.getD i 0) c = true
      · rw [if_pos h2, grd_iff (v := v) (i := i + 1) h1, ed]
        constructor
        · exact fun h => .take h2 h
        · intro h
          cases h with
          | skip h => exact h.tail
          | take _ h => exact h
      · rw [if_neg h2, grd_iff (v := v) hi, ed]
        constructor
        · exact fun h => .skip h
        · intro h
          cases h with
          | skip h => exact h
          | take p _ => exact absurd p h2
    · rw [decide_eq_false h1, Bool.false_and, if_neg Bool.false_ne_true, grd_iff (v := v) hi, List.drop_of_length_le (by omega)]
      exact ⟨fun _ => .nil _, fun _ => .nil _⟩
theorem embB_iff {E : Ents} {u v : List Nat} : embB E u v = true ↔ Emb (LowP E) u v := by
  unfold embB
  rw [decide_eq_true_iff, grd_iff (Nat.zero_le _), List.drop_zero]
/-! ### all that are at most a word -/
def addU (K : List (List Nat)) (x : List Nat) : List (List Nat) := if x ∈ K then K else K ++ [x]
theorem addU_mem {K : List (List Nat)} {x y : List Nat} : y ∈ addU K x ↔ y ∈ K ∨ y = x := by
  unfold addU
  split
  · rename_i h
    exact ⟨.inl, fun z => z.elim (fun z => z) fun z => z ▸ h⟩
  · rw [List.mem_append, List.mem_singleton]
theorem addU_nd {K : List (List Nat)} {x : List Nat} (h : K.Nodup) : (addU K x).Nodup := by
  unfold addU
  split
  · exact h
  · rename_i hx
    exact List.nodup_append.mpr ⟨h, List.pairwise_singleton _ _, fun a ha b hb e => hx (by rw [List.mem_singleton.mp hb] at e; exact e ▸ ha)⟩
theorem addU_len {K : List (List Nat)} {x : List Nat} : (addU K x).length ≤ K.length + 1 := by
  unfold addU
  split
  · exact Nat.le_succ _
  · rw [List.length_append]; exact Nat.le_refl _
def addsU (K l : List (List Nat)) : List (List Nat) := l.foldl addU K
theorem addsU_mem {y : List Nat} : ∀ {l K : List (List Nat)}, y ∈ addsU K l ↔ y ∈ K ∨ y ∈ l
  | [], K => ⟨.inl, fun h => h.elim (fun z => z) fun z => absurd z List.not_mem_nil⟩
  | x :: l, K => by
    show y ∈ addsU (addU K x) l ↔ _
    rw [addsU_mem, addU_mem, List.mem_cons, or_assoc]
theorem addsU_nd : ∀ {l K : List (List Nat)}, K.Nodup → (addsU K l).Nodup
  | [], _, h => h
  | x :: l, _, h => addsU_nd (l := l) (addU_nd h)
theorem addsU_len : ∀ {l K : List (List Nat)}, (addsU K l).length ≤ K.length + l.length
  | [], _ => Nat.le_refl _
  | x :: l, K => by
    have h1 := addsU_len (l := l) (K := addU K x)
    have h2 := addU_len (K := K) (x := x)
    show (addsU (addU K x) l).length ≤ _
    rw [List.length_cons]
    omega
theorem addsU_app (K l m : List (List Nat)) : addsU K (l ++ m) = addsU (addsU K l) m := List.foldl_append ..
def moreW (E : Ents) (c : Nat) (t : List Nat) : List (List Nat) := (c :: downN E c).map fun a => t ++ [a]
def tamS (E : Ents) (K : List (List Nat)) (c : Nat) : List (List Nat) := addsU K (K.flatMap (moreW E c))
def tamN (E : Ents) (w : List Nat) : List (List Nat) := w.foldl (tamS E) [[]]
theorem tam_snoc (E : Ents) (w : List Nat) (c : Nat) : tamN E (w ++ [c]) = tamS E (tamN E w) c := by unfold tamN; rw [List.foldl_append]; rfl
theorem moreW_mem {E : Ents} {c : Nat} {t y : List Nat} : y ∈ moreW E c t ↔ ∃ a, y = t ++ [a] ∧ LowP E a c := by
  unfold moreW
  rw [List.mem_map]
  constructor
  · rintro ⟨a, ha, rfl⟩
    refine ⟨a, rfl, ?_⟩
    show lowB E a c = true
    unfold lowB
    rcases List.mem_cons.mp ha with rfl | ha
    · rw [decide_eq_true rfl]; rfl
    · rw [decide_eq_true ha, Bool.or_true]
  · rintro ⟨a, rfl, ha⟩
    refine ⟨a, ?_, rfl⟩
    have ha' : lowB E a c = true := ha
    unfold lowB at ha'
    rw [Bool.or_eq_true, decide_eq_true_iff, decide_eq_true_iff] at ha'
    exact List.mem_cons.mpr ha'
theorem list_snoc {α : Type} {p : List α → Prop} (h0 : p []) (h1 : ∀ l a, p l → p (l ++ [a])) (l : List α) : p l := by
  have key : ∀ n (l : List α), l.length = n → p l := by
    intro n
    induction n with
    | zero => intro l hl; rw [List.eq_nil_of_length_eq_zero hl]; exact h0
    | succ n ih =>
      intro l hl
      have hne : l ≠ [] := fun z => by rw [z] at hl; cases hl
      rw [← List.dropLast_concat_getLast hne]
      exact h1 _ _ (ih _ (by rw [List.length_dropLast]; omega))
  exact key l.length l rfl
theorem tam_mem {E : Ents} (w : List Nat) : ∀ {y : List Nat}, y ∈ tamN E w ↔ Emb (LowP E) y w := by
  refine list_snoc (p := fun w => ∀ {y : List Nat}, y ∈ tamN E w ↔ Emb (LowP E) y w) ?_ ?_ w
  · intro y
    show y ∈ [[]] ↔ _
    rw [List.mem_singleton]
    constructor
    · rintro rfl; exact .nil _
    · intro h
      have := h.len
      exact List.eq_nil_of_length_eq_zero (by simpa using this)
  · intro w c ih y
    rw [tam_snoc, Emb.snoc]
    unfold tamS
    rw [addsU_mem, ih, List.mem_flatMap]
    refine or_congr_right ?_
    constructor
    · rintro ⟨t, ht, hy⟩
      obtain ⟨a, rfl, ha⟩ := moreW_mem.mp hy
      exact ⟨t, a, rfl, ih.mp ht, ha⟩
    · rintro ⟨t, a, rfl, ht, ha⟩
      exact ⟨t, ih.mpr ht, moreW_mem.mpr ⟨a, rfl, ha⟩⟩
theorem tam_nd {E : Ents} (w : List Nat) : (tamN E w).Nodup := by
  refine list_snoc (p := fun w => (tamN E w).Nodup) (List.pairwise_singleton _ _) (fun w c ih => ?_) w
  rw [tam_snoc]
  exact addsU_nd ih
theorem flat_len {α β : Type} {f : α → List β} {m : Nat} : ∀ {l : List α}, (∀ x ∈ l, (f x).length ≤ m) → (l.flatMap f).length ≤ l.length * m
  | [], _ => Nat.zero_le _
  | x :: l, h => by
    rw [List.flatMap_cons, List.length_append, List.length_cons, Nat.succ_mul]
    have h1 := h x List.mem_cons_self
    have h2 := flat_len (l := l) fun y hy => h y (List.mem_cons_of_mem _ hy)
    omega
theorem tamS_len {E : Ents} (h : ClE E) {M : Nat} (hM : E.length ≤ M) (K : List (List Nat)) (c : Nat) : (tamS E K c).length ≤ K.length * (M + 2) := by
  have h1 := addsU_len (K := K) (l := K.flatMap (moreW E c))
  have h2 := flat_len (l := K) (f := moreW E c) (m := M + 1) fun x hx => by
    unfold moreW
    rw [List.length_map, List.length_cons]
    have := down_len h c
    omega
  have h3 : K.length * (M + 2) = K.length * (M + 1) + K.length := by rw [show M + 2 = M + 1 + 1 from rfl, Nat.mul_succ]
  unfold tamS
  omega
theorem tam_len {E : Ents} (h : ClE E) {M : Nat} (hM : E.length ≤ M) (w : List Nat) : (tamN E w).length ≤ (M + 2) ^ w.length := by
  refine list_snoc (p := fun w => (tamN E w).length ≤ (M + 2) ^ w.length) (Nat.le_refl _) (fun w c ih => ?_) w
  rw [tam_snoc, List.length_append, List.length_singleton, Nat.pow_succ]
  exact Nat.le_trans (tamS_len h hM _ c) (Nat.mul_le_mul_right _ ih)
/-! ### words in order -/
def sortW (K : List (List Nat)) : List (List Nat) := sortK (fun w => strW w) K
theorem sortW_mem {K : List (List Nat)} {y : List Nat} : y ∈ sortW K ↔ y ∈ K := (sortK_perm K).mem_iff
theorem sortW_len (K : List (List Nat)) : (sortW K).length = K.length := (sortK_perm K).length_eq
theorem sortW_eq {K K' : List (List Nat)} (h : K.Nodup) (h' : K'.Nodup) (e : ∀ y, y ∈ K ↔ y ∈ K') : sortW K = sortW K' := by
  have p : K.Perm K' := (List.perm_ext_iff_of_nodup h h').mpr e
  exact sortK_eq ((sortK_perm K).trans p) (sortK_sorted K) fun a b _ _ z => strW_inj z
theorem sorted_words {s : Sto} (K : List (List Nat)) : sortedG_ s [.lst (K.map wd)] = some (.lst ((sortW K).map wd)) := by
  have e : K.map wd = (K.map strW).map Dt.str := by rw [List.map_map]; rfl
  unfold sortedG_ sortedStrG
  dsimp only
  rw [e, strsOf_map]
  dsimp only
  unfold sortS sortW
  rw [← sortK_map (k := fun x => x) (f := strW) K, List.map_map]
  rfl

end DL
namespace DL
open PySem PySem.Spec PyProof.Rows L2
local macro_rules | `(tactic| walk_at "op") => `(tactic| first | assumption | with_reducible rfl | exact cat_w (by omega) | exact sub_nn (by omega) | exact add_nn | exact at_w (by omega) (by assumption) | exact len_w (by omega) | exact in_l1 | exact notin_l1 | exact in_t1 | exact notin_t1 | exact in_k1 | exact notin_k1 | exact in_wl | exact notin_wl | exact in_wt | exact notin_wt | exact in_kd | exact notin_kd | exact eq_ww | exact ne_ww | exact any_bl | exact all_bl | rfl)
local macro_rules | `(tactic| walk_at "ev") => `(tactic| first | with_reducible exact c0 | ((with_reducible apply v0); rfl) | with_reducible exact a0 | with_reducible assumption | ((with_reducible apply aCons_ev); (focus walk_at "ev"); (focus walk_at "ev")) | ((with_reducible apply bindA_ev); (focus walk_at "ev"); (focus walk_at "op")) | ((with_reducible apply bind2_ev); (focus walk_at "ev"); (focus walk_at "ev"); (focus walk_at "op")) | ((with_reducible apply bind1_ev); (focus walk_at "ev"); (focus walk_at "op")) | ((with_reducible apply asB_ev); (focus walk_at "ev")) | ((with_reducible apply call_ev); (focus walk_at "ev"); (focus first | assumption | rfl)) | ((with_reducible apply truF_ev); (focus walk_at "ev"); (focus first | assumption | rfl)) | ((with_reducible apply notT_ev); (focus walk_at "ev")) | ((with_reducible apply andT_e); (focus walk_at "ev"); (focus (intro hq; walk_at "ev"))) | ((with_reducible apply orT_e); (focus walk_at "ev"); (focus (intro hq; walk_at "ev"))) | ((with_reducible apply seq_tup); (focus walk_at "ev")) | ((with_reducible apply seq_lst); (focus walk_at "ev")) | ((with_reducible apply seq_str); (focus walk_at "ev")))
/-! ### dicts of words -/
abbrev trW (K : List (List Nat)) : List (Key × Dt) := K.map fun w => (.inr (strW w), .bl true)
theorem put_trW {K : List (List Nat)} {x : List Nat} : putD (trW K) (.inr (strW x)) (.bl true) = trW (addU K x) := by
  unfold addU
  by_cases h : x ∈ K
  · rw [if_pos h]
    unfold putD
    have e : (trW K).any (fun kv => decide (kv.1 = (.inr (strW x) : Key))) = true := by
      rw [List.any_eq_true]
      exact ⟨_, List.mem_map.mpr ⟨x, h, rfl⟩, decide_eq_true rfl⟩
    rw [if_pos e]
    unfold trW
    rw [List.map_map]
    refine List.map_congr_left fun w hw => ?_
    show (if (.inr (strW w) : Key) = .inr (strW x) then ((.inr (strW w) : Key), Dt.bl true) else ((.inr (strW w) : Key), Dt.bl true)) = _
    split <;> rfl
  · rw [if_neg h]
    have := put_new (l := K) (f := fun w => w) (g := fun _ => Dt.bl true) (x := x) (d := .bl true) (by rw [List.map_id']; exact h)
    refine this.trans ?_
    unfold trW
    rw [List.map_append]
    rfl
theorem keys_trW (K : List (List Nat)) : (trW K).map (fun kv => keyD kv.1) = K.map wd := by rw [List.map_map]; rfl
/-! ### dict comprehensions -/
section
variable {α : Type} {enc : α → Dt} {fi : Fi} {tk te : Fe} {w env : Env} {k : Nat} {vs : List Nat} {s s1 : Sto} {f : α → List Nat} {g : α → Dt}
theorem dcL_e : ∀ {xs pre : List α}, ((pre ++ xs).map f).Nodup → (pre ++ xs).length < 16777215 → (∀ x, x ∈ xs → tk (w.set k (some (enc x))) s = some (wd (f x), s)) → (∀ x, x ∈ xs → te (w.set k (some (enc x))) s = some (g x, s)) →
    dcL (tgN k) yesT tk te w (xs.map enc) (pre.map fun x => (.inr (strW (f x)), g x)) s = some ((pre ++ xs).map fun x => (.inr (strW (f x)), g x), s)
  | [], pre, _, _, _, _ => by rw [List.append_nil]; rfl
  | x :: xs, pre, hn, hl, h1, h2 => by
    rw [List.map_cons]
    unfold dcL
    simp only [tgN, yesT]
    rw [h1 x List.mem_cons_self]
    dsimp only
    rw [h2 x List.mem_cons_self]
    dsimp only
    have hk : keyOf (wd (f x)) = some (.inr (strW (f x))) := rfl
    rw [hk]
    dsimp only
    rw [if_pos (by rw [List.length_map]; exact small' (by rw [List.length_append, List.length_cons] at hl; omega))]
    have hx : f x ∉ pre.map f := fun hm => by
      rw [List.map_append] at hn
      exact (List.nodup_append.mp hn).2.2 _ hm _ List.mem_cons_self rfl
    rw [put_new hx]
    have ih := dcL_e (xs := xs) (pre := pre ++ [x]) (by rw [List.append_assoc]; exact hn) (by rw [List.append_assoc]; exact hl) (fun y hy => h1 y (List.mem_cons_of_mem _ hy)) fun y hy => h2 y (List.mem_cons_of_mem _ hy)
    rw [List.map_append, List.append_assoc] at ih
    exact ih
theorem dc_e {xs : List α} (hi : fi env s = some (xs.map enc, s1)) (hn : (xs.map f).Nodup) (hl : xs.length < 16777215) (h1 : ∀ x, x ∈ xs → tk ((wipeE env vs).set k (some (enc x))) s1 = some (wd (f x), s1)) (h2 : ∀ x, x ∈ xs → te ((wipeE env vs).set k (some (enc x))) s1 = some (g x, s1)) :
    dcF fi (tgN k) yesT tk te vs env s = some (.dct (xs.map fun x => (.inr (strW (f x)), g x)), s1) := by
  unfold dcF
  rw [hi]
  dsimp only
  have := dcL_e (tk := tk) (te := te) (w := wipeE env vs) (k := k) (s := s1) (f := f) (g := g) (xs := xs) (pre := []) hn hl h1 h2
  have e : dcL (tgN k) yesT tk te (wipeE env vs) (xs.map enc) [] s1 = some (xs.map fun x => (.inr (strW (f x)), g x), s1) := this
  rw [e]
end
/-! ### what is at or below each letter -/
def downsD (E : Ents) : Dt := .dct ((E.map (·.1)).map fun c => (.inr (strW [c]), .tup (onesD (c :: downN E c))))
section
variable {E : Ents} {s : Sto}
theorem downs_ok (hE : ClE E) (R : Dt) : Vdowns_of [.tup [.tup (entL E), R]] s = some (downsD E, s) := by
  have g1 := (toDct_ent s hE.ok.nd).1
  have g2 : ixA s (.tup [.tup (entL E), R]) (.int 0) = some (.tup (entL E)) := rfl
  have g1' : toDctG s [.tup (entL E)] = some (edD E) := g1
  refine fn_rt ((seq_nx (set_ev (bindA_ev (aCons_ev (by walk_at "ev") a0) g1'))).trans (ret_ev ?_))
  have hseq : seqF (fVar 1) [some (.tup [.tup (entL E), R]), some (edD E), none] s = some ((E.map (·.1)).map fun c => wd [c], s) := (seq_dct (ks := E.map prD) (v0 rfl)).trans (by rw [List.map_map, List.map_map]; rfl)
  refine dc_e (env := [some (.tup [.tup (entL E), R]), some (edD E), none]) (k := 2) (vs := [2]) (xs := E.map (·.1)) (enc := fun c => wd [c]) (f := fun c => [c]) (g := fun c => .tup (onesD (c :: downN E c))) (s1 := s) hseq ?_ (by rw [List.length_map]; have := hE.n; omega) (fun c hc => ?_) fun c hc => ?_
  · exact List.Pairwise.map _ (fun a b hab e => hab (by simpa using e)) hE.ok.nd
  · exact v0 rfl
  · have g3 := reached_ok hE hc s
    have g4 : tupG s [wd [c]] = some (.tup [wd [c]]) := rfl
    have g5 : addAll s (.tup [wd [c]]) (.tup (onesD (downN E c))) = some (.tup (onesD (c :: downN E c))) := by
      have := cat_t (s := s) (a := [wd [c]]) (b := onesD (downN E c)) (by rw [List.length_singleton, List.length_map]; have := down_len hE c; have := hE.n; omega)
      exact this
    exact bind2_ev (bindA_ev (aCons_ev (v0 rfl) a0) g4) (call_ev (aCons_ev (v0 rfl) (aCons_ev (v0 rfl) a0)) g3) g5
theorem get_kd {g : Nat → Dt} {c : Nat} : ∀ {l : List Nat}, c ∈ l → valD (l.map fun c => ((.inr (strW [c]) : Key), g c)) (.inr (strW [c])) = some (g c)
  | [], h => absurd h List.not_mem_nil
  | d :: l, h => by
    have ih := get_kd (g := g) (c := c) (l := l)
    rw [List.map_cons]
    unfold valD at ih ⊢
    rw [List.find?_cons]
    by_cases e : d = c
    · subst e
      rw [show decide ((.inr (strW [d]) : Key) = .inr (strW [d])) = true from decide_eq_true rfl]
      rfl
    · rw [show decide ((.inr (strW [d]) : Key) = .inr (strW [c])) = false from decide_eq_false fun z => e (by have := strW_inj (Sum.inr.inj z); cases this; rfl)]
      exact ih ((List.mem_cons.mp h).elim (fun z => absurd z.symm e) fun z => z)
theorem get_down {c : Nat} (h : c ∈ E.map (·.1)) : ixA s (downsD E) (wd [c]) = some (.tup (onesD (c :: downN E c))) := get_kd h
theorem in_down {a c : Nat} : inA s (wd [a]) (.tup (onesD (c :: downN E c))) = some (.bl (lowB E a c)) := by
  rw [in_t1]
  unfold lowB
  congr 2
  rw [Bool.eq_iff_iff, Bool.or_eq_true, decide_eq_true_iff, decide_eq_true_iff, decide_eq_true_iff, List.mem_cons]
theorem comes_ok {u v : List Nat} (hv : ∀ c ∈ v, c ∈ E.map (·.1)) (hu : u.length ≤ 1000) : Vcomes_from [downsD E, wd u, wd v] s = some (.bl (embB E u v), s) := by
  refine fn_rt ((seq_nx (set_ev c0)).trans ?_)
  have key := for_pre (xs := v) (enc := fun c => wd [c]) (i := 4) (F := (ifS (andT (asB (bind2 (fVar 3) (bindA (aCons (fVar 1) aNil) lenG) ltG)) (asB (bind2 (bind2 (fVar 1) (fVar 3) ixA) (bind2 (fVar 0) (fVar 4) ixA) inA))) (setS 3 (bind2 (fVar 3) (fC (.int 1)) addAll)) skipS)) (fi := seqF (fVar 2)) (s := s)
    (env := [some (downsD E), some (wd u), some (wd v), some (.int ((0 : Nat) : Int)), none])
    (fun pre env s' => s' = s ∧ ∃ (i : Nat) (x : Option Dt) (post : List Nat), v = pre ++ post ∧ env = [some (downsD E), some (wd u), some (wd v), some (.int (i : Int)), x] ∧ grd E u 0 v = grd E u i post)
    (seq_str (v0 rfl)) ⟨rfl, 0, none, v, rfl, rfl, rfl⟩ (by
    rintro pre c post env s' he ⟨rfl, i, x, post', he', rfl, hg⟩
    have hp : post' = c :: post := List.append_cancel_left (he'.symm.trans he)
    subst hp
    have hc : c ∈ E.map (·.1) := hv c (by rw [he]; exact List.mem_append_right _ List.mem_cons_self)
    have g1 := len_w (s := s') (w := u) (by omega)
    have g2 := get_down (s := s') hc
    have g3 := in_down (s := s') (E := E) (a := u.getD i 0) (c := c)
    have g4 : ltG s' (.int (i : Int)) (.int ((u.length : Nat) : Int)) = some (.bl (decide (i < u.length))) := by
      show some (Dt.bl (decide ((i : Int) < (u.length : Int)))) = _
      congr 2
      exact decide_eq_decide.mpr (by omega)
    have hcond : andT (asB (bind2 (fVar 3) (bindA (aCons (fVar 1) aNil) lenG) ltG)) (asB (bind2 (bind2 (fVar 1) (fVar 3) ixA) (bind2 (fVar 0) (fVar 4) ixA) inA)) [some (downsD E), some (wd u), some (wd v), some (.int (i : Int)), some (wd [c])] s' = some (decide (i < u.length) && lowB E (u.getD i 0) c, s') := by
      refine andT_e (by walk_at "ev") fun hlt => ?_
      have hlt' := of_decide_eq_true hlt
      have g5 := at_w (s := s') (w := u) (k := i) (c := u.getD i 0) (by omega) (by rw [List.getD_eq_getElem?_getD, List.getElem?_eq_getElem hlt']; rfl)
      walk_at "ev"
    refine ⟨[some (downsD E), some (wd u), some (wd v), some (.int (((if (decide (i < u.length) && lowB E (u.getD i 0) c) = true then i + 1 else i : Nat)) : Int)), some (wd [c])], s', ?_, rfl, _, some (wd [c]), post, by rw [he, List.append_assoc]; rfl, rfl, hg⟩
    cases hq : (decide (i < u.length) && lowB E (u.getD i 0) c) with
    | true =>
      rw [hq] at hcond
      exact (if_t hcond).trans (set_ev (bind2_ev (v0 rfl) c0 add_n1))
    | false =>
      rw [hq] at hcond
      exact (if_f hcond).trans rfl)
  obtain ⟨e', s', h1, rfl, i, x, post, he, rfl, hg⟩ := key
  have hp : post = [] := by
    have := congrArg List.length he
    rw [List.length_append] at this
    exact List.eq_nil_of_length_eq_zero (by omega)
  subst hp
  have hg' : grd E u 0 v = i := hg
  have g1 := len_w (s := s') (w := u) (by omega)
  have g2 : eqG s' (.int (i : Int)) (.int ((u.length : Nat) : Int)) = some (.bl (embB E u v)) := by
    show some (Dt.bl (decide ((i : Int) = (u.length : Int)))) = _
    unfold embB
    congr 2
    exact decide_eq_decide.mpr (by omega)
  exact (seq_nx h1).trans (ret_ev (by walk_at "ev"))
theorem at_most_ok (hE : ClE E) (R : Dt) {u v : List Nat} (hu : ∀ c ∈ u, c ∈ E.map (·.1)) (hv : ∀ c ∈ v, c ∈ E.map (·.1)) (hul : u.length ≤ 50) (hvl : v.length ≤ 50) : Vis_at_most [.tup [.tup (entL E), R], wd u, wd v] s = some (.bl (embB E u v), s) := by
  have n1 := thing_need (s := s) R "u" (by have := hE.n; omega) hu (fun c hc => hE.lo c (hu c hc)) hul
  have n2 := thing_need (s := s) R "v" (by have := hE.n; omega) hv (fun c hc => hE.lo c (hv c hc)) hvl
  have g1 := downs_ok (s := s) hE R
  have g2 := comes_ok (s := s) (E := E) (u := u) hv (by omega)
  exact fn_rt ((seq_nx (dropS_ev (call_ev (aCons_ev (v0 rfl) (aCons_ev (v0 rfl) (aCons_ev c0 a0))) n1))).trans ((seq_nx (dropS_ev (call_ev (aCons_ev (v0 rfl) (aCons_ev (v0 rfl) (aCons_ev c0 a0))) n2))).trans (ret_ev (call_ev (aCons_ev (call_ev (aCons_ev (v0 rfl) a0) g1) (aCons_ev (v0 rfl) (aCons_ev (v0 rfl) a0))) g2))))
end

end DL
namespace DL
open PySem PySem.Spec PyProof.Rows L2
local macro_rules | `(tactic| walk_at "op") => `(tactic| first | assumption | with_reducible rfl | exact cat_w (by omega) | exact sub_nn (by omega) | exact add_nn | exact at_w (by omega) (by assumption) | exact len_w (by omega) | exact in_l1 | exact notin_l1 | exact in_t1 | exact notin_t1 | exact in_k1 | exact notin_k1 | exact in_wl | exact notin_wl | exact in_wt | exact notin_wt | exact in_kd | exact notin_kd | exact eq_ww | exact ne_ww | exact any_bl | exact all_bl | rfl)
local macro_rules | `(tactic| walk_at "ev") => `(tactic| first | with_reducible exact c0 | ((with_reducible apply v0); rfl) | with_reducible exact a0 | with_reducible assumption | ((with_reducible apply aCons_ev); (focus walk_at "ev"); (focus walk_at "ev")) | ((with_reducible apply bindA_ev); (focus walk_at "ev"); (focus walk_at "op")) | ((with_reducible apply bind2_ev); (focus walk_at "ev"); (focus walk_at "ev"); (focus walk_at "op")) | ((with_reducible apply bind1_ev); (focus walk_at "ev"); (focus walk_at "op")) | ((with_reducible apply asB_ev); (focus walk_at "ev")) | ((with_reducible apply call_ev); (focus walk_at "ev"); (focus first | assumption | rfl)) | ((with_reducible apply truF_ev); (focus walk_at "ev"); (focus first | assumption | rfl)) | ((with_reducible apply notT_ev); (focus walk_at "ev")) | ((with_reducible apply andT_e); (focus walk_at "ev"); (focus (intro hq; walk_at "ev"))) | ((with_reducible apply orT_e); (focus walk_at "ev"); (focus (intro hq; walk_at "ev"))) | ((with_reducible apply seq_tup); (focus walk_at "ev")) | ((with_reducible apply seq_lst); (focus walk_at "ev")) | ((with_reducible apply seq_str); (focus walk_at "ev")))
section
variable {E : Ents} {s : Sto}
def inT : Fs := (dputS 3 (bind2 (fVar 5) (fVar 6) addAll) (fC (.bl true)))
def midT : Fs := (forF (seqF (bind2 (fVar 2) (fVar 4) ixA)) (tgN 6) inT)
def outT : Fs := (forF (seqF (bindA (aCons (fVar 3) aNil) toLstG)) (tgN 5) midT)
theorem in_t (B X : Dt) {K : List (List Nat)} {t : List Nat} {c a : Nat} (hK : K.length < 16777215) (ht : t.length ≤ 1000) (s : Sto) :
    inT [some B, some X, some (downsD E), some (.dct (trW K)), some (wd [c]), some (wd t), some (wd [a])] s = some (.nx [some B, some X, some (downsD E), some (.dct (trW (addU K (t ++ [a])))), some (wd [c]), some (wd t), some (wd [a])], s) := by
  have g1 := cat_w (s := s) (u := t) (v := [a]) (by rw [List.length_singleton]; omega)
  refine (dput_e (v := .bl true) (kd := wd (t ++ [a])) (ks := trW K) (key := .inr (strW (t ++ [a]))) c0 (bind2_ev (v0 rfl) (v0 rfl) g1) rfl rfl (small' (by rw [List.length_map]; exact hK))).trans ?_
  rw [put_trW]
  rfl
theorem mid_t (hE : ClE E) (B X : Dt) {K : List (List Nat)} {t : List Nat} {c : Nat} (hc : c ∈ E.map (·.1)) (hK : K.length + E.length + 2 < 16777215) (ht : t.length ≤ 1000) (x6 : Option Dt) (s : Sto) :
    ∃ y6, midT [some B, some X, some (downsD E), some (.dct (trW K)), some (wd [c]), some (wd t), x6] s = some (.nx [some B, some X, some (downsD E), some (.dct (trW (addsU K (moreW E c t)))), some (wd [c]), some (wd t), y6], s) := by
  have g1 := get_down (s := s) hc
  have key := for_pre (xs := c :: downN E c) (enc := fun a => wd [a]) (i := 6) (F := inT) (fi := seqF (bind2 (fVar 2) (fVar 4) ixA)) (s := s)
    (env := [some B, some X, some (downsD E), some (.dct (trW K)), some (wd [c]), some (wd t), x6])
    (fun pre env s' => s' = s ∧ ∃ y6, env = [some B, some X, some (downsD E), some (.dct (trW (addsU K (pre.map fun a => t ++ [a])))), some (wd [c]), some (wd t), y6])
    (seq_tup (bind2_ev (v0 rfl) (v0 rfl) g1)) ⟨rfl, x6, rfl⟩ (by
    rintro pre a post env s' he ⟨rfl, y6, rfl⟩
    have hl : pre.length ≤ E.length + 1 := by
      have := congrArg List.length he
      have := down_len hE c
      simp only [List.length_cons, List.length_append] at *
      omega
    have hb := addsU_len (K := K) (l := pre.map fun a => t ++ [a])
    rw [List.length_map] at hb
    refine ⟨_, s', in_t (E := E) B X (by omega) ht s', rfl, some (wd [a]), ?_⟩
    rw [List.map_append, addsU_app]
    rfl)
  obtain ⟨e', s', h1, rfl, y6, rfl⟩ := key
  exact ⟨y6, h1⟩
theorem out_t (hE : ClE E) (B X : Dt) {K : List (List Nat)} {c : Nat} (hc : c ∈ E.map (·.1)) (hK : K.length * (E.length + 2) + 100 < 16777215) (hw : ∀ t ∈ K, t.length ≤ 1000) (x5 x6 : Option Dt) (s : Sto) :
    ∃ y5 y6, outT [some B, some X, some (downsD E), some (.dct (trW K)), some (wd [c]), x5, x6] s = some (.nx [some B, some X, some (downsD E), some (.dct (trW (tamS E K c))), some (wd [c]), y5, y6], s) := by
  have g1 : toLstG s [.dct (trW K)] = some (.lst (K.map wd)) := by
    show some (Dt.lst ((trW K).map fun kv => keyD kv.1)) = _
    rw [keys_trW]
  have key := for_pre (xs := K) (enc := wd) (i := 5) (F := midT) (fi := seqF (bindA (aCons (fVar 3) aNil) toLstG)) (s := s)
    (env := [some B, some X, some (downsD E), some (.dct (trW K)), some (wd [c]), x5, x6])
    (fun pre env s' => s' = s ∧ ∃ y5 y6, env = [some B, some X, some (downsD E), some (.dct (trW (addsU K (pre.flatMap (moreW E c))))), some (wd [c]), y5, y6])
    (seq_lst (bindA_ev (aCons_ev (v0 rfl) a0) g1)) ⟨rfl, x5, x6, rfl⟩ (by
    rintro pre t post env s' he ⟨rfl, y5, y6, rfl⟩
    have htm : t ∈ K := by rw [he]; exact List.mem_append_right _ List.mem_cons_self
    have hl : pre.length + 1 ≤ K.length := by
      have := congrArg List.length he
      rw [List.length_append, List.length_cons] at this
      omega
    have hb := addsU_len (K := K) (l := pre.flatMap (moreW E c))
    have h2 := flat_len (l := pre) (f := moreW E c) (m := E.length + 1) fun x hx => by
      unfold moreW
      rw [List.length_map, List.length_cons]
      have := down_len hE c
      omega
    have h3 : K.length * (E.length + 2) = K.length * (E.length + 1) + K.length := by rw [show E.length + 2 = E.length + 1 + 1 from rfl, Nat.mul_succ]
    have h4 : pre.length * (E.length + 1) ≤ K.length * (E.length + 1) := Nat.mul_le_mul_right _ (by omega)
    have h5 := hE.n
    obtain ⟨z6, e⟩ := mid_t hE B X (K := addsU K (pre.flatMap (moreW E c))) hc (by omega) (hw t htm) y6 s'
    refine ⟨_, s', e, rfl, some (wd t), z6, ?_⟩
    rw [List.flatMap_append, addsU_app]
    show _ = [_, _, _, some (Dt.dct (trW (addsU _ (moreW E c t ++ [])))), _, _, _]
    rw [List.append_nil])
  obtain ⟨e', s', h1, rfl, y5, y6, rfl⟩ := key
  exact ⟨y5, y6, h1⟩
theorem tam_pow {w pre post : List Nat} {c : Nat} (hE : ClE E) (he : w = pre ++ c :: post) {N : Nat} (hN : (E.length + 2) ^ w.length ≤ N) : (tamN E pre).length * (E.length + 2) ≤ N := by
  have h1 := tam_len hE (Nat.le_refl E.length) pre
  have h2 : (tamN E pre).length * (E.length + 2) ≤ (E.length + 2) ^ (pre.length + 1) := by rw [Nat.pow_succ]; exact Nat.mul_le_mul_right _ h1
  have h3 : (E.length + 2) ^ (pre.length + 1) ≤ (E.length + 2) ^ w.length := Nat.pow_le_pow_right (by omega) (by rw [he, List.length_append, List.length_cons]; omega)
  omega
theorem things_ok (hE : ClE E) (R : Dt) {w : List Nat} (hw : ∀ c ∈ w, c ∈ E.map (·.1)) (hwl : w.length ≤ 50) (hN : (E.length + 2) ^ w.length ≤ 10000000) : Vthings_at_most [.tup [.tup (entL E), R], wd w] s = some (.tup ((sortW (tamN E w)).map wd), s) := by
  have n1 := thing_need (s := s) R "x" (by have := hE.n; omega) hw (fun c hc => hE.lo c (hw c hc)) hwl
  have g1 := downs_ok (s := s) hE R
  let B : Dt := .tup [.tup (entL E), R]
  have d0 : dispF [((fC (.str "")), (fC (.bl true)))] [some B, some (wd w), some (downsD E), none, none, none, none] s = some (.dct (trW (tamN E [])), s) := rfl
  refine fn_rt ((seq_nx (dropS_ev (call_ev (aCons_ev (v0 rfl) (aCons_ev (v0 rfl) (aCons_ev c0 a0))) n1))).trans ((seq_nx (set_ev (call_ev (aCons_ev (v0 rfl) a0) g1))).trans ((seq_nx (setN_ev (show 3 < 7 by decide) d0)).trans ?_)))
  have key := for_pre (xs := w) (enc := fun c => wd [c]) (i := 4) (F := outT) (fi := seqF (fVar 1)) (s := s)
    (env := [some B, some (wd w), some (downsD E), some (.dct (trW (tamN E []))), none, none, none])
    (fun pre env s' => s' = s ∧ ∃ x4 x5 x6, env = [some B, some (wd w), some (downsD E), some (.dct (trW (tamN E pre))), x4, x5, x6])
    (seq_str (v0 rfl)) ⟨rfl, none, none, none, rfl⟩ (by
    rintro pre c post env s' he ⟨rfl, x4, x5, x6, rfl⟩
    have hc : c ∈ E.map (·.1) := hw c (by rw [he]; exact List.mem_append_right _ List.mem_cons_self)
    have hp : pre.length ≤ 50 := by have := congrArg List.length he; rw [List.length_append] at this; omega
    have hb := tam_pow hE he hN
    obtain ⟨y5, y6, e⟩ := out_t hE B (wd w) (K := tamN E pre) hc (by omega) (fun t ht => by have := (tam_mem pre).mp ht |>.len; omega) x5 x6 s'
    refine ⟨_, s', e, rfl, some (wd [c]), y5, y6, ?_⟩
    rw [tam_snoc])
  obtain ⟨e', s', h1, rfl, x4, x5, x6, rfl⟩ := key
  have g2 : toLstG s' [.dct (trW (tamN E w))] = some (.lst ((tamN E w).map wd)) := by
    show some (Dt.lst ((trW (tamN E w)).map fun kv => keyD kv.1)) = _
    rw [keys_trW]
  have g3 := sorted_words (s := s') (tamN E w)
  have g4 : toTupG s' [.lst ((sortW (tamN E w)).map wd)] = some (.tup ((sortW (tamN E w)).map wd)) := rfl
  exact (seq_nx h1).trans (ret_ev (bindA_ev (aCons_ev (bindA_ev (aCons_ev (bindA_ev (aCons_ev (v0 rfl) a0) g2) a0) g3) a0) g4))
end

end DL
namespace DL
open PySem PySem.Spec PyProof.Rows L2
def F_law_draw_k03_k03 : Fs := (seqS (hputL 0 (fC (.int 3)) (bind2 (bind2 (fVar 0) (fC (.int 3)) ixA) (fC (.int 1)) addAll)) (seqS (ifS (asB (bind2 (bind2 (fVar 0) (fC (.int 2)) ixA) (fC (.int 0)) gtG)) (seqS (setS 2 (bind2 (bindA (aCons (bind2 (fVar 0) (fC (.int 2)) ixA) aNil) intG) (fVar 1) modG)) (seqS (hputL 0 (fC (.int 2)) (bind2 (bind2 (fVar 0) (fC (.int 2)) ixA) (fVar 1) divG)) (retS (fVar 2)))) skipS) (seqS (setS 3 (bind2 (fVar 0) (fC (.int 1)) ixA)) (seqS (hputL 0 (fC (.int 1)) (bind2 (fVar 3) (fC (.int 1)) addAll)) (seqS (setS 4 (ifV (asB (bind2 (bind2 (fVar 0) (fC (.int 0)) ixA) (bindA aNil lstG) neG)) (bind2 (bind2 (fVar 0) (fC (.int 0)) ixA) (bind2 (bindA (aCons (fVar 3) aNil) intG) (bindA (aCons (bind2 (fVar 0) (fC (.int 0)) ixA) aNil) lenG) modG) ixA) (fC (.int 163)))) (seqS (ifS (andT (asB (bind2 (fVar 4) (bind2 (fC (.int 10)) (fC (.int 18)) powG) geG)) (asB (bind2 (fVar 3) (bindA (aCons (bind2 (fVar 0) (fC (.int 0)) ixA) aNil) lenG) ltG))) (seqS (hputL 0 (fC (.int 2)) (bind2 (fVar 4) (fVar 1) divG)) (retS (bind2 (bindA (aCons (fVar 4) aNil) intG) (fVar 1) modG))) skipS) (seqS (setS 5 (bind2 (bindA (aCons (bind2 (bind2 (bind2 (bind2 (bindA (aCons (fVar 4) aNil) intG) (fC (.int 1999999943)) modG) (bind2 (fC (.int 48311)) (bind2 (fVar 0) (fC (.int 3)) ixA) mulG) addAll) (fC (.int 331)) addAll) (fC (.int 3)) powG) aNil) intG) (fC (.int 2147483423)) modG)) (seqS (setS 5 (bind2 (bindA (aCons (bind2 (bind2 (bind2 (fVar 5) (bind2 (bind2 (fC (.int 8293)) (bind2 (fVar 0) (fC (.int 3)) ixA) mulG) (bind2 (fVar 0) (fC (.int 3)) ixA) mulG) addAll) (fC (.int 163)) addAll) (fC (.int 5)) powG) aNil) intG) (fC (.int 2147483477)) modG)) (retS (bind2 (bindA (aCons (bind2 (fVar 5) (fC (.int 64)) divG) aNil) intG) (fVar 1) modG))))))))))
def V_law_draw_k03_k03 : List Dt → Sto → Option (Dt × Sto) := fnV 6 F_law_draw_k03_k03
def F_law_below_k03 : Fs := (seqS (par3S 2 3 4 (bindA (aCons (bindA (aCons (fVar 0) aNil) toLstG) aNil) toDctG) (bindA aNil lstG) (bindA (aCons (fVar 1) aNil) lstG)) (seqS (whileS (asB (bind2 (fVar 4) (bindA aNil lstG) neG)) (forXF (seqX (ixPopF (fVar 2) 4)) (tgN 5) (ifS (asB (bind2 (fVar 5) (fVar 3) notinA)) (seqS (appS 3 (fVar 5)) (appS 4 (fVar 5))) skipS)) FUEL) (retS (bindA (aCons (bindA (aCons (fVar 3) aNil) sortedG_) aNil) toTupG))))
def V_law_below_k03 : List Dt → Sto → Option (Dt × Sto) := fnV 6 F_law_below_k03
def F_law_nearest_k03 : Fs := (seqS (setS 2 (bind2 (bindA (aCons (bindA (aCons (fVar 0) aNil) toLstG) aNil) toDctG) (fVar 1) ixA)) (retS (bindA (aCons (lcF (seqF (fVar 2)) (tgN 3) (asB (bind2 (lcF (seqF (fVar 2)) (tgN 4) (asB (bind2 (fVar 3) (callF V_law_below_k03 (aCons (fVar 0) (aCons (fVar 4) aNil))) inA)) (fVar 4) [4]) (bindA aNil lstG) eqG)) (fVar 3) [3]) aNil) toTupG)))
def V_law_nearest_k03 : List Dt → Sto → Option (Dt × Sto) := fnV 5 F_law_nearest_k03
def F_law_has_k03 : Fs := (retS (andV (callF V_law_is_word_k01 (aCons (fVar 1) aNil)) (bind2 (lcF (seqF (fVar 1)) (tgN 2) (asB (bind2 (fVar 2) (callF V_law_letters_k01 (aCons (fVar 0) aNil)) notinA)) (fVar 2) [2]) (bindA aNil lstG) eqG)))
def V_law_has_k03 : List Dt → Sto → Option (Dt × Sto) := fnV 3 F_law_has_k03
def F_law_is_told_k03 : Fs := (seqS (setS 2 (bindA (aCons (fVar 0) (aCons (fVar 1) aNil)) tupG)) (seqS (setS 3 (lcF (seqF (fVar 0)) (tgN 6) yesT (bind2 (fVar 6) (fC (.int 0)) ixA) [6])) (seqS (ifS (asB (bind2 (bindA (aCons (callF Vletters_of (aCons (fVar 2) aNil)) aNil) reprG) (bindA (aCons (bindA (aCons (fVar 3) aNil) toTupG) aNil) reprG) neG)) (retS (fC (.bl false))) skipS) (seqS (forF (seqF (fVar 3)) (tgN 4) (seqS (setS 5 (bindA (aCons (callF Vlessers_of (aCons (fVar 2) (aCons (fVar 4) aNil))) (aCons (callF Vletters_below (aCons (fVar 2) (aCons (fVar 4) aNil))) (aCons (callF Vnext_lessers (aCons (fVar 2) (aCons (fVar 4) aNil))) aNil))) lstG)) (ifS (asB (bind2 (bindA (aCons (fVar 5) aNil) reprG) (bindA (aCons (bindA (aCons (bind2 (bindA (aCons (bindA (aCons (fVar 0) aNil) toLstG) aNil) toDctG) (fVar 4) ixA) (aCons (callF V_law_below_k03 (aCons (fVar 0) (aCons (fVar 4) aNil))) (aCons (callF V_law_nearest_k03 (aCons (fVar 0) (aCons (fVar 4) aNil))) aNil))) lstG) aNil) reprG) neG)) (retS (fC (.bl false))) skipS))) (retS (fC (.bl true)))))))
def V_law_is_told_k03 : List Dt → Sto → Option (Dt × Sto) := fnV 7 F_law_is_told_k03
end DL
namespace DL
open PySem PySem.Spec PyProof.Rows L2
local macro_rules | `(tactic| walk_at "op") => `(tactic| first | assumption | with_reducible rfl | exact cat_w (by omega) | exact sub_nn (by omega) | exact add_nn | exact at_w (by omega) (by assumption) | exact len_w (by omega) | exact in_l1 | exact notin_l1 | exact in_t1 | exact notin_t1 | exact in_k1 | exact notin_k1 | exact in_wl | exact notin_wl | exact in_wt | exact notin_wt | exact in_kd | exact notin_kd | exact eq_ww | exact ne_ww | exact any_bl | exact all_bl | rfl)
local macro_rules | `(tactic| walk_at "ev") => `(tactic| first | with_reducible exact c0 | ((with_reducible apply v0); rfl) | with_reducible exact a0 | with_reducible assumption | ((with_reducible apply aCons_ev); (focus walk_at "ev"); (focus walk_at "ev")) | ((with_reducible apply bindA_ev); (focus walk_at "ev"); (focus walk_at "op")) | ((with_reducible apply bind2_ev); (focus walk_at "ev"); (focus walk_at "ev"); (focus walk_at "op")) | ((with_reducible apply bind1_ev); (focus walk_at "ev"); (focus walk_at "op")) | ((with_reducible apply asB_ev); (focus walk_at "ev")) | ((with_reducible apply call_ev); (focus walk_at "ev"); (focus first | assumption | rfl)) | ((with_reducible apply truF_ev); (focus walk_at "ev"); (focus first | assumption | rfl)) | ((with_reducible apply notT_ev); (focus walk_at "ev")) | ((with_reducible apply andT_e); (focus walk_at "ev"); (focus (intro hq; walk_at "ev"))) | ((with_reducible apply orT_e); (focus walk_at "ev"); (focus (intro hq; walk_at "ev"))) | ((with_reducible apply seq_tup); (focus walk_at "ev")) | ((with_reducible apply seq_lst); (focus walk_at "ev")) | ((with_reducible apply seq_str); (focus walk_at "ev")))
/-! ### loops over D[L.pop()] -/
theorem forX_eq {fi : FiX} {st : Tg} {F : Fs} {env e1 : Env} {s s1 : Sto} {ds : List Dt} (h : fi env s = some (ds, e1, s1)) : forXF fi st F env s = forF (fun _ _ => some (ds, s1)) st F e1 s1 := by
  unfold forXF forF
  rw [h]
theorem ixpop_ev {fa : Fe} {i : Nat} {env : Env} {s s1 : Sto} {ks : List (Key × Dt)} {ds xs : List Dt} {d : Dt} {k : Key} (h1 : fa env s = some (.dct ks, s1)) (h2 : env[i]? = some (some (.lst (ds ++ [d])))) (h3 : keyOf d = some k) (h4 : valD ks k = some (.tup xs)) :
    seqX (ixPopF fa i) env s = some (xs, env.set i (some (.lst ds)), s1) := by
  unfold seqX ixPopF
  rw [h1]
  dsimp only
  have e : lstAt env i = some (ds ++ [d]) := by unfold lstAt; rw [h2]
  rw [e]
  dsimp only
  rw [List.getElem?_append_right (by rw [List.length_append, List.length_singleton]; omega)]
  have e2 : (ds ++ [d]).length - 1 - ds.length = 0 := by rw [List.length_append, List.length_singleton]; omega
  rw [e2]
  dsimp only [List.getElem?_cons_zero]
  rw [h3]
  dsimp only
  rw [h4]
  dsimp only [seqO3]
  rw [List.dropLast_concat]
/-! ### the letters below one, by the law -/
structure BIn (r a r' a' pre : List Nat) : Prop where
  nd : r'.Nodup
  sub : ∀ x ∈ r', x ∈ r ∨ x ∈ pre
  old : ∀ x ∈ r, x ∈ r'
  al : ∀ x ∈ pre, x ∈ r'
  aold : ∀ x ∈ a, x ∈ a'
  anew : ∀ x ∈ a', x ∈ a ∨ x ∈ r'
  rnew : ∀ x ∈ r', x ∈ r ∨ x ∈ a'
  len : a'.length + r.length = a.length + r'.length
theorem BIn.start {r a : List Nat} (h : r.Nodup) : BIn r a r a [] := ⟨h, fun x hx => .inl hx, fun x hx => hx, fun x hx => absurd hx List.not_mem_nil, fun x hx => hx, fun x hx => .inl hx, fun x hx => .inl hx, rfl⟩
theorem BIn.skip {r a r' a' pre : List Nat} {d : Nat} (h : BIn r a r' a' pre) (hd : d ∈ r') : BIn r a r' a' (pre ++ [d]) :=
  ⟨h.nd, fun x hx => (h.sub x hx).imp (fun z => z) fun z => List.mem_append_left _ z, h.old, fun x hx => (List.mem_append.mp hx).elim (h.al x) fun z => by rw [List.mem_singleton.mp z]; exact hd, h.aold, h.anew, h.rnew, h.len⟩
theorem BIn.take {r a r' a' pre : List Nat} {d : Nat} (h : BIn r a r' a' pre) (hd : d ∉ r') : BIn r a (r' ++ [d]) (a' ++ [d]) (pre ++ [d]) where
  nd := List.nodup_append.mpr ⟨h.nd, List.pairwise_singleton _ _, fun x hx y hy e => hd (by rw [List.mem_singleton.mp hy] at e; exact e ▸ hx)⟩
  sub := fun x hx => (List.mem_append.mp hx).elim (fun z => (h.sub x z).imp (fun z => z) fun z => List.mem_append_left _ z) fun z => .inr (List.mem_append_right _ z)
  old := fun x hx => List.mem_append_left _ (h.old x hx)
  al := fun x hx => (List.mem_append.mp hx).elim (fun z => List.mem_append_left _ (h.al x z)) fun z => List.mem_append_right _ z
  aold := fun x hx => List.mem_append_left _ (h.aold x hx)
  anew := fun x hx => (List.mem_append.mp hx).elim (fun z => (h.anew x z).imp (fun z => z) fun z => List.mem_append_left _ z) fun z => .inr (List.mem_append_right _ z)
  rnew := fun x hx => (List.mem_append.mp hx).elim (fun z => (h.rnew x z).imp (fun z => z) fun z => List.mem_append_left _ z) fun z => .inr (List.mem_append_right _ z)
  len := by have := h.len; rw [List.length_append, List.length_append, List.length_singleton]; omega
structure Bel (E : Ents) (c : Nat) (r a : List Nat) : Prop where
  nd : r.Nodup
  rr : ∀ x ∈ r, Rch E c x
  ra : ∀ x ∈ a, x = c ∨ x ∈ r
  on : ∀ x, x = c ∨ x ∈ r → x ∈ a ∨ ∀ d ∈ lesN E x, d ∈ r
theorem Bel.go {E : Ents} {c d : Nat} {r a r' a' : List Nat} (h : Bel E c r (a ++ [d])) (i : BIn r a r' a' (lesN E d)) : Bel E c r' a' where
  nd := i.nd
  rr := fun x hx => by
    rcases i.sub x hx with z | z
    · exact h.rr x z
    · rcases h.ra d (List.mem_append_right _ List.mem_cons_self) with rfl | hd
      · exact .one z
      · exact .more (h.rr d hd) z
  ra := fun x hx => by
    rcases i.anew x hx with z | z
    · exact (h.ra x (List.mem_append_left _ z)).imp (fun z => z) fun z => i.old x z
    · exact .inr z
  on := fun x hx => by
    have main : x = c ∨ x ∈ r → x ∈ a' ∨ ∀ d ∈ lesN E x, d ∈ r' := fun hx => by
      rcases h.on x hx with z | z
      · rcases List.mem_append.mp z with z | z
        · exact .inl (i.aold x z)
        · rw [List.mem_singleton.mp z]; exact .inr i.al
      · exact .inr fun d hd => i.old d (z d hd)
    rcases hx with hx | hx
    · exact main (.inl hx)
    · rcases i.rnew x hx with z | z
      · exact main (.inr z)
      · exact .inl z
theorem Bel.all {E : Ents} {c : Nat} {r : List Nat} (h : Bel E c r []) (x : Nat) : x ∈ r ↔ Rch E c x := by
  refine ⟨h.rr x, fun z => ?_⟩
  have cl : ∀ x, x = c ∨ x ∈ r → ∀ d ∈ lesN E x, d ∈ r := fun x hx => (h.on x hx).elim (fun z => absurd z List.not_mem_nil) fun z => z
  induction z with
  | one h => exact cl _ (.inl rfl) _ h
  | more _ h ih => exact cl _ (.inr ih) _ h
theorem Bel.start (E : Ents) (c : Nat) : Bel E c [] [c] := ⟨.nil, fun x hx => absurd hx List.not_mem_nil, fun x hx => .inl (List.mem_singleton.mp hx), fun x hx => .inl (hx.elim (fun e => List.mem_singleton.mpr e) fun z => absurd z List.not_mem_nil)⟩
theorem ones_snoc (a : List Nat) (d : Nat) : onesD a ++ [wd [d]] = onesD (a ++ [d]) := by unfold onesD; rw [List.map_append]; rfl
theorem ne_ones {s : Sto} {L : List Nat} (h : ∀ c ∈ L, 97 ≤ c ∧ c ≤ 122) : neG s (.lst (onesD L)) (.lst []) = some (.bl (!L.isEmpty)) :=
  ne_wds (l := L) (f := fun c => [c]) fun x hx c hc => by rw [List.mem_singleton.mp hc]; exact h x hx
def belI : Fs := (ifS (asB (bind2 (fVar 5) (fVar 3) notinA)) (seqS (appS 3 (fVar 5)) (appS 4 (fVar 5))) skipS)
section
variable {E : Ents} {s : Sto}
theorem bel_in (B C T : Dt) (ds : List Nat) {r a : List Nat} (hr : r.Nodup) (hb : r.length + a.length + ds.length < 100000) (x5 : Option Dt) (s : Sto) :
    ∃ r' a' y5, forF (fun _ _ => some (onesD ds, s)) (tgN 5) belI [some B, some C, some T, some (.lst (onesD r)), some (.lst (onesD a)), x5] s = some (.nx [some B, some C, some T, some (.lst (onesD r')), some (.lst (onesD a')), y5], s) ∧ BIn r a r' a' ds := by
  have key := for_pre (xs := ds) (enc := fun c => wd [c]) (i := 5) (F := belI) (fi := fun _ _ => some (onesD ds, s)) (s := s)
    (env := [some B, some C, some T, some (.lst (onesD r)), some (.lst (onesD a)), x5])
    (fun pre env s' => s' = s ∧ ∃ r' a' y5, env = [some B, some C, some T, some (.lst (onesD r')), some (.lst (onesD a')), y5] ∧ BIn r a r' a' pre ∧ r'.length ≤ r.length + pre.length)
    rfl ⟨rfl, r, a, x5, rfl, BIn.start hr, Nat.le_refl _⟩ (by
    rintro pre d post env s' he ⟨rfl, r', a', y5, rfl, i, hl⟩
    have hp : pre.length + 1 ≤ ds.length := by have := congrArg List.length he; rw [List.length_append, List.length_cons] at this; omega
    have hlen := i.len
    have gn := notin_l1 (s := s') (d := d) (l := r')
    by_cases hd : d ∈ r'
    · rw [decide_eq_true hd] at gn
      exact ⟨_, s', (if_f (asB_ev (bind2_ev (v0 rfl) (v0 rfl) gn))).trans rfl, rfl, r', a', some (wd [d]), rfl, i.skip hd, by rw [List.length_append]; omega⟩
    · rw [decide_eq_false hd] at gn
      have a1 : appS 3 (fVar 5) [some B, some C, some T, some (.lst (onesD r')), some (.lst (onesD a')), some (wd [d])] s' = some (.nx [some B, some C, some T, some (.lst (onesD (r' ++ [d]))), some (.lst (onesD a')), some (wd [d])], s') := by
        refine (app_ev (d := wd [d]) (ds := onesD r') (v0 rfl) rfl (small' (by rw [List.length_map]; omega))).trans ?_
        rw [ones_snoc]; rfl
      have a2 : appS 4 (fVar 5) [some B, some C, some T, some (.lst (onesD (r' ++ [d]))), some (.lst (onesD a')), some (wd [d])] s' = some (.nx [some B, some C, some T, some (.lst (onesD (r' ++ [d]))), some (.lst (onesD (a' ++ [d]))), some (wd [d])], s') := by
        refine (app_ev (d := wd [d]) (ds := onesD a') (v0 rfl) rfl (small' (by rw [List.length_map]; omega))).trans ?_
        rw [ones_snoc]; rfl
      exact ⟨_, s', (if_t (asB_ev (bind2_ev (v0 rfl) (v0 rfl) gn))).trans ((seq_nx a1).trans a2), rfl, r' ++ [d], a' ++ [d], some (wd [d]), rfl, i.take hd, by rw [List.length_append, List.length_append]; show _ + 1 ≤ _ + (_ + 1); omega⟩)
  obtain ⟨e', s', h1, rfl, r', a', y5, rfl, i, _⟩ := key
  exact ⟨r', a', y5, h1, i⟩
theorem lbel_ok (hE : ClE E) {c : Nat} (hc : c ∈ E.map (·.1)) : V_law_below_k03 [.tup (entL E), wd [c]] s = some (.tup (onesD (downN E c)), s) := by
  have g1 := (toDct_ent s hE.ok.nd).2
  have g1' : toDctG s [.lst (entL E)] = some (edD E) := g1
  have g3 : toLstG s [.tup (entL E)] = some (.lst (entL E)) := rfl
  have p3 : par3S 2 3 4 (bindA (aCons (bindA (aCons (fVar 0) aNil) toLstG) aNil) toDctG) (bindA aNil lstG) (bindA (aCons (fVar 1) aNil) lstG) [some (.tup (entL E)), some (wd [c]), none, none, none, none] s = some (.nx [some (.tup (entL E)), some (wd [c]), some (edD E), some (.lst (onesD [])), some (.lst (onesD [c])), none], s) := by
    unfold par3S
    rw [if_pos ⟨by simp, by simp, by simp⟩, bindA_ev (aCons_ev (bindA_ev (aCons_ev (v0 rfl) a0) g3) a0) g1']
    rfl
  refine fn_rt ((seq_nx p3).trans ?_)
  have key := while_e (c := asB (bind2 (fVar 4) (bindA aNil lstG) neG)) (F := forXF (seqX (ixPopF (fVar 2) 4)) (tgN 5) belI) (s := s)
    (env := [some (.tup (entL E)), some (wd [c]), some (edD E), some (.lst (onesD [])), some (.lst (onesD [c])), none]) (n := (E.length - 0) * 2 + 1)
    (R := fun n env s' => s' = s ∧ ∃ r a x, env = [some (.tup (entL E)), some (wd [c]), some (edD E), some (.lst (onesD r)), some (.lst (onesD a)), x] ∧ Bel E c r a ∧ (E.length - r.length) * 2 + a.length = n ∧ n ≤ 1000)
    (P := fun env s' => s' = s ∧ ∃ r x, env = [some (.tup (entL E)), some (wd [c]), some (edD E), some (.lst (onesD r)), some (.lst (onesD [])), x] ∧ Bel E c r []) ⟨rfl, [], [c], none, rfl, Bel.start E c, rfl, by have := hE.n; omega⟩ (by have := hE.n; show _ < 1000000000; omega) (by
    rintro n env s' ⟨rfl, r, a, x, rfl, i, hm, hn⟩
    have hlow : ∀ d ∈ a, 97 ≤ d ∧ d ≤ 122 := fun d hd => by
      rcases i.ra d hd with rfl | z
      · exact hE.lo d hc
      · exact hE.lo d (hE.rch (i.rr d z))
    have hcond : asB (bind2 (fVar 4) (bindA aNil lstG) neG) [some (.tup (entL E)), some (wd [c]), some (edD E), some (.lst (onesD r)), some (.lst (onesD a)), x] s' = some (!a.isEmpty, s') := asB_ev (bind2_ev (v0 rfl) (bindA_ev a0 rfl) (ne_ones hlow))
    have hr : r.length ≤ E.length := by
      have := nodup_le i.nd fun x hx => hE.rch (i.rr x hx)
      rwa [List.length_map] at this
    rcases List.eq_nil_or_concat a with rfl | ⟨a, d, rfl⟩
    · exact .inl ⟨hcond, rfl, r, x, rfl, i⟩
    · rw [List.concat_eq_append] at *
      have hq : (a ++ [d]).isEmpty = false := by cases a <;> rfl
      rw [hq] at hcond
      have hdm : d ∈ E.map (·.1) := by
        rcases i.ra d (List.mem_append_right _ List.mem_cons_self) with rfl | z
        · exact hc
        · exact hE.rch (i.rr d z)
      have hv := val_ent hdm
      have hx := ixpop_ev (fa := fVar 2) (i := 4) (env := [some (.tup (entL E)), some (wd [c]), some (edD E), some (.lst (onesD r)), some (.lst (onesD a ++ [wd [d]])), x]) (s := s') (s1 := s') (ks := E.map prD) (ds := onesD a) (d := wd [d]) (k := .inr (strW [d])) (xs := onesD (lesN E d)) (v0 rfl) rfl rfl hv
      rw [ones_snoc] at hx
      have hf := hE.few d
      rw [List.length_append, List.length_singleton] at hm
      obtain ⟨r', a', y5, e, j⟩ := bel_in (.tup (entL E)) (wd [c]) (edD E) (lesN E d) (r := r) (a := a) i.nd (by have := hE.n; omega) x s'
      have k := i.go j
      have hr' : r'.length ≤ E.length := by
        have := nodup_le k.nd fun x hx => hE.rch (k.rr x hx)
        rwa [List.length_map] at this
      have hle : r.length ≤ r'.length := nodup_le i.nd j.old
      have hlen := j.len
      exact .inr ⟨s', _, s', _, hcond, (forX_eq hx).trans e, by omega, rfl, r', a', y5, rfl, k, rfl, by omega⟩)
  obtain ⟨e', s', h1, rfl, r, x, rfl, i⟩ := key
  have hr : r.length ≤ E.length := by
    have := nodup_le i.nd fun x hx => hE.rch (i.rr x hx)
    rwa [List.length_map] at this
  have g5 := sorted_ones (s := s') (l := r) (by have := hE.n; omega)
  have g6 : sortN r = downN E c := lt_unique (sortN_lt i.nd) (down_lt hE c) fun x => by rw [sortN_mem, i.all, down_mem hE]
  rw [g6] at g5
  have g7 : toTupG s' [.lst (onesD (downN E c))] = some (.tup (onesD (downN E c))) := rfl
  exact (seq_nx h1).trans (ret_ev (bindA_ev (aCons_ev (bindA_ev (aCons_ev (v0 rfl) a0) g5) a0) g7))
end

end DL
namespace DL
open PySem PySem.Spec PyProof.Rows L2
def F_law_draw_k04_k04 : Fs := (seqS (hputL 0 (fC (.int 3)) (bind2 (bind2 (fVar 0) (fC (.int 3)) ixA) (fC (.int 1)) addAll)) (seqS (ifS (asB (bind2 (bind2 (fVar 0) (fC (.int 2)) ixA) (fC (.int 0)) gtG)) (seqS (setS 2 (bind2 (bindA (aCons (bind2 (fVar 0) (fC (.int 2)) ixA) aNil) intG) (fVar 1) modG)) (seqS (hputL 0 (fC (.int 2)) (bind2 (bind2 (fVar 0) (fC (.int 2)) ixA) (fVar 1) divG)) (retS (fVar 2)))) skipS) (seqS (setS 3 (bind2 (fVar 0) (fC (.int 1)) ixA)) (seqS (hputL 0 (fC (.int 1)) (bind2 (fVar 3) (fC (.int 1)) addAll)) (seqS (setS 4 (ifV (asB (bind2 (bind2 (fVar 0) (fC (.int 0)) ixA) (bindA aNil lstG) neG)) (bind2 (bind2 (fVar 0) (fC (.int 0)) ixA) (bind2 (bindA (aCons (fVar 3) aNil) intG) (bindA (aCons (bind2 (fVar 0) (fC (.int 0)) ixA) aNil) lenG) modG) ixA) (fC (.int 167)))) (seqS (ifS (andT (asB (bind2 (fVar 4) (bind2 (fC (.int 10)) (fC (.int 18)) powG) geG)) (asB (bind2 (fVar 3) (bindA (aCons (bind2 (fVar 0) (fC (.int 0)) ixA) aNil) lenG) ltG))) (seqS (hputL 0 (fC (.int 2)) (bind2 (fVar 4) (fVar 1) divG)) (retS (bind2 (bindA (aCons (fVar 4) aNil) intG) (fVar 1) modG))) skipS) (seqS (setS 5 (bind2 (bindA (aCons (bind2 (bind2 (bind2 (bind2 (bindA (aCons (fVar 4) aNil) intG) (fC (.int 1999999943)) modG) (bind2 (fC (.int 48313)) (bind2 (fVar 0) (fC (.int 3)) ixA) mulG) addAll) (fC (.int 337)) addAll) (fC (.int 3)) powG) aNil) intG) (fC (.int 2147483423)) modG)) (seqS (setS 5 (bind2 (bindA (aCons (bind2 (bind2 (bind2 (fVar 5) (bind2 (bind2 (fC (.int 8297)) (bind2 (fVar 0) (fC (.int 3)) ixA) mulG) (bind2 (fVar 0) (fC (.int 3)) ixA) mulG) addAll) (fC (.int 167)) addAll) (fC (.int 5)) powG) aNil) intG) (fC (.int 2147483477)) modG)) (retS (bind2 (bindA (aCons (bind2 (fVar 5) (fC (.int 64)) divG) aNil) intG) (fVar 1) modG))))))))))
def V_law_draw_k04_k04 : List Dt → Sto → Option (Dt × Sto) := fnV 6 F_law_draw_k04_k04
def F_law_all_below_k04_k04 : Fs := (seqS (par3S 3 4 5 (bindA (aCons (bindA (aCons (fVar 0) aNil) toLstG) aNil) toDctG) emptyG (bindA (aCons (fVar 1) aNil) lstG)) (seqS (whileS (asB (bind2 (fVar 5) (bindA aNil lstG) neG)) (seqS (popS 5 6) (ifS (asB (bind2 (fVar 6) (fVar 4) notinA)) (seqS (dputS 4 (fVar 6) (fC (.bl true))) (seqS (ifS (asB (bind2 (bindA (aCons (fVar 4) aNil) lenG) (fVar 2) gtG)) (retS (fC .non)) skipS) (forF (rngF1 (bindA (aCons (fVar 6) aNil) lenG)) (tgN 7) (seqS (appS 5 (bind2 (bindS (fVar 6) oNone (oSome (fVar 7)) sliceG) (bindS (fVar 6) (oSome (bind2 (fVar 7) (fC (.int 1)) addAll)) oNone sliceG) addAll)) (setNS 5 (bind2 (fVar 5) (lcF (seqF (bind2 (fVar 3) (bind2 (fVar 6) (fVar 7) ixA) ixA)) (tgN 8) yesT (bind2 (bind2 (bindS (fVar 6) oNone (oSome (fVar 7)) sliceG) (fVar 8) addAll) (bindS (fVar 6) (oSome (bind2 (fVar 7) (fC (.int 1)) addAll)) oNone sliceG) addAll) [8]) catG)))))) skipS)) FUEL) (retS (bindA (aCons (bindA (aCons (fVar 4) aNil) toLstG) aNil) sortedG_))))
def V_law_all_below_k04_k04 : List Dt → Sto → Option (Dt × Sto) := fnV 9 F_law_all_below_k04_k04
def F_law_embeds_k04 : Fs := (seqS (setS 3 (bindA (aCons (fC (.int 0)) aNil) lstG)) (seqS (forF (seqF (fVar 1)) (tgN 4) (seqS (setNS 5 (bindA aNil lstG)) (seqS (forF (rngF1 (bindA (aCons (fVar 2) aNil) lenG)) (tgN 6) (seqS (setS 7 (orV (bind2 (fVar 4) (bind2 (fVar 2) (fVar 6) ixA) eqG) (bind2 (fVar 4) (callF V_law_below_k03 (aCons (fVar 0) (aCons (bind2 (fVar 2) (fVar 6) ixA) aNil))) inA))) (ifS (andT (truF (fVar 7)) (asB (bind2 (lcF (seqF (fVar 3)) (tgN 8) (asB (bind2 (fVar 8) (fVar 6) leG)) (fVar 8) [8]) (bindA aNil lstG) neG))) (appS 5 (bind2 (fVar 6) (fC (.int 1)) addAll)) skipS))) (setS 3 (fVar 5))))) (retS (bind2 (fVar 3) (bindA aNil lstG) neG))))
def V_law_embeds_k04 : List Dt → Sto → Option (Dt × Sto) := fnV 9 F_law_embeds_k04
def F_law_fitting_k04_k04 (dp : List Dt → Sto → Option (Dt × Sto)) : Fs := (seqS (setS 4 (callF (V_law_word_k01 dp) (aCons (fVar 0) (aCons (callF V_law_letters_k01 (aCons (fVar 1) aNil)) (aCons (fVar 2) aNil))))) (seqS (forF (rngF1 (fVar 2)) (tgN 5) (ifS (asB (bind2 (callF V_law_all_below_k04_k04 (aCons (bind2 (fVar 1) (fC (.int 0)) ixA) (aCons (fVar 4) (aCons (fVar 3) aNil)))) (fC .non) isNG)) (setS 4 (bindS (fVar 4) (oSome (fC (.int 1))) oNone sliceG)) skipS)) (retS (fVar 4))))
def V_law_fitting_k04_k04 (dp : List Dt → Sto → Option (Dt × Sto)) : List Dt → Sto → Option (Dt × Sto) := fnV 6 (F_law_fitting_k04_k04 dp)
def F_law_long_k04 (dp : List Dt → Sto → Option (Dt × Sto)) : Fs := (seqS (setS 2 (callF V_law_letters_k01 (aCons (fVar 1) aNil))) (seqS (par2S 3 4 (callF (V_law_word_k01 dp) (aCons (fVar 0) (aCons (fVar 2) (aCons (fC (.int 12)) aNil)))) (fC (.str ""))) (seqS (forF (seqF (fVar 3)) (tgN 5) (setS 4 (bind2 (bind2 (fVar 4) (callF (V_law_word_k01 dp) (aCons (fVar 0) (aCons (fVar 2) (aCons (fC (.int 2)) aNil)))) addAll) (callF (V_law_pick_k01 dp) (aCons (fVar 0) (aCons (bindA (aCons (fVar 5) (aCons (fVar 5) (aCons (fVar 5) (aCons (callF (V_law_pick_k01 dp) (aCons (fVar 0) (aCons (fVar 2) aNil))) aNil)))) lstG) aNil))) addAll))) (retS (bindA (aCons (fVar 3) (aCons (fVar 4) aNil)) tupG)))))
def V_law_long_k04 (dp : List Dt → Sto → Option (Dt × Sto)) : List Dt → Sto → Option (Dt × Sto) := fnV 6 (F_law_long_k04 dp)
def Flaw_k04 : Fs := (seqS (forF (rngF1 (fC (.int 2))) (tgN 2) (seqS (setS 3 (callF (V_law_page_k01 V_law_draw_k04_k04) (aCons (fVar 1) (aCons (fC (.int 4)) (aCons (fC (.int 2)) aNil))))) (seqS (par2S 4 5 (bindA (aCons (fVar 3) aNil) reprG) (callF (V_law_fitting_k04_k04 V_law_draw_k04_k04) (aCons (fVar 1) (aCons (fVar 3) (aCons (fC (.int 6)) (aCons (fC (.int 100)) aNil)))))) (seqS (setS 6 (callF V_law_all_below_k04_k04 (aCons (bind2 (fVar 3) (fC (.int 0)) ixA) (aCons (fVar 5) (aCons (fC (.int 100)) aNil))))) (seqS (ifS (asB (bind2 (bindA (aCons (callF Vthings_at_most (aCons (fVar 3) (aCons (fVar 5) aNil))) aNil) reprG) (bindA (aCons (bindA (aCons (fVar 6) aNil) toTupG) aNil) reprG) neG)) (retS (fC (.bl false))) skipS) (seqS (setS 7 (lcF (rngF1 (fC (.int 8))) (tgN 10) yesT (callF (V_law_word_k01 V_law_draw_k04_k04) (aCons (fVar 1) (aCons (callF V_law_letters_k01 (aCons (fVar 3) aNil)) (aCons (fC (.int 6)) aNil)))) [10])) (seqS (forF (seqF (bind2 (bind2 (bindS (fVar 6) oNone (oSome (fC (.int 12))) sliceG) (bindS (fVar 6) (oSome (bind1 (fC (.int 12)) negG)) oNone sliceG) addAll) (fVar 7) addAll)) (tgN 8) (seqS (ifS (asB (bind2 (bindA (aCons (callF Vis_at_most (aCons (fVar 3) (aCons (fVar 8) (aCons (fVar 5) aNil)))) aNil) reprG) (bindA (aCons (bind2 (fVar 8) (fVar 6) inA) aNil) reprG) neG)) (retS (fC (.bl false))) skipS) (seqS (setS 9 (callF V_law_embeds_k04 (aCons (bind2 (fVar 3) (fC (.int 0)) ixA) (aCons (fVar 5) (aCons (fVar 8) aNil))))) (ifS (asB (bind2 (bindA (aCons (callF Vis_at_most (aCons (fVar 3) (aCons (fVar 5) (aCons (fVar 8) aNil)))) aNil) reprG) (bindA (aCons (fVar 9) aNil) reprG) neG)) (retS (fC (.bl false))) skipS)))) (seqS (ifS (asB (bind2 (bind2 (fVar 3) (fC (.int 0)) ixA) (bindA aNil tupG) neG)) (forF (rngF1 (fC (.int 3))) (tgN 10) (seqS (unpS 8 11 (callF (V_law_long_k04 V_law_draw_k04_k04) (aCons (fVar 1) (aCons (fVar 3) aNil)))) (ifS (asB (bind2 (bindA (aCons (callF Vis_at_most (aCons (fVar 3) (aCons (fVar 8) (aCons (fVar 11) aNil)))) aNil) reprG) (bindA (aCons (callF V_law_embeds_k04 (aCons (bind2 (fVar 3) (fC (.int 0)) ixA) (aCons (fVar 8) (aCons (fVar 11) aNil)))) aNil) reprG) neG)) (retS (fC (.bl false))) skipS))) skipS) (ifS (orT (asB (bind2 (bindA (aCons (callF (fun ds s => Vthings_at_most (permL [1, 0] ds) s) (aCons (fVar 5) (aCons (fVar 3) aNil))) aNil) reprG) (bindA (aCons (bindA (aCons (fVar 6) aNil) toTupG) aNil) reprG) neG)) (asB (bind2 (bindA (aCons (fVar 3) aNil) reprG) (fVar 4) neG))) (retS (fC (.bl false))) skipS))))))))) (seqS (setS 12 (bindA (aCons (bindA (aCons (fC (.str "x")) (aCons (bindA aNil tupG) aNil)) tupG) (aCons (bindA (aCons (fC (.str "y")) (aCons (bindA (aCons (fC (.str "x")) aNil) tupG) aNil)) tupG) aNil)) tupG)) (seqS (setNS 13 (bindA (aCons (callF (fun ds s => Vis_at_most (permL [2, 1, 0] ds) s) (aCons (fC (.str "yxy")) (aCons (fC (.str "xx")) (aCons (bindA (aCons (fVar 12) (aCons (bindA aNil tupG) aNil)) tupG) aNil)))) (aCons (callF Vis_at_most (aCons (bindA (aCons (fVar 12) (aCons (bindA aNil tupG) aNil)) tupG) (aCons (fC (.str "")) (aCons (fC (.str "")) aNil)))) aNil)) lstG)) (seqS (appS 13 (callF Vthings_at_most (aCons (bindA (aCons (fVar 12) (aCons (bindA aNil tupG) aNil)) tupG) (aCons (fC (.str "yy")) aNil)))) (retS (bind2 (bindA (aCons (fVar 13) aNil) reprG) (bindA (aCons (bindA (aCons (fC (.bl true)) (aCons (fC (.bl true)) (aCons (bindA (aCons (fC (.str "")) (aCons (fC (.str "x")) (aCons (fC (.str "xx")) (aCons (fC (.str "xy")) (aCons (fC (.str "y")) (aCons (fC (.str "yx")) (aCons (fC (.str "yy")) aNil))))))) tupG) aNil))) lstG) aNil) reprG) eqG))))))
def Elaw_k04 : Fe := (callF V_law_tape_k01 (aCons (fVar 0) aNil))
end DL
namespace DL
open PySem PySem.Spec PyProof.Rows L2
local macro_rules | `(tactic| walk_at "op") => `(tactic| first | assumption | with_reducible rfl | exact cat_w (by omega) | exact sub_nn (by omega) | exact add_nn | exact at_w (by omega) (by assumption) | exact len_w (by omega) | exact in_l1 | exact notin_l1 | exact in_t1 | exact notin_t1 | exact in_k1 | exact notin_k1 | exact in_wl | exact notin_wl | exact in_wt | exact notin_wt | exact in_kd | exact notin_kd | exact eq_ww | exact ne_ww | exact any_bl | exact all_bl | rfl)
local macro_rules | `(tactic| walk_at "ev") => `(tactic| first | with_reducible exact c0 | ((with_reducible apply v0); rfl) | with_reducible exact a0 | with_reducible assumption | ((with_reducible apply aCons_ev); (focus walk_at "ev"); (focus walk_at "ev")) | ((with_reducible apply bindA_ev); (focus walk_at "ev"); (focus walk_at "op")) | ((with_reducible apply bind2_ev); (focus walk_at "ev"); (focus walk_at "ev"); (focus walk_at "op")) | ((with_reducible apply bind1_ev); (focus walk_at "ev"); (focus walk_at "op")) | ((with_reducible apply asB_ev); (focus walk_at "ev")) | ((with_reducible apply call_ev); (focus walk_at "ev"); (focus first | assumption | rfl)) | ((with_reducible apply truF_ev); (focus walk_at "ev"); (focus first | assumption | rfl)) | ((with_reducible apply notT_ev); (focus walk_at "ev")) | ((with_reducible apply andT_e); (focus walk_at "ev"); (focus (intro hq; walk_at "ev"))) | ((with_reducible apply orT_e); (focus walk_at "ev"); (focus (intro hq; walk_at "ev"))) | ((with_reducible apply seq_tup); (focus walk_at "ev")) | ((with_reducible apply seq_lst); (focus walk_at "ev")) | ((with_reducible apply seq_str); (focus walk_at "ev")))
/-! ### while, with a return -/
theorem while_rm {c : Ft} {F : Fs} (R : Nat → Env → Sto → Prop) (P : Out → Sto → Prop) (hs : ∀ n env s, R n env s → (c env s = some (false, s) ∧ P (.nx env) s) ∨ ∃ s1, c env s = some (true, s1) ∧ ((∃ e' s' m, F env s1 = some (.nx e', s') ∧ m < n ∧ R m e' s') ∨ ∃ d s', F env s1 = some (.rt d, s') ∧ P (.rt d) s')) :
    ∀ (n : Nat) (env : Env) (s : Sto), R n env s → ∃ o s', whileL c F (n + 1) env s = some (o, s') ∧ P o s' := by
  intro n
  induction n using Nat.strongRecOn with
  | ind n ih =>
    intro env s h
    rcases hs n env s h with ⟨h1, h2⟩ | ⟨s1, h1, ⟨e', s', m, h2, h3, h4⟩ | ⟨d, s', h2, h3⟩⟩
    · exact ⟨_, s, by unfold whileL; rw [h1], h2⟩
    · obtain ⟨e2, s2, h5, h6⟩ := ih m h3 e' s' h4
      refine ⟨e2, s2, ?_, h6⟩
      unfold whileL
      rw [h1]
      dsimp only
      rw [h2]
      exact whileL_mono h5 (by omega)
    · exact ⟨.rt d, s', by unfold whileL; rw [h1]; dsimp only; rw [h2], h3⟩
theorem while_r {c : Ft} {F : Fs} {n : Nat} {env : Env} {s : Sto} (R : Nat → Env → Sto → Prop) (P : Out → Sto → Prop) (h0 : R n env s) (hn : n < FUEL) (hs : ∀ n env s, R n env s → (c env s = some (false, s) ∧ P (.nx env) s) ∨ ∃ s1, c env s = some (true, s1) ∧ ((∃ e' s' m, F env s1 = some (.nx e', s') ∧ m < n ∧ R m e' s') ∨ ∃ d s', F env s1 = some (.rt d, s') ∧ P (.rt d) s')) :
    ∃ o s', whileS c F FUEL env s = some (o, s') ∧ P o s' := by
  obtain ⟨o, s', h1, h2⟩ := while_rm R P hs n env s h0
  exact ⟨o, s', whileL_mono h1 hn, h2⟩
/-! ### one step down -/
def stepK (E : Ents) (x : List Nat) (k : Nat) : List (List Nat) := (x.take k ++ x.drop (k + 1)) :: (lesN E (x.getD k 0)).map fun d => x.take k ++ [d] ++ x.drop (k + 1)
def stepW (E : Ents) (x : List Nat) : List (List Nat) := (List.range x.length).flatMap (stepK E x)
theorem low_refl {E : Ents} (c : Nat) : LowP E c c := by show lowB E c c = true; unfold lowB; rw [decide_eq_true rfl]; rfl
theorem step_emb {E : Ents} (h : ClE E) {x y : List Nat} (hy : y ∈ stepW E x) : Emb (LowP E) y x := by
  obtain ⟨k, hk, hy⟩ := List.mem_flatMap.mp hy
  have hk' := List.mem_range.mp hk
  have e := split_at hk'
  have key : ∀ m, Emb (LowP E) m [x.getD k 0] → Emb (LowP E) (x.take k ++ m ++ x.drop (k + 1)) x := fun m hm => by
    have := ((Emb.refl low_refl (x.take k)).app hm).app (Emb.refl low_refl (x.drop (k + 1)))
    rw [← e] at this
    exact this
  rcases List.mem_cons.mp hy with rfl | hy
  · have := key [] (.nil _)
    rwa [List.append_nil] at this
  · obtain ⟨d, hd, rfl⟩ := List.mem_map.mp hy
    exact key [d] (.take ((lowP_iff h).mpr (.inr (.one hd))) (.nil _))
theorem step_at {E : Ents} {p v : List Nat} {c : Nat} : p ++ v ∈ stepW E (p ++ c :: v) ∧ ∀ d ∈ lesN E c, p ++ d :: v ∈ stepW E (p ++ c :: v) := by
  have hk : p.length ∈ List.range (p ++ c :: v).length := List.mem_range.mpr (by rw [List.length_append, List.length_cons]; omega)
  have e1 : (p ++ c :: v).take p.length = p := List.take_left
  have e2 : (p ++ c :: v).drop (p.length + 1) = v := by rw [List.drop_append]; simp
  have e3 : (p ++ c :: v).getD p.length 0 = c := by rw [List.getD_eq_getElem?_getD, List.getElem?_append_right (Nat.le_refl _), Nat.sub_self]; rfl
  refine ⟨List.mem_flatMap.mpr ⟨_, hk, ?_⟩, fun d hd => List.mem_flatMap.mpr ⟨_, hk, ?_⟩⟩
  · unfold stepK
    rw [e1, e2]
    exact List.mem_cons_self
  · unfold stepK
    rw [e1, e2, e3]
    refine List.mem_cons_of_mem _ (List.mem_map.mpr ⟨d, hd, ?_⟩)
    rw [List.append_assoc]; rfl
theorem step_len {E : Ents} (h : ClE E) {x : List Nat} : (stepW E x).length ≤ x.length * 11 := by
  have := flat_len (l := List.range x.length) (f := stepK E x) (m := 11) fun k _ => by
    unfold stepK
    rw [List.length_cons, List.length_map]
    have := h.few (x.getD k 0)
    omega
  rwa [List.length_range] at this
theorem closed_all {E : Ents} (h : ClE E) {K : List (List Nat)} (hK : ∀ x ∈ K, ∀ y ∈ stepW E x, y ∈ K) {u v : List Nat} (he : Emb (LowP E) u v) : ∀ {p : List Nat}, p ++ v ∈ K → p ++ u ∈ K := by
  induction he with
  | nil v =>
    induction v with
    | nil => exact fun h => h
    | cons c v ih => exact fun {p} hp => ih (hK _ hp _ step_at.1)
  | @skip c u v _ ih => exact fun {p} hp => ih (hK _ hp _ step_at.1)
  | @take a c u v q _ ih =>
    intro p hp
    have h1 : p ++ a :: v ∈ K := by
      rcases (lowP_iff h).mp q with rfl | z
      · exact hp
      · induction z with
        | one z => exact hK _ hp _ (step_at.2 _ z)
        | more _ z ih2 => exact hK _ (ih2 ((lowP_iff h).mpr (.inr (by assumption)))) _ (step_at.2 _ z)
    have h2 := ih (p := p ++ [a]) (by rw [List.append_assoc]; exact h1)
    rw [List.append_assoc] at h2
    exact h2
/-! ### all that are at most a word, by the law -/
structure Wal (E : Ents) (w : List Nat) (K a : List (List Nat)) : Prop where
  nd : K.Nodup
  kk : ∀ x ∈ K, Emb (LowP E) x w
  aa : ∀ x ∈ a, Emb (LowP E) x w
  st : w ∈ K ∨ w ∈ a
  on : ∀ x ∈ K, ∀ y ∈ stepW E x, y ∈ K ∨ y ∈ a
theorem Wal.skip {E : Ents} {w x : List Nat} {K a : List (List Nat)} (h : Wal E w K (a ++ [x])) (hx : x ∈ K) : Wal E w K a where
  nd := h.nd
  kk := h.kk
  aa := fun y hy => h.aa y (List.mem_append_left _ hy)
  st := h.st.elim .inl fun z => (List.mem_append.mp z).elim .inr fun z => .inl (by rw [List.mem_singleton.mp z]; exact hx)
  on := fun y hy z hz => (h.on y hy z hz).elim .inl fun q => (List.mem_append.mp q).elim .inr fun q => .inl (by rw [List.mem_singleton.mp q]; exact hx)
theorem Wal.take {E : Ents} (hE : ClE E) {w x : List Nat} {K a : List (List Nat)} (h : Wal E w K (a ++ [x])) (hx : x ∉ K) : Wal E w (K ++ [x]) (a ++ stepW E x) where
  nd := List.nodup_append.mpr ⟨h.nd, List.pairwise_singleton _ _, fun y hy z hz e => hx (by rw [List.mem_singleton.mp hz] at e; exact e ▸ hy)⟩
  kk := fun y hy => (List.mem_append.mp hy).elim (h.kk y) fun z => by rw [List.mem_singleton.mp z]; exact h.aa x (List.mem_append_right _ List.mem_cons_self)
  aa := fun y hy => (List.mem_append.mp hy).elim (fun z => h.aa y (List.mem_append_left _ z)) fun z => Emb.trans (P := LowP E) (fun h1 h2 => lowP_trans hE h1 h2) (step_emb hE z) (h.aa x (List.mem_append_right _ List.mem_cons_self))
  st := h.st.elim (fun z => .inl (List.mem_append_left _ z)) fun z => (List.mem_append.mp z).elim (fun z => .inr (List.mem_append_left _ z)) fun z => .inl (List.mem_append_right _ z)
  on := fun y hy z hz => by
    rcases List.mem_append.mp hy with q | q
    · rcases h.on y q z hz with r | r
      · exact .inl (List.mem_append_left _ r)
      · rcases List.mem_append.mp r with r | r
        · exact .inr (List.mem_append_left _ r)
        · exact .inl (List.mem_append_right _ r)
    · rw [List.mem_singleton.mp q] at hz
      exact .inr (List.mem_append_right _ hz)
theorem Wal.all {E : Ents} (hE : ClE E) {w : List Nat} {K : List (List Nat)} (h : Wal E w K []) (y : List Nat) : y ∈ K ↔ y ∈ tamN E w := by
  rw [tam_mem]
  refine ⟨h.kk y, fun z => ?_⟩
  have hw : w ∈ K := h.st.elim (fun z => z) fun z => absurd z List.not_mem_nil
  exact closed_all hE (fun x hx y hy => (h.on x hx y hy).elim (fun z => z) fun z => absurd z List.not_mem_nil) z (p := []) hw
theorem Wal.few {E : Ents} {w : List Nat} {K a : List (List Nat)} (h : Wal E w K a) : K.length ≤ (tamN E w).length := by
  have key : ∀ {l m : List (List Nat)}, l.Nodup → (∀ x ∈ l, x ∈ m) → l.length ≤ m.length := by
    intro l
    induction l with
    | nil => exact fun _ _ => Nat.zero_le _
    | cons x l ih =>
      intro m h hs
      obtain ⟨h1, h2⟩ := List.nodup_cons.mp h
      have ih := ih (m := m.erase x) h2 fun y hy => (List.mem_erase_of_ne (fun e => h1 (by rw [← e]; exact hy))).mpr (hs y (List.mem_cons_of_mem _ hy))
      have hx := hs x List.mem_cons_self
      have := List.length_erase_of_mem hx
      have := List.length_pos_of_mem hx
      rw [List.length_cons]
      omega
  exact key h.nd fun x hx => (tam_mem w).mpr (h.kk x hx)

def allI : Fs := (seqS (appS 5 (bind2 (bindS (fVar 6) oNone (oSome (fVar 7)) sliceG) (bindS (fVar 6) (oSome (bind2 (fVar 7) (fC (.int 1)) addAll)) oNone sliceG) addAll)) (setNS 5 (bind2 (fVar 5) (lcF (seqF (bind2 (fVar 3) (bind2 (fVar 6) (fVar 7) ixA) ixA)) (tgN 8) yesT (bind2 (bind2 (bindS (fVar 6) oNone (oSome (fVar 7)) sliceG) (fVar 8) addAll) (bindS (fVar 6) (oSome (bind2 (fVar 7) (fC (.int 1)) addAll)) oNone sliceG) addAll) [8]) catG)))
theorem words_snoc (a : List (List Nat)) (x : List Nat) : a.map wd ++ [wd x] = (a ++ [x]).map wd := by rw [List.map_append]; rfl
section
variable {E : Ents} {s : Sto}
theorem all_one (hE : ClE E) (A1 A2 A3 : Option Dt) (D : Option Dt) {x : List Nat} {a : List (List Nat)} {k : Nat} (hx : ∀ c ∈ x, c ∈ E.map (·.1)) (hl : x.length ≤ 90) (hk : k < x.length) (ha : a.length < 1000000) (y8 : Option Dt) (s : Sto) :
    ∃ z8, allI [A1, A2, A3, some (edD E), D, some (.lst (a.map wd)), some (wd x), some (.int (0 + ((k : Nat) : Int))), y8] s = some (.nx [A1, A2, A3, some (edD E), D, some (.lst ((a ++ stepK E x k).map wd)), some (wd x), some (.int (0 + ((k : Nat) : Int))), z8], s) := by
  rw [Int.zero_add]
  have hc : x[k]? = some (x.getD k 0) := by rw [List.getD_eq_getElem?_getD, List.getElem?_eq_getElem hk]; rfl
  have hm : x.getD k 0 ∈ E.map (·.1) := hx _ (List.mem_of_getElem? hc)
  have hf := hE.few (x.getD k 0)
  have t1 : ∀ (e : Env), e[6]? = some (some (wd x)) → e[7]? = some (some (.int ((k : Nat) : Int))) → bindS (fVar 6) oNone (oSome (fVar 7)) sliceG e s = some (wd (x.take k), s) := fun e h1 h2 => take_ev (v0 h1) (v0 h2) (by omega)
  have t2 : ∀ (e : Env), e[6]? = some (some (wd x)) → e[7]? = some (some (.int ((k : Nat) : Int))) → bindS (fVar 6) (oSome (bind2 (fVar 7) (fC (.int 1)) addAll)) oNone sliceG e s = some (wd (x.drop (k + 1)), s) := fun e h1 h2 => drop_ev (k := k + 1) (v0 h1) (bind2_ev (v0 h2) c0 add_n1) (by omega)
  have l1 : (x.take k).length ≤ 90 := by rw [List.length_take]; omega
  have l2 : (x.drop (k + 1)).length ≤ 90 := by rw [List.length_drop]; omega
  have a1 : appS 5 (bind2 (bindS (fVar 6) oNone (oSome (fVar 7)) sliceG) (bindS (fVar 6) (oSome (bind2 (fVar 7) (fC (.int 1)) addAll)) oNone sliceG) addAll) [A1, A2, A3, some (edD E), D, some (.lst (a.map wd)), some (wd x), some (.int ((k : Nat) : Int)), y8] s
      = some (.nx [A1, A2, A3, some (edD E), D, some (.lst ((a ++ [x.take k ++ x.drop (k + 1)]).map wd)), some (wd x), some (.int ((k : Nat) : Int)), y8], s) := by
    refine (app_ev (d := wd (x.take k ++ x.drop (k + 1))) (ds := a.map wd) (bind2_ev (t1 _ rfl rfl) (t2 _ rfl rfl) (cat_w (by omega))) rfl (small' (by rw [List.length_map]; omega))).trans ?_
    rw [words_snoc]; rfl
  have gx := at_w (s := s) (w := x) (by omega) hc
  have gd := get_ed (s := s) hm
  have q1 : lcF (seqF (bind2 (fVar 3) (bind2 (fVar 6) (fVar 7) ixA) ixA)) (tgN 8) yesT (bind2 (bind2 (bindS (fVar 6) oNone (oSome (fVar 7)) sliceG) (fVar 8) addAll) (bindS (fVar 6) (oSome (bind2 (fVar 7) (fC (.int 1)) addAll)) oNone sliceG) addAll) [8] [A1, A2, A3, some (edD E), D, some (.lst ((a ++ [x.take k ++ x.drop (k + 1)]).map wd)), some (wd x), some (.int ((k : Nat) : Int)), y8] s
      = some (.lst ((lesN E (x.getD k 0)).map fun d => wd (x.take k ++ [d] ++ x.drop (k + 1))), s) := by
    refine lc_y (xs := lesN E (x.getD k 0)) (enc := fun d => wd [d]) (g := fun d => wd (x.take k ++ [d] ++ x.drop (k + 1))) (s1 := s) (seq_tup (bind2_ev (v0 rfl) (bind2_ev (v0 rfl) (v0 rfl) gx) gd)) (small (by omega)) fun d hd => ?_
    exact bind2_ev (bind2_ev (t1 _ rfl rfl) (v0 rfl) (cat_w (by show _ + 1 ≤ _; omega))) (t2 _ rfl rfl) (cat_w (by rw [List.length_append]; show _ + 1 + _ ≤ _; omega))
  have q2 : catG s (.lst ((a ++ [x.take k ++ x.drop (k + 1)]).map wd)) (.lst ((lesN E (x.getD k 0)).map fun d => wd (x.take k ++ [d] ++ x.drop (k + 1)))) = some (.lst ((a ++ stepK E x k).map wd)) := by
    have := cat_l (s := s) (a := (a ++ [x.take k ++ x.drop (k + 1)]).map wd) (b := (lesN E (x.getD k 0)).map fun d => wd (x.take k ++ [d] ++ x.drop (k + 1))) (by rw [List.length_map, List.length_map, List.length_append, List.length_singleton]; omega)
    refine this.trans ?_
    have e : (lesN E (x.getD k 0)).map (fun d => wd (x.take k ++ [d] ++ x.drop (k + 1))) = ((lesN E (x.getD k 0)).map fun d => x.take k ++ [d] ++ x.drop (k + 1)).map wd := by rw [List.map_map]; rfl
    unfold stepK
    rw [e, ← List.map_append, List.append_assoc]
    rfl
  exact ⟨y8, (seq_nx a1).trans (setN_ev (by simp) (bind2_ev (v0 rfl) q1 q2))⟩
theorem all_steps (hE : ClE E) (A1 A2 A3 : Option Dt) (D : Option Dt) {x : List Nat} {a : List (List Nat)} (hx : ∀ c ∈ x, c ∈ E.map (·.1)) (hl : x.length ≤ 90) (ha : a.length < 900000) (y7 y8 : Option Dt) (s : Sto) :
    ∃ z7 z8, forF (rngF1 (bindA (aCons (fVar 6) aNil) lenG)) (tgN 7) allI [A1, A2, A3, some (edD E), D, some (.lst (a.map wd)), some (wd x), y7, y8] s = some (.nx [A1, A2, A3, some (edD E), D, some (.lst ((a ++ stepW E x).map wd)), some (wd x), z7, z8], s) := by
  have g1 := len_w (s := s) (w := x) (by omega)
  have key := for_pre (xs := List.range x.length) (enc := fun k => .int (0 + ((k : Nat) : Int))) (i := 7) (F := allI) (fi := rngF1 (bindA (aCons (fVar 6) aNil) lenG)) (s := s)
    (env := [A1, A2, A3, some (edD E), D, some (.lst (a.map wd)), some (wd x), y7, y8])
    (fun pre env s' => s' = s ∧ ∃ z7 z8, env = [A1, A2, A3, some (edD E), D, some (.lst ((a ++ pre.flatMap (stepK E x)).map wd)), some (wd x), z7, z8])
    (rng_ev (m := ((x.length : Nat) : Int)) (bindA_ev (aCons_ev (v0 rfl) a0) g1) (by omega) (by omega)) ⟨rfl, y7, y8, by rw [List.flatMap_nil, List.append_nil]⟩ (by
    rintro pre k post env s' he ⟨rfl, z7, z8, rfl⟩
    obtain ⟨hk1, hk2⟩ := range_pre he
    have hb := flat_len (l := pre) (f := stepK E x) (m := 11) fun k _ => by
      unfold stepK
      rw [List.length_cons, List.length_map]
      have := hE.few (x.getD k 0)
      omega
    obtain ⟨w8, e⟩ := all_one hE A1 A2 A3 D (x := x) (a := a ++ pre.flatMap (stepK E x)) hx hl hk2 (by rw [List.length_append]; omega) z8 s'
    refine ⟨_, s', e, rfl, some (.int (0 + ((k : Nat) : Int))), w8, ?_⟩
    have e2 : a ++ (pre ++ [k]).flatMap (stepK E x) = a ++ pre.flatMap (stepK E x) ++ stepK E x k := by rw [List.flatMap_append, List.append_assoc]; simp
    rw [e2])
  obtain ⟨e', s', h1, rfl, z7, z8, rfl⟩ := key
  exact ⟨z7, z8, h1⟩
end

end DL
namespace DL
open PySem PySem.Spec PyProof.Rows L2
local macro_rules | `(tactic| walk_at "op") => `(tactic| first | assumption | with_reducible rfl | exact cat_w (by omega) | exact sub_nn (by omega) | exact add_nn | exact at_w (by omega) (by assumption) | exact len_w (by omega) | exact in_l1 | exact notin_l1 | exact in_t1 | exact notin_t1 | exact in_k1 | exact notin_k1 | exact in_wl | exact notin_wl | exact in_wt | exact notin_wt | exact in_kd | exact notin_kd | exact eq_ww | exact ne_ww | exact any_bl | exact all_bl | rfl)
local macro_rules | `(tactic| walk_at "ev") => `(tactic| first | with_reducible exact c0 | ((with_reducible apply v0); rfl) | with_reducible exact a0 | with_reducible assumption | ((with_reducible apply aCons_ev); (focus walk_at "ev"); (focus walk_at "ev")) | ((with_reducible apply bindA_ev); (focus walk_at "ev"); (focus walk_at "op")) | ((with_reducible apply bind2_ev); (focus walk_at "ev"); (focus walk_at "ev"); (focus walk_at "op")) | ((with_reducible apply bind1_ev); (focus walk_at "ev"); (focus walk_at "op")) | ((with_reducible apply asB_ev); (focus walk_at "ev")) | ((with_reducible apply call_ev); (focus walk_at "ev"); (focus first | assumption | rfl)) | ((with_reducible apply truF_ev); (focus walk_at "ev"); (focus first | assumption | rfl)) | ((with_reducible apply notT_ev); (focus walk_at "ev")) | ((with_reducible apply andT_e); (focus walk_at "ev"); (focus (intro hq; walk_at "ev"))) | ((with_reducible apply orT_e); (focus walk_at "ev"); (focus (intro hq; walk_at "ev"))) | ((with_reducible apply seq_tup); (focus walk_at "ev")) | ((with_reducible apply seq_lst); (focus walk_at "ev")) | ((with_reducible apply seq_str); (focus walk_at "ev")))
section
variable {E : Ents} {s : Sto}
def allW : Fs := (seqS (popS 5 6) (ifS (asB (bind2 (fVar 6) (fVar 4) notinA)) (seqS (dputS 4 (fVar 6) (fC (.bl true))) (seqS (ifS (asB (bind2 (bindA (aCons (fVar 4) aNil) lenG) (fVar 2) gtG)) (retS (fC .non)) skipS) (forF (rngF1 (bindA (aCons (fVar 6) aNil) lenG)) (tgN 7) allI))) skipS))
theorem emb_let (hE : ClE E) {u v : List Nat} (h : Emb (LowP E) u v) (hv : ∀ c ∈ v, c ∈ E.map (·.1)) : ∀ c ∈ u, c ∈ E.map (·.1) := by
  induction h with
  | nil v => exact fun c hc => absurd hc List.not_mem_nil
  | skip _ ih => exact ih fun c hc => hv c (List.mem_cons_of_mem _ hc)
  | take p _ ih =>
    intro c hc
    rcases List.mem_cons.mp hc with rfl | hc
    · rcases (lowP_iff hE).mp p with rfl | z
      · exact hv _ List.mem_cons_self
      · exact hE.rch z
    · exact ih (fun c hc => hv c (List.mem_cons_of_mem _ hc)) c hc
theorem ne_wordsL {s : Sto} {a : List (List Nat)} (h : ∀ x ∈ a, lowc x) : neG s (.lst (a.map wd)) (.lst []) = some (.bl (!a.isEmpty)) := ne_wds (l := a) (f := fun x => x) h
theorem all_w (hE : ClE E) {w : List Nat} {B : Nat} (hw : ∀ c ∈ w, c ∈ E.map (·.1)) (hl : w.length ≤ 8) (hB : B ≤ 5000) (s : Sto) :
    ∃ o s', whileS (asB (bind2 (fVar 5) (bindA aNil lstG) neG)) allW FUEL [some (.tup (entL E)), some (wd w), some (.int ((B : Nat) : Int)), some (edD E), some (.dct (trW [])), some (.lst ([w].map wd)), none, none, none] s = some (o, s') ∧ s' = s ∧
      ((o = .rt .non ∧ B < (tamN E w).length) ∨ ∃ K y6 y7 y8, o = .nx [some (.tup (entL E)), some (wd w), some (.int ((B : Nat) : Int)), some (edD E), some (.dct (trW K)), some (.lst ([].map wd)), y6, y7, y8] ∧ Wal E w K [] ∧ K.length ≤ B) := by
  have hfew : ∀ x, Emb (LowP E) x w → x.length ≤ 8 := fun x h => Nat.le_trans h.len hl
  refine while_r (n := (B + 1) * 100 + 1) (R := fun n env s' => s' = s ∧ ∃ K a y6 y7 y8, env = [some (.tup (entL E)), some (wd w), some (.int ((B : Nat) : Int)), some (edD E), some (.dct (trW K)), some (.lst (a.map wd)), y6, y7, y8] ∧ Wal E w K a ∧ K.length ≤ B ∧ (B + 1 - K.length) * 100 + a.length = n ∧ n ≤ (B + 1) * 100 + 1) (P := fun o s' => s' = s ∧
      ((o = .rt .non ∧ B < (tamN E w).length) ∨ ∃ K y6 y7 y8, o = .nx [some (.tup (entL E)), some (wd w), some (.int ((B : Nat) : Int)), some (edD E), some (.dct (trW K)), some (.lst ([].map wd)), y6, y7, y8] ∧ Wal E w K [] ∧ K.length ≤ B))
    ⟨rfl, [], [w], none, none, none, rfl, ⟨.nil, fun x hx => absurd hx List.not_mem_nil, fun x hx => by rw [List.mem_singleton.mp hx]; exact Emb.refl low_refl w, .inr List.mem_cons_self, fun x hx => absurd hx List.not_mem_nil⟩, Nat.zero_le _, rfl, Nat.le_refl _⟩ (by show _ < 1000000000; omega) ?_
  rintro n env s' ⟨rfl, K, a, y6, y7, y8, rfl, i, hK, hm, hn⟩
  have hlow : ∀ x ∈ a, lowc x := fun x hx c hc => hE.lo c (emb_let hE (i.aa x hx) hw c hc)
  have hcond : asB (bind2 (fVar 5) (bindA aNil lstG) neG) [some (.tup (entL E)), some (wd w), some (.int ((B : Nat) : Int)), some (edD E), some (.dct (trW K)), some (.lst (a.map wd)), y6, y7, y8] s' = some (!a.isEmpty, s') := asB_ev (bind2_ev (v0 rfl) (bindA_ev a0 rfl) (ne_wordsL hlow))
  rcases List.eq_nil_or_concat a with rfl | ⟨a, x, rfl⟩
  · exact .inl ⟨hcond, rfl, .inr ⟨K, y6, y7, y8, rfl, i, hK⟩⟩
  rw [List.concat_eq_append] at *
  have hq : (a ++ [x]).isEmpty = false := by cases a <;> rfl
  rw [hq] at hcond
  refine .inr ⟨s', hcond, ?_⟩
  rw [List.length_append, List.length_singleton] at hm
  have hp := pop_ev (i := 5) (k := 6) (ds := a.map wd) (d := wd x) (env := [some (.tup (entL E)), some (wd w), some (.int ((B : Nat) : Int)), some (edD E), some (.dct (trW K)), some (.lst (a.map wd ++ [wd x])), y6, y7, y8]) (s := s') rfl
  rw [words_snoc] at hp
  have gn : notinA s' (wd x) (.dct (trW K)) = some (.bl (!decide (x ∈ K))) := by
    have := notin_kd (s := s') (x := x) (l := K) (f := fun w => w) (g := fun _ => .bl true)
    rwa [List.map_id'] at this
  by_cases hx : x ∈ K
  · rw [decide_eq_true hx] at gn
    exact .inl ⟨_, s', _, (seq_nx hp).trans ((if_f (asB_ev (bind2_ev (v0 rfl) (v0 rfl) gn))).trans rfl), by omega, rfl, K, a, _, _, _, rfl, i.skip hx, hK, rfl, by omega⟩
  rw [decide_eq_false hx] at gn
  have j := i.take hE hx
  have hemb := i.aa x (List.mem_append_right _ List.mem_cons_self)
  have hxl := hfew x hemb
  have hxc := emb_let hE hemb hw
  have had : addU K x = K ++ [x] := by unfold addU; rw [if_neg hx]
  have dp : dputS 4 (fVar 6) (fC (.bl true)) [some (.tup (entL E)), some (wd w), some (.int ((B : Nat) : Int)), some (edD E), some (.dct (trW K)), some (.lst (a.map wd)), some (wd x), y7, y8] s' = some (.nx [some (.tup (entL E)), some (wd w), some (.int ((B : Nat) : Int)), some (edD E), some (.dct (trW (K ++ [x]))), some (.lst (a.map wd)), some (wd x), y7, y8], s') := by
    refine (dput_e (v := .bl true) (kd := wd x) (ks := trW K) (key := .inr (strW x)) c0 (v0 rfl) rfl rfl (small' (by rw [List.length_map]; omega))).trans ?_
    rw [put_trW, had]
    rfl
  have hgt : gtG s' (.int (((trW (K ++ [x])).length : Nat) : Int)) (.int ((B : Nat) : Int)) = some (.bl (decide (B < K.length + 1))) := by
    show some (Dt.bl (decide ((B : Int) < (((trW (K ++ [x])).length : Nat) : Int)))) = _
    rw [List.length_map, List.length_append, List.length_singleton]
    congr 2
    exact decide_eq_decide.mpr (by omega)
  have hcd : asB (bind2 (bindA (aCons (fVar 4) aNil) lenG) (fVar 2) gtG) [some (.tup (entL E)), some (wd w), some (.int ((B : Nat) : Int)), some (edD E), some (.dct (trW (K ++ [x]))), some (.lst (a.map wd)), some (wd x), y7, y8] s' = some (decide (B < K.length + 1), s') := asB_ev (bind2_ev (bindA_ev (aCons_ev (v0 rfl) a0) len_dct) (v0 rfl) hgt)
  have pre : ∀ r, seqS (ifS (asB (bind2 (bindA (aCons (fVar 4) aNil) lenG) (fVar 2) gtG)) (retS (fC .non)) skipS) (forF (rngF1 (bindA (aCons (fVar 6) aNil) lenG)) (tgN 7) allI) [some (.tup (entL E)), some (wd w), some (.int ((B : Nat) : Int)), some (edD E), some (.dct (trW (K ++ [x]))), some (.lst (a.map wd)), some (wd x), y7, y8] s' = r → allW [some (.tup (entL E)), some (wd w), some (.int ((B : Nat) : Int)), some (edD E), some (.dct (trW K)), some (.lst ((a ++ [x]).map wd)), y6, y7, y8] s' = r := fun r h =>
    (seq_nx hp).trans ((if_t (asB_ev (bind2_ev (v0 rfl) (v0 rfl) gn))).trans ((seq_nx dp).trans h))
  have hfew2 := j.few
  rw [List.length_append, List.length_singleton] at hfew2
  by_cases hb : B < K.length + 1
  · rw [decide_eq_true hb] at hcd
    exact .inr ⟨.non, s', pre _ (seq_rt ((if_t hcd).trans (ret_ev c0))), rfl, .inl ⟨rfl, by omega⟩⟩
  · rw [decide_eq_false hb] at hcd
    obtain ⟨z7, z8, e⟩ := all_steps hE (some (.tup (entL E))) (some (wd w)) (some (.int ((B : Nat) : Int))) (some (.dct (trW (K ++ [x])))) (x := x) (a := a) hxc (by omega) (by omega) y7 y8 s'
    have hsl := step_len hE (x := x)
    refine .inl ⟨_, s', (B + 1 - (K ++ [x]).length) * 100 + (a ++ stepW E x).length, pre _ ((seq_nx ((if_f hcd).trans rfl)).trans e), ?_, rfl, K ++ [x], _, _, _, _, rfl, j, by rw [List.length_append, List.length_singleton]; omega, rfl, ?_⟩
    all_goals rw [List.length_append, List.length_append, List.length_singleton]
    all_goals omega
/-- what the law finds -/
def allD (E : Ents) (w : List Nat) (B : Nat) : Dt := if (tamN E w).length ≤ B then .lst ((sortW (tamN E w)).map wd) else .non
theorem all_ok_ (hE : ClE E) {w : List Nat} {B : Nat} (hw : ∀ c ∈ w, c ∈ E.map (·.1)) (hl : w.length ≤ 8) (hB : B ≤ 5000) : V_law_all_below_k04_k04 [.tup (entL E), wd w, .int ((B : Nat) : Int)] s = some (allD E w B, s) := by
  have g1 := (toDct_ent s hE.ok.nd).2
  have g1' : toDctG s [.lst (entL E)] = some (edD E) := g1
  have g3 : toLstG s [.tup (entL E)] = some (.lst (entL E)) := rfl
  have p3 : par3S 3 4 5 (bindA (aCons (bindA (aCons (fVar 0) aNil) toLstG) aNil) toDctG) emptyG (bindA (aCons (fVar 1) aNil) lstG) [some (.tup (entL E)), some (wd w), some (.int ((B : Nat) : Int)), none, none, none, none, none, none] s = some (.nx [some (.tup (entL E)), some (wd w), some (.int ((B : Nat) : Int)), some (edD E), some (.dct (trW [])), some (.lst ([w].map wd)), none, none, none], s) := by
    unfold par3S
    rw [if_pos ⟨by simp, by simp, by simp⟩, bindA_ev (aCons_ev (bindA_ev (aCons_ev (v0 rfl) a0) g3) a0) g1']
    rfl
  obtain ⟨o, s', h1, rfl, h2⟩ := all_w hE hw hl hB s
  rcases h2 with ⟨rfl, h2⟩ | ⟨K, y6, y7, y8, rfl, i, hK⟩
  · unfold allD
    rw [if_neg (by omega)]
    exact fn_rt ((seq_nx p3).trans (seq_rt h1))
  · have hKl : K.length = (tamN E w).length := ((List.perm_ext_iff_of_nodup i.nd (tam_nd w)).mpr (i.all hE)).length_eq
    have e : sortW K = sortW (tamN E w) := sortW_eq i.nd (tam_nd w) (i.all hE)
    have g2 : toLstG s' [.dct (trW K)] = some (.lst (K.map wd)) := by
      show some (Dt.lst ((trW K).map fun kv => keyD kv.1)) = _
      rw [keys_trW]
    have g4 := sorted_words (s := s') K
    rw [e] at g4
    unfold allD
    rw [if_pos (by omega)]
    exact fn_rt ((seq_nx p3).trans ((seq_nx h1).trans (ret_ev (bindA_ev (aCons_ev (bindA_ev (aCons_ev (v0 rfl) a0) g2) a0) g4))))
end

end DL
namespace DL
open PySem PySem.Spec PyProof.Rows L2
local macro_rules | `(tactic| walk_at "op") => `(tactic| first | assumption | with_reducible rfl | exact cat_w (by omega) | exact sub_nn (by omega) | exact add_nn | exact at_w (by omega) (by assumption) | exact len_w (by omega) | exact in_l1 | exact notin_l1 | exact in_t1 | exact notin_t1 | exact in_k1 | exact notin_k1 | exact in_wl | exact notin_wl | exact in_wt | exact notin_wt | exact in_kd | exact notin_kd | exact eq_ww | exact ne_ww | exact any_bl | exact all_bl | rfl)
local macro_rules | `(tactic| walk_at "ev") => `(tactic| first | with_reducible exact c0 | ((with_reducible apply v0); rfl) | with_reducible exact a0 | with_reducible assumption | ((with_reducible apply aCons_ev); (focus walk_at "ev"); (focus walk_at "ev")) | ((with_reducible apply bindA_ev); (focus walk_at "ev"); (focus walk_at "op")) | ((with_reducible apply bind2_ev); (focus walk_at "ev"); (focus walk_at "ev"); (focus walk_at "op")) | ((with_reducible apply bind1_ev); (focus walk_at "ev"); (focus walk_at "op")) | ((with_reducible apply asB_ev); (focus walk_at "ev")) | ((with_reducible apply call_ev); (focus walk_at "ev"); (focus first | assumption | rfl)) | ((with_reducible apply truF_ev); (focus walk_at "ev"); (focus first | assumption | rfl)) | ((with_reducible apply notT_ev); (focus walk_at "ev")) | ((with_reducible apply andT_e); (focus walk_at "ev"); (focus (intro hq; walk_at "ev"))) | ((with_reducible apply orT_e); (focus walk_at "ev"); (focus (intro hq; walk_at "ev"))) | ((with_reducible apply seq_tup); (focus walk_at "ev")) | ((with_reducible apply seq_lst); (focus walk_at "ev")) | ((with_reducible apply seq_str); (focus walk_at "ev")))
/-! ### whether one embeds, by the law -/
theorem Emb.last {P : Nat → Nat → Prop} {u : List Nat} {a : Nat} (w : List Nat) : Emb P (u ++ [a]) w ↔ ∃ j, j < w.length ∧ P a (w.getD j 0) ∧ Emb P u (w.take j) := by
  refine list_snoc (p := fun w => Emb P (u ++ [a]) w ↔ ∃ j, j < w.length ∧ P a (w.getD j 0) ∧ Emb P u (w.take j)) ?_ (fun w c ih => ?_) w
  · constructor
    · intro h
      have := h.len
      rw [List.length_append, List.length_singleton] at this
      simp only [List.length_nil] at this
      omega
    · rintro ⟨j, h, _⟩
      exact absurd h (Nat.not_lt_zero _)
  · rw [Emb.snoc, ih]
    constructor
    · rintro (⟨j, h1, h2, h3⟩ | ⟨t, b, e, h, p⟩)
      · refine ⟨j, by rw [List.length_append]; omega, ?_, ?_⟩
        · rw [List.getD_eq_getElem?_getD, List.getElem?_append_left h1, ← List.getD_eq_getElem?_getD]; exact h2
        · rw [List.take_append_of_le_length (by omega)]; exact h3
      · have e2 := List.append_inj' e rfl
        obtain ⟨rfl, e3⟩ := e2
        cases e3
        refine ⟨w.length, by rw [List.length_append, List.length_singleton]; omega, ?_, ?_⟩
        · rw [List.getD_eq_getElem?_getD, List.getElem?_append_right (Nat.le_refl _), Nat.sub_self]; exact p
        · rw [List.take_append_of_le_length (Nat.le_refl _), List.take_length]; exact h
    · rintro ⟨j, h1, h2, h3⟩
      rw [List.length_append, List.length_singleton] at h1
      by_cases hj : j < w.length
      · refine .inl ⟨j, hj, ?_, ?_⟩
        · rw [List.getD_eq_getElem?_getD, List.getElem?_append_left hj, ← List.getD_eq_getElem?_getD] at h2; exact h2
        · rw [List.take_append_of_le_length (by omega)] at h3; exact h3
      · have hj' : j = w.length := by omega
        subst hj'
        refine .inr ⟨u, a, rfl, ?_, ?_⟩
        · rw [List.take_append_of_le_length (Nat.le_refl _), List.take_length] at h3; exact h3
        · rw [List.getD_eq_getElem?_getD, List.getElem?_append_right (Nat.le_refl _), Nat.sub_self] at h2; exact h2
def condN (E : Ents) (v : List Nat) (a : Nat) (S : List Nat) (k : Nat) : Bool := lowB E a (v.getD k 0) && !(S.filter fun q => decide (q ≤ k)).isEmpty
def nextN (E : Ents) (v : List Nat) (a : Nat) (S : List Nat) : List Nat := ((List.range v.length).filter (condN E v a S)).map (· + 1)
structure Spt (E : Ents) (v u S : List Nat) : Prop where
  at_ : ∀ k, k ≤ v.length → ((∃ q ∈ S, q ≤ k) ↔ Emb (LowP E) u (v.take k))
  le : ∀ q ∈ S, q ≤ v.length
theorem filt_ne {S : List Nat} {k : Nat} : (!(S.filter fun q => decide (q ≤ k)).isEmpty) = true ↔ ∃ q ∈ S, q ≤ k := by
  rw [Bool.not_eq_true', List.isEmpty_eq_false_iff]
  constructor
  · intro h
    obtain ⟨q, hq⟩ := List.exists_mem_of_ne_nil _ h
    exact ⟨q, (List.mem_filter.mp hq).1, of_decide_eq_true (List.mem_filter.mp hq).2⟩
  · rintro ⟨q, h1, h2⟩ h
    have : q ∈ S.filter fun q => decide (q ≤ k) := List.mem_filter.mpr ⟨h1, decide_eq_true h2⟩
    rw [h] at this
    exact absurd this List.not_mem_nil
theorem Spt.next {E : Ents} {v u S : List Nat} (h : Spt E v u S) (a : Nat) : Spt E v (u ++ [a]) (nextN E v a S) where
  at_ := fun k hk => by
    rw [Emb.last]
    unfold nextN
    constructor
    · rintro ⟨q, hq, hqk⟩
      obtain ⟨j, hj, rfl⟩ := List.mem_map.mp hq
      obtain ⟨hj1, hj2⟩ := List.mem_filter.mp hj
      have hj1 := List.mem_range.mp hj1
      unfold condN at hj2
      rw [Bool.and_eq_true, filt_ne] at hj2
      refine ⟨j, by rw [List.length_take]; omega, ?_, ?_⟩
      · rw [List.getD_eq_getElem?_getD, List.getElem?_take_of_lt (by omega), ← List.getD_eq_getElem?_getD]; exact hj2.1
      · rw [List.take_take, Nat.min_eq_left (by omega)]; exact (h.at_ j (by omega)).mp hj2.2
    · rintro ⟨j, h1, h2, h3⟩
      rw [List.length_take] at h1
      rw [List.getD_eq_getElem?_getD, List.getElem?_take_of_lt (by omega), ← List.getD_eq_getElem?_getD] at h2
      rw [List.take_take, Nat.min_eq_left (by omega)] at h3
      refine ⟨j + 1, List.mem_map.mpr ⟨j, List.mem_filter.mpr ⟨List.mem_range.mpr (by omega), ?_⟩, rfl⟩, by omega⟩
      unfold condN
      rw [Bool.and_eq_true, filt_ne]
      exact ⟨h2, (h.at_ j (by omega)).mpr h3⟩
  le := fun q hq => by
    obtain ⟨j, hj, rfl⟩ := List.mem_map.mp hq
    have := List.mem_range.mp (List.mem_filter.mp hj).1
    omega
abbrev natsD (S : List Nat) : List Dt := S.map fun k => .int ((k : Nat) : Int)
section
variable {E : Ents} {s : Sto}
theorem ne_nats {S : List Nat} : neG s (.lst (natsD S)) (.lst []) = some (.bl (!S.isEmpty)) := by
  have := eq_ints (s := s) (l := S) (f := fun k => ((k : Nat) : Int))
  unfold neG
  rw [this]
def embI : Fs := (seqS (setS 7 (orV (bind2 (fVar 4) (bind2 (fVar 2) (fVar 6) ixA) eqG) (bind2 (fVar 4) (callF V_law_below_k03 (aCons (fVar 0) (aCons (bind2 (fVar 2) (fVar 6) ixA) aNil))) inA))) (ifS (andT (truF (fVar 7)) (asB (bind2 (lcF (seqF (fVar 3)) (tgN 8) (asB (bind2 (fVar 8) (fVar 6) leG)) (fVar 8) [8]) (bindA aNil lstG) neG))) (appS 5 (bind2 (fVar 6) (fC (.int 1)) addAll)) skipS))
theorem emb_one (hE : ClE E) (U : Dt) {v S l : List Nat} {a k : Nat} (hv : ∀ c ∈ v, c ∈ E.map (·.1)) (hvl : v.length ≤ 90) (hk : k < v.length) (hS : S.length ≤ 100) (hl : l.length ≤ 100) (y7 y8 : Option Dt) (s : Sto) :
    ∃ z7 z8, embI [some (.tup (entL E)), some U, some (wd v), some (.lst (natsD S)), some (wd [a]), some (.lst (natsD l)), some (.int (0 + ((k : Nat) : Int))), y7, y8] s
      = some (.nx [some (.tup (entL E)), some U, some (wd v), some (.lst (natsD S)), some (wd [a]), some (.lst (natsD (if condN E v a S k = true then l ++ [k + 1] else l))), some (.int (0 + ((k : Nat) : Int))), z7, z8], s) := by
  rw [Int.zero_add]
  have hc : v[k]? = some (v.getD k 0) := by rw [List.getD_eq_getElem?_getD, List.getElem?_eq_getElem hk]; rfl
  have hm : v.getD k 0 ∈ E.map (·.1) := hv _ (List.mem_of_getElem? hc)
  have g1 := at_w (s := s) (w := v) (by omega) hc
  have g2 := lbel_ok (s := s) hE hm
  have g3 := in_t1 (s := s) (d := a) (l := downN E (v.getD k 0))
  have g4 := eq_ww (s := s) (u := [a]) (v := [v.getD k 0])
  have a1 : orV (bind2 (fVar 4) (bind2 (fVar 2) (fVar 6) ixA) eqG) (bind2 (fVar 4) (callF V_law_below_k03 (aCons (fVar 0) (aCons (bind2 (fVar 2) (fVar 6) ixA) aNil))) inA) [some (.tup (entL E)), some U, some (wd v), some (.lst (natsD S)), some (wd [a]), some (.lst (natsD l)), some (.int ((k : Nat) : Int)), y7, y8] s
      = some (.bl (lowB E a (v.getD k 0)), s) := by
    refine (orV_e (a := decide ([a] = [v.getD k 0])) (b := decide (a ∈ downN E (v.getD k 0))) (bind2_ev (v0 rfl) (bind2_ev (v0 rfl) (v0 rfl) g1) g4) fun _ => bind2_ev (v0 rfl) (call_ev (aCons_ev (v0 rfl) (aCons_ev (bind2_ev (v0 rfl) (v0 rfl) g1) a0)) g2) g3).trans ?_
    unfold lowB
    simp only [List.cons.injEq, and_true]
  refine ⟨some (.bl (lowB E a (v.getD k 0))), y8, (seq_nx (set_ev a1)).trans ?_⟩
  have q1 : lcF (seqF (fVar 3)) (tgN 8) (asB (bind2 (fVar 8) (fVar 6) leG)) (fVar 8) [8] [some (.tup (entL E)), some U, some (wd v), some (.lst (natsD S)), some (wd [a]), some (.lst (natsD l)), some (.int ((k : Nat) : Int)), some (.bl (lowB E a (v.getD k 0))), y8] s
      = some (.lst (natsD (S.filter fun q => decide (q ≤ k))), s) := by
    refine lc_e (xs := S) (enc := fun q => .int ((q : Nat) : Int)) (q := fun q => decide (q ≤ k)) (g := fun q => .int ((q : Nat) : Int)) (s1 := s) (seq_lst (v0 rfl)) (small (by omega)) (fun q _ => asB_ev (bind2_ev (v0 rfl) (v0 rfl) ?_)) fun q _ _ => v0 rfl
    show some (Dt.bl (decide ((q : Int) ≤ (k : Int)))) = _
    congr 2
    exact decide_eq_decide.mpr (by omega)
  have hcond : andT (truF (fVar 7)) (asB (bind2 (lcF (seqF (fVar 3)) (tgN 8) (asB (bind2 (fVar 8) (fVar 6) leG)) (fVar 8) [8]) (bindA aNil lstG) neG)) [some (.tup (entL E)), some U, some (wd v), some (.lst (natsD S)), some (wd [a]), some (.lst (natsD l)), some (.int ((k : Nat) : Int)), some (.bl (lowB E a (v.getD k 0))), y8] s = some (condN E v a S k, s) :=
    andT_e (truF_ev (v0 rfl) rfl) fun _ => asB_ev (bind2_ev q1 (bindA_ev a0 rfl) ne_nats)
  cases hq : condN E v a S k with
  | true =>
    rw [hq] at hcond
    refine (if_t hcond).trans ?_
    refine (app_ev (d := .int ((k + 1 : Nat) : Int)) (ds := natsD l) (bind2_ev (v0 rfl) c0 add_n1) rfl (small' (by rw [List.length_map]; omega))).trans ?_
    rw [if_pos rfl]
    unfold natsD
    rw [List.map_append]
    rfl
  | false =>
    rw [hq] at hcond
    exact (if_f hcond).trans rfl
theorem embeds_ok (hE : ClE E) {u v : List Nat} (hv : ∀ c ∈ v, c ∈ E.map (·.1)) (hvl : v.length ≤ 90) : V_law_embeds_k04 [.tup (entL E), wd u, wd v] s = some (.bl (embB E u v), s) := by
  have i0 : lstG s [.int 0] = some (.lst (natsD [0])) := rfl
  refine fn_rt ((seq_nx (set_ev (bindA_ev (aCons_ev c0 a0) i0))).trans ?_)
  have key := for_pre (xs := u) (enc := fun a => wd [a]) (i := 4) (F := (seqS (setNS 5 (bindA aNil lstG)) (seqS (forF (rngF1 (bindA (aCons (fVar 2) aNil) lenG)) (tgN 6) embI) (setS 3 (fVar 5))))) (fi := seqF (fVar 1)) (s := s)
    (env := [some (.tup (entL E)), some (wd u), some (wd v), some (.lst (natsD [0])), none, none, none, none, none])
    (fun pre env s' => s' = s ∧ ∃ S y4 y5 y6 y7 y8, env = [some (.tup (entL E)), some (wd u), some (wd v), some (.lst (natsD S)), y4, y5, y6, y7, y8] ∧ Spt E v pre S ∧ S.length ≤ 100)
    (seq_str (v0 rfl)) ⟨rfl, [0], none, none, none, none, none, rfl, ⟨fun k _ => ⟨fun _ => .nil _, fun _ => ⟨0, List.mem_cons_self, Nat.zero_le _⟩⟩, fun q hq => by rw [List.mem_singleton.mp hq]; exact Nat.zero_le _⟩, by decide⟩ (by
    rintro pre a post env s' he ⟨rfl, S, y4, y5, y6, y7, y8, rfl, i, hS⟩
    have g1 := len_w (s := s') (w := v) (by omega)
    have inner := for_pre (xs := List.range v.length) (enc := fun k => .int (0 + ((k : Nat) : Int))) (i := 6) (F := embI) (fi := rngF1 (bindA (aCons (fVar 2) aNil) lenG)) (s := s')
      (env := [some (.tup (entL E)), some (wd u), some (wd v), some (.lst (natsD S)), some (wd [a]), some (.lst (natsD [])), y6, y7, y8])
      (fun p6 env s2 => s2 = s' ∧ ∃ z6 z7 z8, env = [some (.tup (entL E)), some (wd u), some (wd v), some (.lst (natsD S)), some (wd [a]), some (.lst (natsD ((p6.filter (condN E v a S)).map (· + 1)))), z6, z7, z8])
      (rng_ev (m := ((v.length : Nat) : Int)) (bindA_ev (aCons_ev (v0 rfl) a0) g1) (by omega) (by omega)) ⟨rfl, y6, y7, y8, rfl⟩ (by
      rintro p6 k q6 env s2 he6 ⟨rfl, z6, z7, z8, rfl⟩
      obtain ⟨hk1, hk2⟩ := range_pre he6
      have hfl := List.length_filter_le (condN E v a S) p6
      obtain ⟨w7, w8, e⟩ := emb_one hE (wd u) (v := v) (S := S) (l := (p6.filter (condN E v a S)).map (· + 1)) (a := a) hv hvl hk2 hS (by rw [List.length_map]; omega) z7 z8 s2
      refine ⟨_, s2, e, rfl, some (.int (0 + ((k : Nat) : Int))), w7, w8, ?_⟩
      rw [List.filter_append, List.map_append]
      cases hq : condN E v a S k with
      | true => rw [if_pos rfl, List.filter_cons_of_pos hq]; rfl
      | false => rw [if_neg Bool.false_ne_true, List.filter_cons_of_neg (by rw [hq]; exact Bool.false_ne_true)]; simp)
    obtain ⟨e2, s2, h2, rfl, z6, z7, z8, rfl⟩ := inner
    refine ⟨_, s2, (seq_nx (setN_ev (by simp) (bindA_ev a0 rfl))).trans ((seq_nx h2).trans (set_ev (v0 rfl))), rfl, nextN E v a S, some (wd [a]), some (.lst (natsD (nextN E v a S))), z6, z7, z8, rfl, i.next a, ?_⟩
    unfold nextN
    rw [List.length_map]
    have := List.length_filter_le (condN E v a S) (List.range v.length)
    rw [List.length_range] at this
    omega)
  obtain ⟨e', s', h1, rfl, S, y4, y5, y6, y7, y8, rfl, i, _⟩ := key
  refine (seq_nx h1).trans (ret_ev ((bind2_ev (v0 rfl) (bindA_ev a0 rfl) ne_nats).trans ?_))
  congr 3
  rw [Bool.eq_iff_iff, embB_iff]
  have h := i.at_ v.length (Nat.le_refl _)
  rw [List.take_length] at h
  rw [← h, Bool.not_eq_true', List.isEmpty_eq_false_iff]
  constructor
  · intro hne
    obtain ⟨q, hq⟩ := List.exists_mem_of_ne_nil _ hne
    exact ⟨q, hq, i.le q hq⟩
  · rintro ⟨q, hq, _⟩ hz
    rw [hz] at hq
    exact absurd hq List.not_mem_nil
end

end DL
namespace DL
open PySem PySem.Spec PyProof.Rows L2
local macro_rules | `(tactic| walk_at "op") => `(tactic| first | assumption | with_reducible rfl | exact cat_w (by omega) | exact sub_nn (by omega) | exact add_nn | exact at_w (by omega) (by assumption) | exact len_w (by omega) | exact in_l1 | exact notin_l1 | exact in_t1 | exact notin_t1 | exact in_k1 | exact notin_k1 | exact in_wl | exact notin_wl | exact in_wt | exact notin_wt | exact in_kd | exact notin_kd | exact eq_ww | exact ne_ww | exact any_bl | exact all_bl | rfl)
local macro_rules | `(tactic| walk_at "ev") => `(tactic| first | with_reducible exact c0 | ((with_reducible apply v0); rfl) | with_reducible exact a0 | with_reducible assumption | ((with_reducible apply aCons_ev); (focus walk_at "ev"); (focus walk_at "ev")) | ((with_reducible apply bindA_ev); (focus walk_at "ev"); (focus walk_at "op")) | ((with_reducible apply bind2_ev); (focus walk_at "ev"); (focus walk_at "ev"); (focus walk_at "op")) | ((with_reducible apply bind1_ev); (focus walk_at "ev"); (focus walk_at "op")) | ((with_reducible apply asB_ev); (focus walk_at "ev")) | ((with_reducible apply call_ev); (focus walk_at "ev"); (focus first | assumption | rfl)) | ((with_reducible apply truF_ev); (focus walk_at "ev"); (focus first | assumption | rfl)) | ((with_reducible apply notT_ev); (focus walk_at "ev")) | ((with_reducible apply andT_e); (focus walk_at "ev"); (focus (intro hq; walk_at "ev"))) | ((with_reducible apply orT_e); (focus walk_at "ev"); (focus (intro hq; walk_at "ev"))) | ((with_reducible apply seq_tup); (focus walk_at "ev")) | ((with_reducible apply seq_lst); (focus walk_at "ev")) | ((with_reducible apply seq_str); (focus walk_at "ev")))
/-! ### data that may be shown -/
structure OkD (W D : Nat) (d : Dt) : Prop where
  g : good d = true
  w : wt d ≤ W
  d : dep d ≤ D
theorem okds {W D : Nat} : ∀ {ds : List Dt}, (∀ d ∈ ds, OkD W D d) → goods ds = true ∧ wts ds ≤ ds.length * (W + 2) ∧ deps ds ≤ D
  | [], _ => ⟨rfl, Nat.zero_le _, Nat.zero_le _⟩
  | d :: ds, h => by
    obtain ⟨a1, a2, a3⟩ := h d List.mem_cons_self
    obtain ⟨b1, b2, b3⟩ := okds (ds := ds) fun y hy => h y (List.mem_cons_of_mem _ hy)
    refine ⟨?_, ?_, ?_⟩
    · show (good d && goods ds) = true
      rw [a1, b1]; rfl
    · show wt d + 2 + wts ds ≤ _
      rw [List.length_cons, Nat.succ_mul]; omega
    · show max (dep d) (deps ds) ≤ D
      exact Nat.max_le.mpr ⟨a3, b3⟩
theorem OkD.tup {W D n : Nat} {ds : List Dt} (h : ∀ d ∈ ds, OkD W D d) (hn : ds.length ≤ n) : OkD (n * (W + 2) + 3) (D + 1) (.tup ds) := by
  obtain ⟨h1, h2, h3⟩ := okds h
  have := Nat.mul_le_mul_right (W + 2) hn
  exact ⟨h1, by show wts ds + 3 ≤ _; omega, Nat.succ_le_succ h3⟩
theorem OkD.lst {W D n : Nat} {ds : List Dt} (h : ∀ d ∈ ds, OkD W D d) (hn : ds.length ≤ n) : OkD (n * (W + 2) + 3) (D + 1) (.lst ds) := by
  obtain ⟨h1, h2, h3⟩ := okds h
  have := Nat.mul_le_mul_right (W + 2) hn
  exact ⟨h1, by show wts ds + 2 ≤ _; omega, Nat.succ_le_succ h3⟩
theorem OkD.mono {W D W' D' : Nat} {d : Dt} (h : OkD W D d) (h1 : W ≤ W') (h2 : D ≤ D') : OkD W' D' d := ⟨h.g, Nat.le_trans h.w h1, Nat.le_trans h.d h2⟩
theorem okd_wd {w : List Nat} (h : lowc w) {n : Nat} (hn : w.length ≤ n) : OkD (10 * n + 2) 0 (wd w) := ⟨wd_good h, by rw [wd_wt]; omega, Nat.le_refl _⟩
theorem okd_bl (b : Bool) : OkD 5 0 (.bl b) := ⟨rfl, Nat.le_refl _, Nat.le_refl _⟩
theorem OkD.repr {W D : Nat} {d : Dt} (h : OkD W D d) (hW : W ≤ 16777216) (hD : D ≤ 60) (s : Sto) : reprG s [d] = some (.str (showD d)) := if_pos ⟨h.g, Nat.le_trans h.w hW, Nat.le_trans h.d hD⟩
theorem OkD.shaped {W D : Nat} {d : Dt} (h : OkD W D d) (hD : D ≤ 60) : plain d = true ∧ SeqAt.shaped (py d) = true := by
  obtain ⟨p1, p2, _, _, p5⟩ := good_plain d h.g
  have := h.d
  refine ⟨p1, ?_⟩
  unfold SeqAt.shaped
  rw [p2, p5]
  exact decide_eq_true (by omega)
theorem ne_str (s : Sto) (x : Str) : neG s (.str x) (.str x) = some (.bl false) := by
  show some (Dt.bl (!decide (x = x))) = _
  rw [decide_eq_true rfl]; rfl
theorem ne_tup {W D : Nat} {ds : List Dt} (h : OkD W D (.tup ds)) (hD : D ≤ 60) (s : Sto) : neG s (.tup ds) (.tup []) = some (.bl (!ds.isEmpty)) := by
  obtain ⟨h1, h2⟩ := h.shaped hD
  have h3 : plain (.tup []) = true ∧ SeqAt.shaped (py (.tup [])) = true := ⟨rfl, rfl⟩
  unfold neG eqG
  dsimp only
  rw [if_pos ⟨h1, h3.1, h2, h3.2⟩]
  cases ds <;> rfl
theorem okd_side (b : Bool) : OkD 60 0 (sideD b) := by cases b <;> exact ⟨by decide +kernel, by decide +kernel, by decide +kernel⟩
theorem log_small {n : Nat} (h : n ≤ 100) : ((n : Int)).natAbs.log2 ≤ 7 := log_le (by omega)
theorem okd_ru {r : Ru} (h1 : okR r = true) (h2 : lowRb r = true) : OkD 1000 1 r.d := by
  have st : ∀ x : Str, PyData.strOk x = true → x.length ≤ 10 → OkD 150 0 (.str x) := fun x h1 h2 => ⟨h1, by show 10 * x.length + 2 ≤ 150; omega, Nat.le_refl _⟩
  have key : ∀ ds : List Dt, ds.length ≤ 4 → (∀ d ∈ ds, OkD 150 0 d) → OkD 1000 1 (.tup ds) := fun ds hl h => (OkD.tup h hl).mono (by decide) (by decide)
  have sd : ∀ b, OkD 150 0 (sideD b) := fun b => (okd_side b).mono (by decide) (Nat.le_refl _)
  cases r with
  | drop n l =>
    refine key _ (by show 3 ≤ 4; decide) fun d hd => ?_
    rcases List.mem_cons.mp hd with rfl | hd
    · exact st _ (by decide +kernel) (by decide +kernel)
    rcases List.mem_cons.mp hd with rfl | hd
    · have hn : n ≤ 10 := of_decide_eq_true h1
      have := log_small (n := n) (by omega)
      exact ⟨decide_eq_true (by omega), by show ((n : Int)).natAbs.log2 + 2 ≤ 150; omega, Nat.le_refl _⟩
    rw [List.mem_singleton.mp hd]; exact sd l
  | half l =>
    refine key _ (by show 2 ≤ 4; decide) fun d hd => ?_
    rcases List.mem_cons.mp hd with rfl | hd
    · exact st _ (by decide +kernel) (by decide +kernel)
    rw [List.mem_singleton.mp hd]; exact sd l
  | empty =>
    refine key _ (by show 1 ≤ 4; decide) fun d hd => ?_
    rw [List.mem_singleton.mp hd]; exact st _ (by decide +kernel) (by decide +kernel)
  | lower l =>
    refine key _ (by show 2 ≤ 4; decide) fun d hd => ?_
    rcases List.mem_cons.mp hd with rfl | hd
    · exact st _ (by decide +kernel) (by decide +kernel)
    rw [List.mem_singleton.mp hd]; exact sd l
  | put c v l =>
    have hv : v.length ≤ 10 := of_decide_eq_true h1
    have hlow : ∀ a ∈ c :: v, 97 ≤ a ∧ a ≤ 122 := fun a ha => of_decide_eq_true (List.all_eq_true.mp h2 a ha)
    refine key _ (by show 4 ≤ 4; decide) fun d hd => ?_
    rcases List.mem_cons.mp hd with rfl | hd
    · exact st _ (by decide +kernel) (by decide +kernel)
    rcases List.mem_cons.mp hd with rfl | hd
    · exact (okd_wd (w := [c]) (n := 10) (fun a ha => hlow a (by rw [List.mem_singleton.mp ha]; exact List.mem_cons_self)) (show 1 ≤ 10 by decide)).mono (by decide) (Nat.le_refl _)
    rcases List.mem_cons.mp hd with rfl | hd
    · exact (okd_wd (w := v) (n := 10) (fun a ha => hlow a (List.mem_cons_of_mem _ ha)) hv).mono (by decide) (Nat.le_refl _)
    rw [List.mem_singleton.mp hd]; exact sd l
theorem okd_ones {l : List Nat} (h : lowc l) : ∀ d ∈ onesD l, OkD 12 0 d := fun d hd => by
  obtain ⟨c, hc, rfl⟩ := List.mem_map.mp hd
  exact okd_wd (n := 1) (fun a ha => by rw [List.mem_singleton.mp ha]; exact h c hc) (Nat.le_refl _)
theorem okd_ent {E : Ents} (hE : ClE E) : OkD 100000 3 (.tup (entL E)) := by
  refine (OkD.tup (W := 1000) (D := 2) (n := 30) (fun d hd => ?_) (by unfold entL; rw [List.length_map]; exact hE.n)).mono (by decide) (by decide)
  obtain ⟨e, he, rfl⟩ := List.mem_map.mp hd
  have h1 := hE.lo e.1 (List.mem_map.mpr ⟨e, he, rfl⟩)
  have h2 : OkD 143 1 (.tup (onesD e.2)) := OkD.tup (W := 12) (D := 0) (n := 10) (okd_ones fun c hc => hE.lo c (hE.cl e he c hc)) (by rw [List.length_map]; exact hE.ok.few e he)
  refine (OkD.tup (W := 143) (D := 1) (n := 2) (fun d hd => ?_) (by show 2 ≤ 2; decide)).mono (by decide) (by decide)
  rcases List.mem_cons.mp hd with rfl | hd
  · exact (okd_wd (w := [e.1]) (n := 1) (fun a ha => by rw [List.mem_singleton.mp ha]; exact h1) (Nat.le_refl _)).mono (by decide) (by decide)
  · rw [List.mem_singleton.mp hd]; exact h2
theorem okd_book {E : Ents} (hE : ClE E) {rs : List Ru} (h1 : ∀ r ∈ rs, okR r = true ∧ lowRb r = true) (hl : rs.length ≤ 50) : OkD 300000 4 (bookD E rs) := by
  refine (OkD.tup (W := 100000) (D := 3) (n := 2) (fun d hd => ?_) (by show 2 ≤ 2; decide)).mono (by decide) (by decide)
  rcases List.mem_cons.mp hd with rfl | hd
  · exact okd_ent hE
  · rw [List.mem_singleton.mp hd]
    refine (OkD.tup (W := 1000) (D := 1) (n := 50) (fun d hd => ?_) (by rw [List.length_map]; exact hl)).mono (by decide) (by decide)
    obtain ⟨r, hr, rfl⟩ := List.mem_map.mp hd
    exact okd_ru (h1 r hr).1 (h1 r hr).2
theorem okd_words {l : List (List Nat)} (h : ∀ x ∈ l, lowc x ∧ x.length ≤ 50) (hl : l.length ≤ 10000) : OkD 6000000 1 (.tup (l.map wd)) := by
  refine (OkD.tup (W := 502) (D := 0) (n := 10000) (fun d hd => ?_) (by rw [List.length_map]; exact hl)).mono (by decide) (by decide)
  obtain ⟨x, hx, rfl⟩ := List.mem_map.mp hd
  exact okd_wd (n := 50) (h x hx).1 (h x hx).2
theorem ru_okR {L : List Nat} {r : Ru} (h : ruL L r) (hlo : ∀ c ∈ L, 97 ≤ c ∧ c ≤ 122) : okR r = true ∧ lowRb r = true := by
  cases r with
  | drop n l => exact ⟨decide_eq_true (by have := h.2; omega), rfl⟩
  | half l => exact ⟨rfl, rfl⟩
  | empty => exact ⟨rfl, rfl⟩
  | lower l => exact ⟨rfl, rfl⟩
  | put c v l =>
    obtain ⟨h1, h2, _, h4⟩ := h
    refine ⟨decide_eq_true (by omega), ?_⟩
    unfold lowRb
    rw [List.all_eq_true]
    intro a ha
    refine decide_eq_true ?_
    rcases List.mem_cons.mp ha with rfl | ha
    · exact hlo a h1
    · exact hlo a (h2 a ha)
/-- what a page keeps -/
theorem Page.cl {M R : Nat} {L : List Nat} {E : Ents} {rs : List Ru} (h : Page M R L E rs) (hM : M ≤ 8) : ClE (sortE E) := cl_of h.row h.nd (Nat.le_trans h.n hM) h.lo
theorem Page.okR {M R : Nat} {L : List Nat} {E : Ents} {rs : List Ru} (h : Page M R L E rs) : ∀ r ∈ rs, DL.okR r = true ∧ lowRb r = true := fun r hr => ru_okR (h.ru r hr) h.lo
theorem Page.len {M R : Nat} {L : List Nat} {E : Ents} {rs : List Ru} (h : Page M R L E rs) : (sortE E).length = L.length := by
  have := congrArg List.length h.row.fst
  rw [List.length_map] at this
  rw [(sortE_perm E).length_eq, this]
theorem Page.fst {M R : Nat} {L : List Nat} {E : Ents} {rs : List Ru} (h : Page M R L E rs) (c : Nat) : c ∈ (sortE E).map (·.1) ↔ c ∈ L := by
  rw [((sortE_perm E).map _).mem_iff, h.row.fst]

end DL
namespace DL
open PySem PySem.Spec PyProof.Rows L2
local macro_rules | `(tactic| walk_at "op") => `(tactic| first | assumption | with_reducible rfl | exact cat_w (by omega) | exact sub_nn (by omega) | exact add_nn | exact at_w (by omega) (by assumption) | exact len_w (by omega) | exact in_l1 | exact notin_l1 | exact in_t1 | exact notin_t1 | exact in_k1 | exact notin_k1 | exact in_wl | exact notin_wl | exact in_wt | exact notin_wt | exact in_kd | exact notin_kd | exact eq_ww | exact ne_ww | exact any_bl | exact all_bl | rfl)
local macro_rules | `(tactic| walk_at "ev") => `(tactic| first | with_reducible exact c0 | ((with_reducible apply v0); rfl) | with_reducible exact a0 | with_reducible assumption | ((with_reducible apply aCons_ev); (focus walk_at "ev"); (focus walk_at "ev")) | ((with_reducible apply bindA_ev); (focus walk_at "ev"); (focus walk_at "op")) | ((with_reducible apply bind2_ev); (focus walk_at "ev"); (focus walk_at "ev"); (focus walk_at "op")) | ((with_reducible apply bind1_ev); (focus walk_at "ev"); (focus walk_at "op")) | ((with_reducible apply asB_ev); (focus walk_at "ev")) | ((with_reducible apply call_ev); (focus walk_at "ev"); (focus first | assumption | rfl)) | ((with_reducible apply truF_ev); (focus walk_at "ev"); (focus first | assumption | rfl)) | ((with_reducible apply notT_ev); (focus walk_at "ev")) | ((with_reducible apply andT_e); (focus walk_at "ev"); (focus (intro hq; walk_at "ev"))) | ((with_reducible apply orT_e); (focus walk_at "ev"); (focus (intro hq; walk_at "ev"))) | ((with_reducible apply seq_tup); (focus walk_at "ev")) | ((with_reducible apply seq_lst); (focus walk_at "ev")) | ((with_reducible apply seq_str); (focus walk_at "ev")))
variable {dp : Fn} {Sp : Addr → Nat → Sto → Prop}
structure Bk (M : Nat) (E : Ents) (rs : List Ru) : Prop where
  cl : ClE E
  n : E.length ≤ M
  rn : rs.length ≤ 10
  ok : ∀ r ∈ rs, okR r = true ∧ lowRb r = true
theorem Page.bk {M R : Nat} {L : List Nat} {E : Ents} {rs : List Ru} (h : Page M R L E rs) (hM : M ≤ 8) (hR : R ≤ 10) : Bk M (sortE E) rs := ⟨h.cl hM, by rw [h.len]; exact h.n, Nat.le_trans h.rn hR, h.okR⟩
theorem Bk.low {M : Nat} {E : Ents} {rs : List Ru} (h : Bk M E rs) {w : List Nat} (hw : ∀ c ∈ w, c ∈ E.map (·.1)) : lowc w := fun c hc => h.cl.lo c (hw c hc)
theorem Bk.word (D : Dip dp Sp) {p : Addr} {n M m : Nat} {E : Ents} {rs : List Ru} {s : Sto} (h : Bk M E rs) (hM : M ≤ 8) (hm : m ≤ 100) (hm1 : 1 ≤ m) (hs : Sp p n s) (hn : n < 800000) :
    ∃ w s', callF (V_law_word_k01 dp) (aCons (fC (.ref p)) (aCons (fC (.lst (onesD (E.map (·.1))))) (aCons (fC (.int ((m : Nat) : Int))) aNil))) [] s = some (wd w, s') ∧ (∀ c ∈ w, c ∈ E.map (·.1)) ∧ w.length ≤ m ∧ Sp p (n + (m + 2)) s' := by
  obtain ⟨w, s', e, h1, h2, h3⟩ := lword_sp D (L := E.map (·.1)) (M := m) hm hm1 (by rw [List.length_map]; have := h.n; omega) h.cl.lo hs hn
  exact ⟨w, s', call_ev (aCons_ev c0 (aCons_ev c0 (aCons_ev c0 a0))) e, h1, h2, h3⟩
/-! ### a thing with few things below it -/
def fitI : Fs := (ifS (asB (bind2 (callF V_law_all_below_k04_k04 (aCons (bind2 (fVar 1) (fC (.int 0)) ixA) (aCons (fVar 4) (aCons (fVar 3) aNil)))) (fC .non) isNG)) (setS 4 (bindS (fVar 4) (oSome (fC (.int 1))) oNone sliceG)) skipS)
theorem fitting_sp (D : Dip dp Sp) {p : Addr} {n M : Nat} {E : Ents} {rs : List Ru} {s : Sto} (h : Bk M E rs) (hM : M ≤ 8) (hs : Sp p n s) (hn : n < 700000) :
    ∃ w s', (V_law_fitting_k04_k04 dp) [.ref p, bookD E rs, .int 6, .int 100] s = some (wd w, s') ∧ (∀ c ∈ w, c ∈ E.map (·.1)) ∧ w.length ≤ 6 ∧ (tamN E w).length ≤ 100 ∧ Sp p (n + 8) s' := by
  have hE := h.cl
  have h8 := h.n
  have g1 := lletters_ok (E := E) (s := s) (.tup (rs.map Ru.d)) (by omega)
  obtain ⟨w, s1, e1, hw, hwl, h1⟩ := lword_sp D (L := E.map (·.1)) (M := 6) (by decide) (by decide) (by rw [List.length_map]; omega) hE.lo hs (by omega)
  have key := for_pre (xs := List.range 6) (enc := fun k => .int (0 + ((k : Nat) : Int))) (i := 5) (F := fitI) (fi := rngF1 (fVar 2)) (s := s1)
    (env := [some (.ref p), some (bookD E rs), some (.int 6), some (.int 100), some (wd w), none])
    (fun pre env s' => s' = s1 ∧ ∃ w y5, env = [some (.ref p), some (bookD E rs), some (.int 6), some (.int 100), some (wd w), y5] ∧ (∀ c ∈ w, c ∈ E.map (·.1)) ∧ w.length ≤ 6 ∧ ((tamN E w).length ≤ 100 ∨ w.length + pre.length ≤ 6))
    (rng_ev (m := 6) (v0 rfl) (by decide) (by decide)) ⟨rfl, w, none, rfl, hw, hwl, .inr hwl⟩ (by
    rintro pre k post env s' he ⟨rfl, w, y5, rfl, hw, hwl, hd⟩
    obtain ⟨hk1, hk2⟩ := range_pre he
    have g2 := all_ok_ (s := s') hE (w := w) (B := 100) hw (by omega) (by decide)
    have g3 : ixA s' (bookD E rs) (.int 0) = some (.tup (entL E)) := rfl
    have hc : asB (bind2 (callF V_law_all_below_k04_k04 (aCons (bind2 (fVar 1) (fC (.int 0)) ixA) (aCons (fVar 4) (aCons (fVar 3) aNil)))) (fC .non) isNG) [some (.ref p), some (bookD E rs), some (.int 6), some (.int 100), some (wd w), some (.int (0 + ((k : Nat) : Int)))] s' = some (isNon (allD E w 100), s') :=
      asB_ev (bind2_ev (call_ev (aCons_ev (bind2_ev (v0 rfl) c0 g3) (aCons_ev (v0 rfl) (aCons_ev (v0 rfl) a0))) g2) c0 rfl)
    by_cases hb : (tamN E w).length ≤ 100
    · have e : isNon (allD E w 100) = false := by unfold allD; rw [if_pos hb]; rfl
      rw [e] at hc
      exact ⟨_, s', (if_f hc).trans rfl, rfl, w, _, rfl, hw, hwl, .inl hb⟩
    · have e : isNon (allD E w 100) = true := by unfold allD; rw [if_neg hb]; rfl
      rw [e] at hc
      have sl : bindS (fVar 4) (oSome (fC (.int 1))) oNone sliceG [some (.ref p), some (bookD E rs), some (.int 6), some (.int 100), some (wd w), some (.int (0 + ((k : Nat) : Int)))] s' = some (wd (w.drop 1), s') := drop_ev (k := 1) (v0 rfl) c0 (by omega)
      refine ⟨_, s', (if_t hc).trans (set_ev sl), rfl, w.drop 1, some (.int (0 + ((k : Nat) : Int))), rfl, fun c hc => hw c (List.mem_of_mem_drop hc), by rw [List.length_drop]; omega, .inr ?_⟩
      rw [List.length_drop, List.length_append, List.length_singleton]
      have hd' : w.length + pre.length ≤ 6 := hd.resolve_left hb
      have hne : 1 ≤ w.length := by
        cases w with
        | nil => exact absurd (show 1 ≤ 100 by decide) hb
        | cons c w => rw [List.length_cons]; omega
      omega)
  obtain ⟨e', s', e2, rfl, w', y5, rfl, hw', hwl', hd⟩ := key
  refine ⟨w', s', fn_rt ((seq_nx (set_ev (call_ev (aCons_ev (v0 rfl) (aCons_ev (call_ev (aCons_ev (v0 rfl) a0) g1) (aCons_ev (v0 rfl) a0))) e1))).trans ((seq_nx e2).trans (ret_ev (v0 rfl)))), hw', hwl', ?_, h1⟩
  rcases hd with hd | hd
  · exact hd
  · rw [List.length_range] at hd
    have : w' = [] := List.eq_nil_of_length_eq_zero (by omega)
    rw [this]
    exact (show 1 ≤ 100 by decide)
/-! ### two longer things -/
def longI (dp : Fn) : Fs := (setS 4 (bind2 (bind2 (fVar 4) (callF (V_law_word_k01 dp) (aCons (fVar 0) (aCons (fVar 2) (aCons (fC (.int 2)) aNil)))) addAll) (callF (V_law_pick_k01 dp) (aCons (fVar 0) (aCons (bindA (aCons (fVar 5) (aCons (fVar 5) (aCons (fVar 5) (aCons (callF (V_law_pick_k01 dp) (aCons (fVar 0) (aCons (fVar 2) aNil))) aNil)))) lstG) aNil))) addAll))
theorem long_sp (D : Dip dp Sp) {p : Addr} {n M : Nat} {E : Ents} {rs : List Ru} {s : Sto} (h : Bk M E rs) (hM : M ≤ 8) (hne : E ≠ []) (hs : Sp p n s) (hn : n < 700000) :
    ∃ u v s', (V_law_long_k04 dp) [.ref p, bookD E rs] s = some (.tup [wd u, wd v], s') ∧ (∀ c ∈ u, c ∈ E.map (·.1)) ∧ (∀ c ∈ v, c ∈ E.map (·.1)) ∧ u.length ≤ 12 ∧ v.length ≤ 36 ∧ Sp p (n + 100) s' := by
  have hE := h.cl
  have h8 := h.n
  have g1 := lletters_ok (E := E) (s := s) (.tup (rs.map Ru.d)) (by omega)
  have hneD : onesD (E.map (·.1)) ≠ [] := by
    cases E with
    | nil => exact absurd rfl hne
    | cons => exact fun z => by cases z
  obtain ⟨u, s1, e1, hu, hul, h1⟩ := lword_sp D (L := E.map (·.1)) (M := 12) (by decide) (by decide) (by rw [List.length_map]; omega) hE.lo hs (by omega)
  have key := for_pre (xs := u) (enc := fun c => wd [c]) (i := 5) (F := longI dp) (fi := seqF (fVar 3)) (s := s1)
    (env := [some (.ref p), some (bookD E rs), some (.lst (onesD (E.map (·.1)))), some (wd u), some (wd []), none])
    (fun pre env s' => Sp p (n + 14 + 6 * pre.length) s' ∧ ∃ v y5, env = [some (.ref p), some (bookD E rs), some (.lst (onesD (E.map (·.1)))), some (wd u), some (wd v), y5] ∧ (∀ c ∈ v, c ∈ E.map (·.1)) ∧ v.length ≤ 3 * pre.length)
    (seq_str (v0 rfl)) ⟨h1, [], none, rfl, fun c hc => absurd hc List.not_mem_nil, Nat.le_refl _⟩ (by
    rintro pre c post env s' he ⟨hs, v, y5, rfl, hv, hvl⟩
    have hpl : pre.length + 1 ≤ 12 := by have := congrArg List.length he; rw [List.length_append, List.length_cons] at this; omega
    have hc : c ∈ E.map (·.1) := hu c (by rw [he]; exact List.mem_append_right _ List.mem_cons_self)
    obtain ⟨x, s2, e2, hx, hxl, h2⟩ := lword_sp D (L := E.map (·.1)) (M := 2) (by decide) (by decide) (by rw [List.length_map]; omega) hE.lo hs (by omega)
    obtain ⟨d, s3, e3, hd, h3⟩ := pick_sp D (ds := onesD (E.map (·.1))) h2 (by omega) hneD (by rw [List.length_map, List.length_map]; omega)
    obtain ⟨b, hb, rfl⟩ := List.mem_map.mp hd
    obtain ⟨d2, s4, e4, hd2, h4⟩ := pick_sp D (ds := [wd [c], wd [c], wd [c], wd [b]]) h3 (by omega) (by simp) (by show 4 < 1000000; decide)
    have hz : ∃ z, d2 = wd [z] ∧ z ∈ E.map (·.1) := by
      simp only [List.mem_cons, List.not_mem_nil, or_false] at hd2
      rcases hd2 with rfl | rfl | rfl | rfl
      · exact ⟨c, rfl, hc⟩
      · exact ⟨c, rfl, hc⟩
      · exact ⟨c, rfl, hc⟩
      · exact ⟨b, rfl, hb⟩
    obtain ⟨z, rfl, hz⟩ := hz
    have k1 := cat_w (s := s2) (u := v) (v := x) (by omega)
    have k2 := cat_w (s := s4) (u := v ++ x) (v := [z]) (by rw [List.length_append]; show _ + 1 ≤ _; omega)
    have k3 : lstG s3 [wd [c], wd [c], wd [c], wd [b]] = some (.lst [wd [c], wd [c], wd [c], wd [b]]) := rfl
    refine ⟨_, s4, set_ev (bind2_ev (bind2_ev (v0 rfl) (call_ev (aCons_ev (v0 rfl) (aCons_ev (v0 rfl) (aCons_ev c0 a0))) e2) k1) (call_ev (aCons_ev (v0 rfl) (aCons_ev (bindA_ev (aCons_ev (v0 rfl) (aCons_ev (v0 rfl) (aCons_ev (v0 rfl) (aCons_ev (call_ev (aCons_ev (v0 rfl) (aCons_ev (v0 rfl) a0)) e3) a0)))) k3) a0)) e4) k2), D.mono h4 (by rw [List.length_append, List.length_singleton]; omega), v ++ x ++ [z], some (wd [c]), rfl, fun a ha => ?_, ?_⟩
    · rcases List.mem_append.mp ha with ha | ha
      · exact (List.mem_append.mp ha).elim (hv a) (hx a)
      · rw [List.mem_singleton.mp ha]; exact hz
    · rw [List.length_append, List.length_append, List.length_append, List.length_singleton, List.length_singleton]; omega)
  obtain ⟨e', s', e2, hs', v, y5, rfl, hv, hvl⟩ := key
  have p2 : par2S 3 4 (callF (V_law_word_k01 dp) (aCons (fVar 0) (aCons (fVar 2) (aCons (fC (.int 12)) aNil)))) (fC (.str "")) [some (.ref p), some (bookD E rs), some (.lst (onesD (E.map (·.1)))), none, none, none] s = some (.nx [some (.ref p), some (bookD E rs), some (.lst (onesD (E.map (·.1)))), some (wd u), some (wd []), none], s1) :=
    par_ev (x := wd u) (y := wd []) ⟨by simp, by simp⟩ (call_ev (aCons_ev (v0 rfl) (aCons_ev (v0 rfl) (aCons_ev c0 a0))) e1) rfl
  exact ⟨u, v, s', fn_rt ((seq_nx (set_ev (call_ev (aCons_ev (v0 rfl) a0) g1))).trans ((seq_nx p2).trans ((seq_nx e2).trans (ret_ev (bindA_ev (aCons_ev (v0 rfl) (aCons_ev (v0 rfl) a0)) rfl))))), hu, hv, hul, by omega, D.mono hs' (by omega)⟩

end DL
namespace DL
open PySem PySem.Spec PyProof.Rows L2
local macro_rules | `(tactic| walk_at "op") => `(tactic| first | assumption | with_reducible rfl | exact cat_w (by omega) | exact sub_nn (by omega) | exact add_nn | exact at_w (by omega) (by assumption) | exact len_w (by omega) | exact in_l1 | exact notin_l1 | exact in_t1 | exact notin_t1 | exact in_k1 | exact notin_k1 | exact in_wl | exact notin_wl | exact in_wt | exact notin_wt | exact in_kd | exact notin_kd | exact eq_ww | exact ne_ww | exact any_bl | exact all_bl | rfl)
local macro_rules | `(tactic| walk_at "ev") => `(tactic| first | with_reducible exact c0 | ((with_reducible apply v0); rfl) | with_reducible exact a0 | with_reducible assumption | ((with_reducible apply aCons_ev); (focus walk_at "ev"); (focus walk_at "ev")) | ((with_reducible apply bindA_ev); (focus walk_at "ev"); (focus walk_at "op")) | ((with_reducible apply bind2_ev); (focus walk_at "ev"); (focus walk_at "ev"); (focus walk_at "op")) | ((with_reducible apply bind1_ev); (focus walk_at "ev"); (focus walk_at "op")) | ((with_reducible apply asB_ev); (focus walk_at "ev")) | ((with_reducible apply call_ev); (focus walk_at "ev"); (focus first | assumption | rfl)) | ((with_reducible apply truF_ev); (focus walk_at "ev"); (focus first | assumption | rfl)) | ((with_reducible apply notT_ev); (focus walk_at "ev")) | ((with_reducible apply andT_e); (focus walk_at "ev"); (focus (intro hq; walk_at "ev"))) | ((with_reducible apply orT_e); (focus walk_at "ev"); (focus (intro hq; walk_at "ev"))) | ((with_reducible apply seq_tup); (focus walk_at "ev")) | ((with_reducible apply seq_lst); (focus walk_at "ev")) | ((with_reducible apply seq_str); (focus walk_at "ev")))
variable {dp : Fn} {Sp : Addr → Nat → Sto → Prop}
abbrev rep1 (f : Fe) : Fe := bindA (aCons f aNil) reprG
def stopF (f g : Fe) : Fs := ifS (asB (bind2 (rep1 f) (rep1 g) neG)) (retS (fC (.bl false))) skipS
theorem stop_ok {f g : Fe} {env : Env} {s : Sto} {d : Dt} {W D : Nat} (h1 : f env s = some (d, s)) (h2 : g env s = some (d, s)) (h : OkD W D d) (hW : W ≤ 16777216) (hD : D ≤ 60) : stopF f g env s = some (.nx env, s) :=
  (if_f (asB_ev (bind2_ev (bindA_ev (aCons_ev h1 a0) (h.repr hW hD s)) (bindA_ev (aCons_ev h2 a0) (h.repr hW hD s)) (ne_str s _)))).trans rfl
def pairI : Fs := (seqS (stopF (callF Vis_at_most (aCons (fVar 3) (aCons (fVar 8) (aCons (fVar 5) aNil)))) (bind2 (fVar 8) (fVar 6) inA)) (seqS (setS 9 (callF V_law_embeds_k04 (aCons (bind2 (fVar 3) (fC (.int 0)) ixA) (aCons (fVar 5) (aCons (fVar 8) aNil))))) (stopF (callF Vis_at_most (aCons (fVar 3) (aCons (fVar 5) (aCons (fVar 8) aNil)))) (fVar 9))))
def longB (dp : Fn) : Fs := (seqS (unpS 8 11 (callF (V_law_long_k04 dp) (aCons (fVar 1) (aCons (fVar 3) aNil)))) (stopF (callF Vis_at_most (aCons (fVar 3) (aCons (fVar 8) (aCons (fVar 11) aNil)))) (callF V_law_embeds_k04 (aCons (bind2 (fVar 3) (fC (.int 0)) ixA) (aCons (fVar 8) (aCons (fVar 11) aNil))))))
def lapF (dp : Fn) : Fs := (seqS (setS 3 (callF (V_law_page_k01 dp) (aCons (fVar 1) (aCons (fC (.int 4)) (aCons (fC (.int 2)) aNil))))) (seqS (par2S 4 5 (bindA (aCons (fVar 3) aNil) reprG) (callF (V_law_fitting_k04_k04 dp) (aCons (fVar 1) (aCons (fVar 3) (aCons (fC (.int 6)) (aCons (fC (.int 100)) aNil)))))) (seqS (setS 6 (callF V_law_all_below_k04_k04 (aCons (bind2 (fVar 3) (fC (.int 0)) ixA) (aCons (fVar 5) (aCons (fC (.int 100)) aNil))))) (seqS (stopF (callF Vthings_at_most (aCons (fVar 3) (aCons (fVar 5) aNil))) (bindA (aCons (fVar 6) aNil) toTupG)) (seqS (setS 7 (lcF (rngF1 (fC (.int 8))) (tgN 10) yesT (callF (V_law_word_k01 dp) (aCons (fVar 1) (aCons (callF V_law_letters_k01 (aCons (fVar 3) aNil)) (aCons (fC (.int 6)) aNil)))) [10])) (seqS (forF (seqF (bind2 (bind2 (bindS (fVar 6) oNone (oSome (fC (.int 12))) sliceG) (bindS (fVar 6) (oSome (bind1 (fC (.int 12)) negG)) oNone sliceG) addAll) (fVar 7) addAll)) (tgN 8) pairI) (seqS (ifS (asB (bind2 (bind2 (fVar 3) (fC (.int 0)) ixA) (bindA aNil tupG) neG)) (forF (rngF1 (fC (.int 3))) (tgN 10) (longB dp)) skipS) (ifS (orT (asB (bind2 (bindA (aCons (callF (fun ds s => Vthings_at_most (permL [1, 0] ds) s) (aCons (fVar 5) (aCons (fVar 3) aNil))) aNil) reprG) (bindA (aCons (bindA (aCons (fVar 6) aNil) toTupG) aNil) reprG) neG)) (asB (bind2 (bindA (aCons (fVar 3) aNil) reprG) (fVar 4) neG))) (retS (fC (.bl false))) skipS))))))))
def tailF : Fs := (seqS (setS 12 (bindA (aCons (bindA (aCons (fC (.str "x")) (aCons (bindA aNil tupG) aNil)) tupG) (aCons (bindA (aCons (fC (.str "y")) (aCons (bindA (aCons (fC (.str "x")) aNil) tupG) aNil)) tupG) aNil)) tupG)) (seqS (setNS 13 (bindA (aCons (callF (fun ds s => Vis_at_most (permL [2, 1, 0] ds) s) (aCons (fC (.str "yxy")) (aCons (fC (.str "xx")) (aCons (bindA (aCons (fVar 12) (aCons (bindA aNil tupG) aNil)) tupG) aNil)))) (aCons (callF Vis_at_most (aCons (bindA (aCons (fVar 12) (aCons (bindA aNil tupG) aNil)) tupG) (aCons (fC (.str "")) (aCons (fC (.str "")) aNil)))) aNil)) lstG)) (seqS (appS 13 (callF Vthings_at_most (aCons (bindA (aCons (fVar 12) (aCons (bindA aNil tupG) aNil)) tupG) (aCons (fC (.str "yy")) aNil)))) (retS (bind2 (bindA (aCons (fVar 13) aNil) reprG) (bindA (aCons (bindA (aCons (fC (.bl true)) (aCons (fC (.bl true)) (aCons (bindA (aCons (fC (.str "")) (aCons (fC (.str "x")) (aCons (fC (.str "xx")) (aCons (fC (.str "xy")) (aCons (fC (.str "y")) (aCons (fC (.str "yx")) (aCons (fC (.str "yy")) aNil))))))) tupG) aNil))) lstG) aNil) reprG) eqG)))))
theorem flaw_eq : Flaw_k04 = (seqS (forF (rngF1 (fC (.int 2))) (tgN 2) (lapF V_law_draw_k04_k04)) tailF) := rfl
section
variable {E : Ents} {rs : List Ru} {M : Nat}
theorem words_of {q : List Nat → Prop} : ∀ {ds : List Dt}, (∀ d ∈ ds, ∃ w, d = wd w ∧ q w) → ∃ ws : List (List Nat), ds = ws.map wd ∧ ws.length = ds.length ∧ ∀ w ∈ ws, q w
  | [], _ => ⟨[], rfl, rfl, fun c hc => absurd hc List.not_mem_nil⟩
  | d :: ds, h => by
    obtain ⟨ws, e, hl, hc⟩ := words_of (ds := ds) fun z hz => h z (List.mem_cons_of_mem _ hz)
    obtain ⟨r, rfl, hr⟩ := h d List.mem_cons_self
    refine ⟨r :: ws, by rw [e]; rfl, by rw [List.length_cons, List.length_cons, hl], fun x hx => ?_⟩
    rcases List.mem_cons.mp hx with rfl | hx
    · exact hr
    · exact hc x hx
theorem pair_ok (h : Bk M E rs) {w x : List Nat} {K : List (List Nat)} (hw : ∀ c ∈ w, c ∈ E.map (·.1)) (hx : ∀ c ∈ x, c ∈ E.map (·.1)) (hwl : w.length ≤ 50) (hxl : x.length ≤ 50) (hK : ∀ y, y ∈ K ↔ y ∈ tamN E w) (A B C F G I J k t9 : Option Dt) (s : Sto) :
    pairI [A, B, C, some (bookD E rs), F, some (wd w), some (.lst (K.map wd)), G, some (wd x), t9, I, J, k, none] s = some (.nx [A, B, C, some (bookD E rs), F, some (wd w), some (.lst (K.map wd)), G, some (wd x), some (.bl (embB E w x)), I, J, k, none], s) := by
  have g1 := at_most_ok (s := s) h.cl (.tup (rs.map Ru.d)) hx hw hxl hwl
  have g2 := at_most_ok (s := s) h.cl (.tup (rs.map Ru.d)) hw hx hwl hxl
  have g3 := embeds_ok (s := s) h.cl (u := w) hx (by omega)
  have g4 : inA s (wd x) (.lst (K.map wd)) = some (.bl (embB E x w)) := by
    have := in_wl (s := s) (x := x) (l := K) (f := fun y => y)
    rw [List.map_id'] at this
    refine this.trans ?_
    congr 2
    rw [Bool.eq_iff_iff, decide_eq_true_iff, embB_iff, hK, tam_mem]
  have g5 : ixA s (bookD E rs) (.int 0) = some (.tup (entL E)) := rfl
  refine (seq_nx (stop_ok (call_ev (aCons_ev (v0 rfl) (aCons_ev (v0 rfl) (aCons_ev (v0 rfl) a0))) g1) (bind2_ev (v0 rfl) (v0 rfl) g4) (okd_bl _) (by decide) (by decide))).trans ?_
  refine (seq_nx (set_ev (call_ev (aCons_ev (bind2_ev (v0 rfl) c0 g5) (aCons_ev (v0 rfl) (aCons_ev (v0 rfl) a0))) g3))).trans ?_
  exact stop_ok (call_ev (aCons_ev (v0 rfl) (aCons_ev (v0 rfl) (aCons_ev (v0 rfl) a0))) g2) (v0 rfl) (okd_bl _) (by decide) (by decide)
theorem pairs_ok (h : Bk M E rs) {w : List Nat} {K ws : List (List Nat)} (hw : ∀ c ∈ w, c ∈ E.map (·.1)) (hwl : w.length ≤ 50) (hK : ∀ y, y ∈ K ↔ y ∈ tamN E w) (hKl : K.length ≤ 1000) (hws : ∀ x ∈ ws, (∀ c ∈ x, c ∈ E.map (·.1)) ∧ x.length ≤ 50) (hwsl : ws.length ≤ 1000) (A B C F y8 y9 I J k : Option Dt) (s : Sto) :
    ∃ z8 z9, forF (seqF (bind2 (bind2 (bindS (fVar 6) oNone (oSome (fC (.int 12))) sliceG) (bindS (fVar 6) (oSome (bind1 (fC (.int 12)) negG)) oNone sliceG) addAll) (fVar 7) addAll)) (tgN 8) pairI [A, B, C, some (bookD E rs), F, some (wd w), some (.lst (K.map wd)), some (.lst (ws.map wd)), y8, y9, I, J, k, none] s
      = some (.nx [A, B, C, some (bookD E rs), F, some (wd w), some (.lst (K.map wd)), some (.lst (ws.map wd)), z8, z9, I, J, k, none], s) := by
  let xs := cutD K none (some 12) ++ cutD K (some (-12)) none ++ ws
  have hxs : ∀ x ∈ xs, (∀ c ∈ x, c ∈ E.map (·.1)) ∧ x.length ≤ 50 := fun x hx => by
    have kk : ∀ x ∈ K, (∀ c ∈ x, c ∈ E.map (·.1)) ∧ x.length ≤ 50 := fun x hx => by
      have e := (tam_mem w).mp ((hK x).mp hx)
      exact ⟨emb_let h.cl e hw, Nat.le_trans e.len hwl⟩
    rcases List.mem_append.mp hx with hx | hx
    · rcases List.mem_append.mp hx with hx | hx
      · exact kk x ((cutD_sub _ _ _).subset hx)
      · exact kk x ((cutD_sub _ _ _).subset hx)
    · exact hws x hx
  have l1 : (cutD K none (some 12)).length ≤ 1000 := Nat.le_trans (cutD_sub _ _ _).length_le hKl
  have l2 : (cutD K (some (-12)) none).length ≤ 1000 := Nat.le_trans (cutD_sub _ _ _).length_le hKl
  have hit : seqF (bind2 (bind2 (bindS (fVar 6) oNone (oSome (fC (.int 12))) sliceG) (bindS (fVar 6) (oSome (bind1 (fC (.int 12)) negG)) oNone sliceG) addAll) (fVar 7) addAll) [A, B, C, some (bookD E rs), F, some (wd w), some (.lst (K.map wd)), some (.lst (ws.map wd)), y8, y9, I, J, k, none] s = some (xs.map wd, s) := by
    have e1 := sl_ev (f := fVar 6) (l := oNone) (h := oSome (fC (.int 12))) (env := [A, B, C, some (bookD E rs), F, some (wd w), some (.lst (K.map wd)), some (.lst (ws.map wd)), y8, y9, I, J, k, none]) (s := s) (s1 := s) (xs := K.map wd) (a := none) (b := some 12) (v0 rfl) rfl rfl
    have e2 := sl_ev (f := fVar 6) (l := oSome (bind1 (fC (.int 12)) negG)) (h := oNone) (env := [A, B, C, some (bookD E rs), F, some (wd w), some (.lst (K.map wd)), some (.lst (ws.map wd)), y8, y9, I, J, k, none]) (s := s) (s1 := s) (xs := K.map wd) (a := some (-12)) (b := none) (v0 rfl) rfl rfl
    rw [cutD_map] at e1 e2
    have e3 := cat_l (s := s) (a := (cutD K none (some 12)).map wd) (b := (cutD K (some (-12)) none).map wd) (by rw [List.length_map, List.length_map]; omega)
    rw [← List.map_append] at e3
    have e4 := cat_l (s := s) (a := (cutD K none (some 12) ++ cutD K (some (-12)) none).map wd) (b := ws.map wd) (by rw [List.length_map, List.length_map, List.length_append]; omega)
    rw [← List.map_append] at e4
    exact seq_lst (bind2_ev (bind2_ev e1 e2 e3) (v0 rfl) e4)
  have key := for_pre (xs := xs) (enc := wd) (i := 8) (F := pairI) (s := s)
    (env := [A, B, C, some (bookD E rs), F, some (wd w), some (.lst (K.map wd)), some (.lst (ws.map wd)), y8, y9, I, J, k, none])
    (fun pre env s' => s' = s ∧ ∃ z8 z9, env = [A, B, C, some (bookD E rs), F, some (wd w), some (.lst (K.map wd)), some (.lst (ws.map wd)), z8, z9, I, J, k, none])
    hit ⟨rfl, y8, y9, rfl⟩ (by
    rintro pre x post env s' he ⟨rfl, z8, z9, rfl⟩
    obtain ⟨q1, q2⟩ := hxs x (by rw [he]; exact List.mem_append_right _ List.mem_cons_self)
    exact ⟨_, s', pair_ok h hw q1 hwl q2 hK A B C F _ I J k z9 s', rfl, _, _, rfl⟩)
  obtain ⟨e', s', h1, rfl, z8, z9, rfl⟩ := key
  exact ⟨z8, z9, h1⟩
theorem longs_ok (D : Dip dp Sp) (h : Bk M E rs) (hM : M ≤ 8) {p : Addr} {n : Nat} {s : Sto} (hs : Sp p n s) (hn : n < 600000) (A C F w5 w6 w7 y8 w9 y10 y11 k : Option Dt) :
    ∃ z8 z10 z11 s', (ifS (asB (bind2 (bind2 (fVar 3) (fC (.int 0)) ixA) (bindA aNil tupG) neG)) (forF (rngF1 (fC (.int 3))) (tgN 10) (longB dp)) skipS) [A, some (.ref p), C, some (bookD E rs), F, w5, w6, w7, y8, w9, y10, y11, k, none] s
      = some (.nx [A, some (.ref p), C, some (bookD E rs), F, w5, w6, w7, z8, w9, z10, z11, k, none], s') ∧ Sp p (n + 300) s' := by
  have g5 : ∀ s, ixA s (bookD E rs) (.int 0) = some (.tup (entL E)) := fun s => rfl
  have gn := ne_tup (okd_ent h.cl) (by decide) s
  have hc : asB (bind2 (bind2 (fVar 3) (fC (.int 0)) ixA) (bindA aNil tupG) neG) [A, some (.ref p), C, some (bookD E rs), F, w5, w6, w7, y8, w9, y10, y11, k, none] s = some (!(entL E).isEmpty, s) := asB_ev (bind2_ev (bind2_ev (v0 rfl) c0 (g5 s)) (bindA_ev a0 rfl) gn)
  cases hq : (entL E).isEmpty with
  | true =>
    rw [hq] at hc
    exact ⟨y8, y10, y11, s, (if_f hc).trans rfl, D.mono hs (by omega)⟩
  | false =>
    rw [hq] at hc
    have hne : E ≠ [] := fun z => by rw [z] at hq; cases hq
    have key := for_pre (xs := List.range 3) (enc := fun k => .int (0 + ((k : Nat) : Int))) (i := 10) (F := longB dp) (fi := rngF1 (fC (.int 3))) (s := s)
      (env := [A, some (.ref p), C, some (bookD E rs), F, w5, w6, w7, y8, w9, y10, y11, k, none])
      (fun pre env s' => Sp p (n + 100 * pre.length) s' ∧ ∃ z8 z10 z11, env = [A, some (.ref p), C, some (bookD E rs), F, w5, w6, w7, z8, w9, z10, z11, k, none])
      (rng_ev (m := 3) c0 (by decide) (by decide)) ⟨hs, y8, y10, y11, rfl⟩ (by
      rintro pre x post env s' he ⟨hs, z8, z10, z11, rfl⟩
      obtain ⟨hk1, hk2⟩ := range_pre he
      obtain ⟨u, v, s2, e, hu, hv, hul, hvl, h2⟩ := long_sp D h hM hne hs (by omega)
      have g1 := at_most_ok (s := s2) h.cl (.tup (rs.map Ru.d)) hu hv (by omega) (by omega)
      have g3 := embeds_ok (s := s2) h.cl (u := u) hv (by omega)
      have un : unpS 8 11 (callF (V_law_long_k04 dp) (aCons (fVar 1) (aCons (fVar 3) aNil))) [A, some (.ref p), C, some (bookD E rs), F, w5, w6, w7, z8, w9, some (.int (0 + ((x : Nat) : Int))), z11, k, none] s' = some (.nx [A, some (.ref p), C, some (bookD E rs), F, w5, w6, w7, some (wd u), w9, some (.int (0 + ((x : Nat) : Int))), some (wd v), k, none], s2) := unpT_ev (call_ev (aCons_ev (v0 rfl) (aCons_ev (v0 rfl) a0)) e)
      refine ⟨_, s2, (seq_nx un).trans (stop_ok (call_ev (aCons_ev (v0 rfl) (aCons_ev (v0 rfl) (aCons_ev (v0 rfl) a0))) g1) (call_ev (aCons_ev (bind2_ev (v0 rfl) c0 (g5 s2)) (aCons_ev (v0 rfl) (aCons_ev (v0 rfl) a0))) g3) (okd_bl _) (by decide) (by decide)), D.mono h2 (by rw [List.length_append, List.length_singleton]; omega), _, _, _, rfl⟩)
    obtain ⟨e', s', h1, hs', z8, z10, z11, rfl⟩ := key
    exact ⟨z8, z10, z11, s', (if_t hc).trans h1, hs'⟩
end

end DL
namespace DL
open PySem PySem.Spec PyProof.Rows L2
local macro_rules | `(tactic| walk_at "op") => `(tactic| first | assumption | with_reducible rfl | exact cat_w (by omega) | exact sub_nn (by omega) | exact add_nn | exact at_w (by omega) (by assumption) | exact len_w (by omega) | exact in_l1 | exact notin_l1 | exact in_t1 | exact notin_t1 | exact in_k1 | exact notin_k1 | exact in_wl | exact notin_wl | exact in_wt | exact notin_wt | exact in_kd | exact notin_kd | exact eq_ww | exact ne_ww | exact any_bl | exact all_bl | rfl)
local macro_rules | `(tactic| walk_at "ev") => `(tactic| first | with_reducible exact c0 | ((with_reducible apply v0); rfl) | with_reducible exact a0 | with_reducible assumption | ((with_reducible apply aCons_ev); (focus walk_at "ev"); (focus walk_at "ev")) | ((with_reducible apply bindA_ev); (focus walk_at "ev"); (focus walk_at "op")) | ((with_reducible apply bind2_ev); (focus walk_at "ev"); (focus walk_at "ev"); (focus walk_at "op")) | ((with_reducible apply bind1_ev); (focus walk_at "ev"); (focus walk_at "op")) | ((with_reducible apply asB_ev); (focus walk_at "ev")) | ((with_reducible apply call_ev); (focus walk_at "ev"); (focus first | assumption | rfl)) | ((with_reducible apply truF_ev); (focus walk_at "ev"); (focus first | assumption | rfl)) | ((with_reducible apply notT_ev); (focus walk_at "ev")) | ((with_reducible apply andT_e); (focus walk_at "ev"); (focus (intro hq; walk_at "ev"))) | ((with_reducible apply orT_e); (focus walk_at "ev"); (focus (intro hq; walk_at "ev"))) | ((with_reducible apply seq_tup); (focus walk_at "ev")) | ((with_reducible apply seq_lst); (focus walk_at "ev")) | ((with_reducible apply seq_str); (focus walk_at "ev")))
variable {dp : Fn} {Sp : Addr → Nat → Sto → Prop}
theorem pow_ok {a b : Nat} (ha : a ≤ 4) (hb : b ≤ 6) : (a + 2) ^ b ≤ 10000000 := by
  have h1 : (a + 2) ^ b ≤ 6 ^ b := Nat.pow_le_pow_left (by omega) b
  have h2 : 6 ^ b ≤ 6 ^ 6 := Nat.pow_le_pow_right (by decide) hb
  have h3 : (6 : Nat) ^ 6 ≤ 10000000 := by decide
  omega
theorem lap_ok (D : Dip dp Sp) {p : Addr} {n : Nat} {s : Sto} (hs : Sp p n s) (hn : n < 500000) (S x2 x3 x4 x5 x6 x7 x8 x9 x10 x11 x12 : Option Dt) :
    ∃ y3 y4 y5 y6 y7 y8 y9 y10 y11 s', lapF dp [S, some (.ref p), x2, x3, x4, x5, x6, x7, x8, x9, x10, x11, x12, none] s = some (.nx [S, some (.ref p), x2, y3, y4, y5, y6, y7, y8, y9, y10, y11, x12, none], s') ∧ Sp p (n + 600) s' := by
  obtain ⟨L, E0, rs, s1, e1, hp, h1⟩ := page_sp D (M := 4) (R := 2) (by decide) (by decide) hs (by omega)
  have B := hp.bk (by decide) (by decide)
  generalize hE : sortE E0 = E at e1 B
  obtain ⟨w, s2, e2, hw, hwl, ht, h2⟩ := fitting_sp D B (by decide) h1 (by omega)
  have ob := okd_book B.cl B.ok (by have := B.rn; omega)
  have r1 := ob.repr (by decide) (by decide) s1
  have r2 := ob.repr (by decide) (by decide)
  have g3 : ∀ s, ixA s (bookD E rs) (.int 0) = some (.tup (entL E)) := fun s => rfl
  have g4 := all_ok_ (s := s2) B.cl (w := w) (B := 100) hw (by omega) (by decide)
  have hall : allD E w 100 = .lst ((sortW (tamN E w)).map wd) := if_pos ht
  rw [hall] at g4
  have g5 : ∀ s, Vthings_at_most [bookD E rs, wd w] s = some (.tup ((sortW (tamN E w)).map wd), s) := fun s => things_ok (s := s) B.cl (.tup (rs.map Ru.d)) hw (by omega) (pow_ok B.n hwl)
  have g6 : ∀ s : Sto, toTupG s [.lst ((sortW (tamN E w)).map wd)] = some (.tup ((sortW (tamN E w)).map wd)) := fun s => rfl
  have ow : OkD 6000000 1 (.tup ((sortW (tamN E w)).map wd)) := okd_words (fun x hx => by
    have e := (tam_mem w).mp (sortW_mem.mp hx)
    exact ⟨B.low (emb_let B.cl e hw), by have := e.len; omega⟩) (by rw [sortW_len]; omega)
  have g7 := fun s => lletters_ok (E := E) (s := s) (.tup (rs.map Ru.d)) (by have := B.n; omega)
  have hL8 : (E.map (·.1)).length ≤ 8 := by rw [List.length_map]; have := B.n; omega
  obtain ⟨ds, s3, e3, hdl, hq, h3⟩ := lc_sp (te := callF (V_law_word_k01 dp) (aCons (fVar 1) (aCons (callF V_law_letters_k01 (aCons (fVar 3) aNil)) (aCons (fC (.int 6)) aNil)))) (k := 10) (vs := [10]) (fi := rngF1 (fC (.int 8))) (env := [S, some (.ref p), x2, some (bookD E rs), some (.str (showD (bookD E rs))), some (wd w), some (.lst ((sortW (tamN E w)).map wd)), x7, x8, x9, x10, x11, x12, none]) (s := s2) (s1 := s2) (fun d => ∃ x, d = wd x ∧ (∀ c ∈ x, c ∈ E.map (·.1)) ∧ x.length ≤ 50) 8 600000 (xs := List.range 8) (enc := fun i => .int (0 + ((i : Nat) : Int)))
    (rng_ev (m := 8) c0 (by decide) (by decide)) (by decide) h2 (by rw [List.length_range]; omega) (fun x hx n s h hn => by
      obtain ⟨x, s', e, h1, h2, h3⟩ := lword_sp D (L := E.map (·.1)) (M := 6) (by decide) (by decide) hL8 B.cl.lo h (by omega)
      exact ⟨_, s', call_ev (aCons_ev (v0 rfl) (aCons_ev (call_ev (aCons_ev (v0 rfl) a0) (g7 s)) (aCons_ev c0 a0))) e, ⟨x, rfl, h1, by omega⟩, h3⟩)
  obtain ⟨ws, rfl, hwsl, hws⟩ := words_of (q := fun x => (∀ c ∈ x, c ∈ E.map (·.1)) ∧ x.length ≤ 50) hq
  rw [List.length_range] at hdl h3
  obtain ⟨z8, z9, e4⟩ := pairs_ok B hw (by omega) (K := sortW (tamN E w)) (ws := ws) (fun y => sortW_mem) (by rw [sortW_len]; omega) hws (by omega) S (some (.ref p)) x2 (some (.str (showD (bookD E rs)))) x8 x9 x10 x11 x12 s3
  obtain ⟨w8, w10, w11, s4, e5, h4⟩ := longs_ok D B (by decide) h3 (by omega) S x2 (some (.str (showD (bookD E rs)))) (some (wd w)) (some (.lst ((sortW (tamN E w)).map wd))) (some (.lst (ws.map wd))) z8 z9 x10 x11 x12
  have a1 : par2S 4 5 (bindA (aCons (fVar 3) aNil) reprG) (callF (V_law_fitting_k04_k04 dp) (aCons (fVar 1) (aCons (fVar 3) (aCons (fC (.int 6)) (aCons (fC (.int 100)) aNil))))) [S, some (.ref p), x2, some (bookD E rs), x4, x5, x6, x7, x8, x9, x10, x11, x12, none] s1 = some (.nx [S, some (.ref p), x2, some (bookD E rs), some (.str (showD (bookD E rs))), some (wd w), x6, x7, x8, x9, x10, x11, x12, none], s2) :=
    par_ev (x := .str (showD (bookD E rs))) (y := wd w) ⟨by simp, by simp⟩ (bindA_ev (aCons_ev (v0 rfl) a0) r1) (call_ev (aCons_ev (v0 rfl) (aCons_ev (v0 rfl) (aCons_ev c0 (aCons_ev c0 a0)))) e2)
  refine ⟨some (bookD E rs), some (.str (showD (bookD E rs))), some (wd w), some (.lst ((sortW (tamN E w)).map wd)), some (.lst (ws.map wd)), w8, z9, w10, w11, s4, ?_, D.mono h4 (by omega)⟩
  refine (seq_nx (set_ev (call_ev (aCons_ev (v0 rfl) (aCons_ev c0 (aCons_ev c0 a0))) e1))).trans ?_
  refine (seq_nx a1).trans ?_
  refine (seq_nx (set_ev (call_ev (aCons_ev (bind2_ev (v0 rfl) c0 (g3 _)) (aCons_ev (v0 rfl) (aCons_ev c0 a0))) g4))).trans ?_
  refine (seq_nx (stop_ok (call_ev (aCons_ev (v0 rfl) (aCons_ev (v0 rfl) a0)) (g5 _)) (bindA_ev (aCons_ev (v0 rfl) a0) (g6 _)) ow (by decide) (by decide))).trans ?_
  refine (seq_nx (set_ev e3)).trans ?_
  refine (seq_nx e4).trans ?_
  refine (seq_nx e5).trans ?_
  have hc : orT (asB (bind2 (bindA (aCons (callF (fun ds s => Vthings_at_most (permL [1, 0] ds) s) (aCons (fVar 5) (aCons (fVar 3) aNil))) aNil) reprG) (bindA (aCons (bindA (aCons (fVar 6) aNil) toTupG) aNil) reprG) neG)) (asB (bind2 (bindA (aCons (fVar 3) aNil) reprG) (fVar 4) neG)) [S, some (.ref p), x2, some (bookD E rs), some (.str (showD (bookD E rs))), some (wd w), some (.lst ((sortW (tamN E w)).map wd)), some (.lst (ws.map wd)), w8, z9, w10, w11, x12, none] s4 = some (false, s4) := by
    have g5' : (fun ds s => Vthings_at_most (permL [1, 0] ds) s) [wd w, bookD E rs] s4 = some (.tup ((sortW (tamN E w)).map wd), s4) := g5 s4
    exact orT_e (a := false) (b := false) (asB_ev (bind2_ev (bindA_ev (aCons_ev (call_ev (aCons_ev (v0 rfl) (aCons_ev (v0 rfl) a0)) g5') a0) (ow.repr (by decide) (by decide) s4)) (bindA_ev (aCons_ev (bindA_ev (aCons_ev (v0 rfl) a0) (g6 s4)) a0) (ow.repr (by decide) (by decide) s4)) (ne_str s4 _))) fun _ => asB_ev (bind2_ev (bindA_ev (aCons_ev (v0 rfl) a0) (r2 s4)) (v0 rfl) (ne_str s4 _))
  exact (if_f hc).trans rfl

end DL
namespace DL
open PySem PySem.Spec PyProof.Rows L2
local macro_rules | `(tactic| walk_at "op") => `(tactic| first | assumption | with_reducible rfl | exact cat_w (by omega) | exact sub_nn (by omega) | exact add_nn | exact at_w (by omega) (by assumption) | exact len_w (by omega) | exact in_l1 | exact notin_l1 | exact in_t1 | exact notin_t1 | exact in_k1 | exact notin_k1 | exact in_wl | exact notin_wl | exact in_wt | exact notin_wt | exact in_kd | exact notin_kd | exact eq_ww | exact ne_ww | exact any_bl | exact all_bl | rfl)
local macro_rules | `(tactic| walk_at "ev") => `(tactic| first | with_reducible exact c0 | ((with_reducible apply v0); rfl) | with_reducible exact a0 | with_reducible assumption | ((with_reducible apply aCons_ev); (focus walk_at "ev"); (focus walk_at "ev")) | ((with_reducible apply bindA_ev); (focus walk_at "ev"); (focus walk_at "op")) | ((with_reducible apply bind2_ev); (focus walk_at "ev"); (focus walk_at "ev"); (focus walk_at "op")) | ((with_reducible apply bind1_ev); (focus walk_at "ev"); (focus walk_at "op")) | ((with_reducible apply asB_ev); (focus walk_at "ev")) | ((with_reducible apply call_ev); (focus walk_at "ev"); (focus first | assumption | rfl)) | ((with_reducible apply truF_ev); (focus walk_at "ev"); (focus first | assumption | rfl)) | ((with_reducible apply notT_ev); (focus walk_at "ev")) | ((with_reducible apply andT_e); (focus walk_at "ev"); (focus (intro hq; walk_at "ev"))) | ((with_reducible apply orT_e); (focus walk_at "ev"); (focus (intro hq; walk_at "ev"))) | ((with_reducible apply seq_tup); (focus walk_at "ev")) | ((with_reducible apply seq_lst); (focus walk_at "ev")) | ((with_reducible apply seq_str); (focus walk_at "ev")))
def E2 : Ents := [(120, []), (121, [120])]
theorem E2_cl : ClE E2 where
  ok := ⟨by decide, by decide⟩
  cl := by decide
  n := by decide
  lo := by decide
theorem tail_ok (S a2 a3 a4 a5 a6 a7 a8 a9 a10 a11 a12 : Option Dt) (p : Option Dt) (s : Sto) : ∃ s', tailF [S, p, a2, a3, a4, a5, a6, a7, a8, a9, a10, a11, a12, none] s = some (.rt (.bl true), s') := by
  refine ⟨s, ?_⟩
  have g1 := at_most_ok (s := s) E2_cl (.tup []) (u := [120, 120]) (v := [121, 120, 121]) (by decide) (by decide) (by decide) (by decide)
  have k1 : embB E2 [120, 120] [121, 120, 121] = true := by decide +kernel
  rw [k1] at g1
  have g2 := at_most_ok (s := s) E2_cl (.tup []) (u := []) (v := []) (by decide) (by decide) (by decide) (by decide)
  have k2 : embB E2 [] [] = true := by decide +kernel
  rw [k2] at g2
  have g3 := things_ok (s := s) E2_cl (.tup []) (w := [121, 121]) (by decide) (by decide) (by decide)
  have k3 : sortW (tamN E2 [121, 121]) = [[], [120], [120, 120], [120, 121], [121], [121, 120], [121, 121]] := by decide +kernel
  rw [k3] at g3
  let W : List (List Nat) := [[], [120], [120, 120], [120, 121], [121], [121, 120], [121, 121]]
  have ow : OkD 6000 1 (.tup (W.map wd)) := by
    refine (OkD.tup (W := 502) (D := 0) (n := 7) (fun d hd => ?_) (by decide)).mono (by decide) (by decide)
    obtain ⟨x, hx, rfl⟩ := List.mem_map.mp hd
    have : ∀ x ∈ W, (∀ c ∈ x, 97 ≤ c ∧ c ≤ 122) ∧ x.length ≤ 50 := by decide
    exact okd_wd (n := 50) (this x hx).1 (this x hx).2
  have ol : OkD 20000 2 (.lst [.bl true, .bl true, .tup (W.map wd)]) := by
    refine (OkD.lst (W := 6000) (D := 1) (n := 3) (fun d hd => ?_) (by show 3 ≤ 3; decide)).mono (by decide) (by decide)
    rcases List.mem_cons.mp hd with rfl | hd
    · exact (okd_bl true).mono (by decide) (by decide)
    rcases List.mem_cons.mp hd with rfl | hd
    · exact (okd_bl true).mono (by decide) (by decide)
    · rw [List.mem_singleton.mp hd]; exact ow
  let LN : Dt := .tup (entL E2)
  have q1 : bindA (aCons (bindA (aCons (fC (.str "x")) (aCons (bindA aNil tupG) aNil)) tupG) (aCons (bindA (aCons (fC (.str "y")) (aCons (bindA (aCons (fC (.str "x")) aNil) tupG) aNil)) tupG) aNil)) tupG [S, p, a2, a3, a4, a5, a6, a7, a8, a9, a10, a11, a12, none] s = some (LN, s) := rfl
  have q2 : ∀ e : Env, e[12]? = some (some LN) → bindA (aCons (fVar 12) (aCons (bindA aNil tupG) aNil)) tupG e s = some (.tup [LN, .tup []], s) := fun e h => bindA_ev (aCons_ev (v0 h) (aCons_ev (bindA_ev a0 rfl) a0)) rfl
  have g1' : (fun ds s => Vis_at_most (permL [2, 1, 0] ds) s) [wd [121, 120, 121], wd [120, 120], .tup [LN, .tup []]] s = some (.bl true, s) := g1
  refine (seq_nx (set_ev q1)).trans ?_
  refine (seq_nx (setN_ev (d := .lst [.bl true, .bl true]) (by simp) (bindA_ev (aCons_ev (call_ev (aCons_ev c0 (aCons_ev c0 (aCons_ev (q2 _ rfl) a0))) g1') (aCons_ev (call_ev (aCons_ev (q2 _ rfl) (aCons_ev c0 (aCons_ev c0 a0))) g2) a0)) rfl))).trans ?_
  refine (seq_nx (app_ev (d := .tup (W.map wd)) (ds := [.bl true, .bl true]) (call_ev (aCons_ev (q2 _ rfl) (aCons_ev c0 a0)) g3) rfl (small' (by decide)))).trans ?_
  have q3 : eqG s (.str (showD (.lst [.bl true, .bl true, .tup (W.map wd)]))) (.str (showD (.lst [.bl true, .bl true, .tup (W.map wd)]))) = some (.bl true) := by
    show some (Dt.bl (decide (_ = _))) = _
    rw [decide_eq_true rfl]
  exact ret_ev (bind2_ev (bindA_ev (aCons_ev (v0 rfl) a0) (ol.repr (by decide) (by decide) s)) (bindA_ev (aCons_ev (x := .lst [.bl true, .bl true, .tup (W.map wd)]) rfl a0) (ol.repr (by decide) (by decide) s)) q3)

end DL
namespace DL
open PySem PySem.Spec PyProof.Rows L2
local macro_rules | `(tactic| walk_at "op") => `(tactic| first | assumption | with_reducible rfl | exact cat_w (by omega) | exact sub_nn (by omega) | exact add_nn | exact at_w (by omega) (by assumption) | exact len_w (by omega) | exact in_l1 | exact notin_l1 | exact in_t1 | exact notin_t1 | exact in_k1 | exact notin_k1 | exact in_wl | exact notin_wl | exact in_wt | exact notin_wt | exact in_kd | exact notin_kd | exact eq_ww | exact ne_ww | exact any_bl | exact all_bl | rfl)
local macro_rules | `(tactic| walk_at "ev") => `(tactic| first | with_reducible exact c0 | ((with_reducible apply v0); rfl) | with_reducible exact a0 | with_reducible assumption | ((with_reducible apply aCons_ev); (focus walk_at "ev"); (focus walk_at "ev")) | ((with_reducible apply bindA_ev); (focus walk_at "ev"); (focus walk_at "op")) | ((with_reducible apply bind2_ev); (focus walk_at "ev"); (focus walk_at "ev"); (focus walk_at "op")) | ((with_reducible apply bind1_ev); (focus walk_at "ev"); (focus walk_at "op")) | ((with_reducible apply asB_ev); (focus walk_at "ev")) | ((with_reducible apply call_ev); (focus walk_at "ev"); (focus first | assumption | rfl)) | ((with_reducible apply truF_ev); (focus walk_at "ev"); (focus first | assumption | rfl)) | ((with_reducible apply notT_ev); (focus walk_at "ev")) | ((with_reducible apply andT_e); (focus walk_at "ev"); (focus (intro hq; walk_at "ev"))) | ((with_reducible apply orT_e); (focus walk_at "ev"); (focus (intro hq; walk_at "ev"))) | ((with_reducible apply seq_tup); (focus walk_at "ev")) | ((with_reducible apply seq_lst); (focus walk_at "ev")) | ((with_reducible apply seq_str); (focus walk_at "ev")))
variable {dp : Fn} {Sp : Addr → Nat → Sto → Prop}
theorem law_main (D : Dip dp Sp) (hdp : dp = V_law_draw_k04_k04) (p : Addr) (S : Dt) (s : Sto) (h : Sp p 0 s) : ∃ s', Flaw_k04 [some S, some (.ref p), none, none, none, none, none, none, none, none, none, none, none, none] s = some (.rt (.bl true), s') := by
  rw [flaw_eq]
  subst hdp
  have key := for_pre (xs := List.range 2) (enc := fun k => .int (0 + ((k : Nat) : Int))) (i := 2) (F := lapF V_law_draw_k04_k04) (fi := rngF1 (fC (.int 2))) (s := s)
    (env := [some S, some (.ref p), none, none, none, none, none, none, none, none, none, none, none, none])
    (fun pre env s' => Sp p (600 * pre.length) s' ∧ ∃ y2 y3 y4 y5 y6 y7 y8 y9 y10 y11, env = [some S, some (.ref p), y2, y3, y4, y5, y6, y7, y8, y9, y10, y11, none, none])
    (rng_ev (m := 2) c0 (by decide) (by decide)) ⟨h, none, none, none, none, none, none, none, none, none, none, rfl⟩ (by
    rintro pre k post env s' he ⟨hs, y2, y3, y4, y5, y6, y7, y8, y9, y10, y11, rfl⟩
    obtain ⟨hk1, hk2⟩ := range_pre he
    obtain ⟨z3, z4, z5, z6, z7, z8, z9, z10, z11, s2, e, h2⟩ := lap_ok D hs (by omega) (some S) (some (.int (0 + ((k : Nat) : Int)))) y3 y4 y5 y6 y7 y8 y9 y10 y11 none
    exact ⟨_, s2, e, D.mono h2 (by rw [List.length_append, List.length_singleton]; omega), _, _, _, _, _, _, _, _, _, _, rfl⟩)
  obtain ⟨e', s', h1, hs, y2, y3, y4, y5, y6, y7, y8, y9, y10, y11, rfl⟩ := key
  obtain ⟨s2, h2⟩ := tail_ok (some S) y2 y3 y4 y5 y6 y7 y8 y9 y10 y11 none (some (.ref p)) s'
  exact ⟨s2, (seq_nx h1).trans h2⟩
theorem dip_k04 : Dip V_law_draw_k04_k04 SpL := drw_of (q0 := 167) (m1 := 1999999943) (q1 := 48313) (q2 := 337) (m2 := 2147483423) (q3 := 8297) (q4 := 167) (m3 := 2147483477) rfl (by decide) (by decide) (by decide) (by decide) (by decide) (by decide) (by decide)

end DL
namespace DL
open PySem PySem.Spec PyProof.Rows L2

def topS (i : Nat) : Stmt := PySem.Challenge.pw_firstfailing_k04_whole_at_most.main.body.getD i (.Pass ⟨0, 0, 0, 0⟩)

abbrev N_law_tape : List Str := ["_law_script"]
abbrev A_law_tape : List Str := ["_law_script"]
theorem sc_law_tape : FnScope N_law_tape A_law_tape (defScope (topS 16)) := ⟨rfl, rfl, rfl, by decide +kernel, rfl, by decide +kernel, by decide +kernel⟩
theorem ok_law_tape {P : Program} {w : World} {K : PySem.W.Frag} {mg : Str → Option Value} {base : Heap} {f : Addr} {fd : FuncData} (Fx : L2.Fun K "_law_tape" "_law_tape" (topS 16) f fd) : FnG P w K mg base 1 f fd A_law_tape (spF K 1 V_law_tape_k01) :=
  okF (k := 0) (O' := []) Fx sc_law_tape rfl fun X _ _ _ _ _ _ _ _ hex hr hgd => by
    obtain ⟨cdv, L, A, outer, s, H, E, rfl, _⟩ := hex
    have hu := hr.units
    have hu1 := Nat.lt_of_le_of_lt (Nat.add_le_add_left (by decide : 1 ≤ 64) _) hu
    exact (ss_one (s_retO (O := []) (O' := []) (d_of_n (n_lst (ad_cons (d_slice (b_var (pv 0)) o_none (o_some (b_of_d d_int))) (ad_cons d_int (ad_cons d_int (ad_cons d_int ad_nil))))))))

abbrev N_law_draw : List Str := ["_law_tape_here", "_law_size", "_law_found", "_law_spot", "_law_cell", "_law_mixed"]
abbrev A_law_draw : List Str := ["_law_tape_here", "_law_size"]
theorem sc_law_draw : FnScope N_law_draw A_law_draw (defScope (topS 17)) := ⟨rfl, rfl, rfl, by decide +kernel, rfl, by decide +kernel, by decide +kernel⟩
theorem ok_law_draw {P : Program} {w : World} {K : PySem.W.Frag} {mg : Str → Option Value} {base : Heap} {f : Addr} {fd : FuncData} (Fx : L2.Fun K "_law_draw" "_law_draw" (topS 17) f fd) (m_int : mg "int" = none) (m_len : mg "len" = none) : FnG P w K mg base 1 f fd A_law_draw (spF K 2 V_law_draw_k04_k04) :=
  okF (k := 0) (O' := []) Fx sc_law_draw rfl fun X _ _ _ _ _ _ _ _ hex hr hgd => by
    obtain ⟨cdv, L, A, outer, s, H, E, rfl, _⟩ := hex
    have hu := hr.units
    have hu1 := Nat.lt_of_le_of_lt (Nat.add_le_add_left (by decide : 1 ≤ 64) _) hu
    exact (ss_cons (s_hputL (O := []) (ps_asg (d_addA (b_of_d (d_ixA hu1 (b_var (pv 0)) (b_of_d d_int))) (b_of_d d_int)) (pg_sub (pv 0) (b_of_d d_int) set_list))) (ss_cons (s_if (O := []) (O' := []) (t_gt (b_of_d (d_ixA hu1 (b_var (pv 0)) (b_of_d d_int))) (b_of_d d_int)) (ss_cons (s_set (O := []) (O' := []) (ps_set (i := 2) sc_law_draw.nd rfl (by first | exact .inl rfl | exact .inr rfl) (d_mod (b_of_d (d_callT call_intA cd_int rfl m_int rfl (ab_cons (b_of_d (d_ixA hu1 (b_var (pv 0)) (b_of_d d_int))) ab_nil))) (b_var (pv 1))))) (ss_cons (s_hputL (O := []) (ps_asg (d_div (b_of_d (d_ixA hu1 (b_var (pv 0)) (b_of_d d_int))) (b_var (pv 1))) (pg_sub (pv 0) (b_of_d d_int) set_list))) (ss_one (s_retO (O := []) (O' := []) (d_var (by decide) (pv 2)))))) ss_nil) (ss_cons (s_set (O := []) (O' := []) (ps_set (i := 3) sc_law_draw.nd rfl (by first | exact .inl rfl | exact .inr rfl) (d_ixA hu1 (b_var (pv 0)) (b_of_d d_int)))) (ss_cons (s_hputL (O := []) (ps_asg (d_addA (b_var (pv 3)) (b_of_d d_int)) (pg_sub (pv 0) (b_of_d d_int) set_list))) (ss_cons (s_set (O := []) (O' := []) (ps_set (i := 4) sc_law_draw.nd rfl (by first | exact .inl rfl | exact .inr rfl) (d_if (t_ne hu (b_of_d (d_ixA hu1 (b_var (pv 0)) (b_of_d d_int))) (b_of_n (n_lst ad_nil))) (d_ixA hu1 (b_of_d (d_ixA hu1 (b_var (pv 0)) (b_of_d d_int))) (b_of_d (d_mod (b_of_d (d_callT call_intA cd_int rfl m_int rfl (ab_cons (b_var (pv 3)) ab_nil))) (b_of_d (d_callB call_lenA cd_len rfl m_len PySem.boot_len (ab_cons (b_of_d (d_ixA hu1 (b_var (pv 0)) (b_of_d d_int))) ab_nil)))))) d_int))) (ss_cons (s_if (O := []) (O' := []) (t_bool (w_and (t_ge (b_var (pv 4)) (b_of_d (d_pow (b_of_d d_int) (b_of_d d_int)))) (w_and1 (t_lt (b_var (pv 3)) (b_of_d (d_callB call_lenA cd_len rfl m_len PySem.boot_len (ab_cons (b_of_d (d_ixA hu1 (b_var (pv 0)) (b_of_d d_int))) ab_nil))))))) (ss_cons (s_hputL (O := []) (ps_asg (d_div (b_var (pv 4)) (b_var (pv 1))) (pg_sub (pv 0) (b_of_d d_int) set_list))) (ss_one (s_retO (O := []) (O' := []) (d_mod (b_of_d (d_callT call_intA cd_int rfl m_int rfl (ab_cons (b_var (pv 4)) ab_nil))) (b_var (pv 1)))))) ss_nil) (ss_cons (s_set (O := []) (O' := []) (ps_set (i := 5) sc_law_draw.nd rfl (by first | exact .inl rfl | exact .inr rfl) (d_mod (b_of_d (d_callT call_intA cd_int rfl m_int rfl (ab_cons (b_of_d (d_pow (b_of_d (d_addA (b_of_d (d_addA (b_of_d (d_mod (b_of_d (d_callT call_intA cd_int rfl m_int rfl (ab_cons (b_var (pv 4)) ab_nil))) (b_of_d d_int))) (b_of_d (d_mul (b_of_d d_int) (b_of_d (d_ixA hu1 (b_var (pv 0)) (b_of_d d_int))))))) (b_of_d d_int))) (b_of_d d_int))) ab_nil))) (b_of_d d_int)))) (ss_cons (s_set (O := []) (O' := []) (ps_set (i := 5) sc_law_draw.nd rfl (by first | exact .inl rfl | exact .inr rfl) (d_mod (b_of_d (d_callT call_intA cd_int rfl m_int rfl (ab_cons (b_of_d (d_pow (b_of_d (d_addA (b_of_d (d_addA (b_var (pv 5)) (b_of_d (d_mul (b_of_d (d_mul (b_of_d d_int) (b_of_d (d_ixA hu1 (b_var (pv 0)) (b_of_d d_int))))) (b_of_d (d_ixA hu1 (b_var (pv 0)) (b_of_d d_int))))))) (b_of_d d_int))) (b_of_d d_int))) ab_nil))) (b_of_d d_int)))) (ss_one (s_retO (O := []) (O' := []) (d_mod (b_of_d (d_callT call_intA cd_int rfl m_int rfl (ab_cons (b_of_d (d_div (b_var (pv 5)) (b_of_d d_int))) ab_nil))) (b_var (pv 1)))))))))))))

abbrev N_law_signs : List Str := ["_law_tape_here", "_law_size", "_law_pool", "_law_start", "_law_stride", "_law_k"]
abbrev A_law_signs : List Str := ["_law_tape_here", "_law_size"]
theorem sc_law_signs : FnScope N_law_signs A_law_signs (defScope (topS 19)) := ⟨rfl, rfl, rfl, by decide +kernel, rfl, by decide +kernel, by decide +kernel⟩
theorem ok_law_signs {P : Program} {w : World} {K : PySem.W.Frag} {mg : Str → Option Value} {base : Heap} {f : Addr} {fd : FuncData} (Fx : L2.Fun K "_law_signs" "_law_signs" (topS 19) f fd) (C_law_draw : Cg P w K mg base 1 "_law_draw" (topS 17) A_law_draw V_law_draw_k04_k04) (m_range : mg "range" = none) (m_int : mg "int" = none) : FnG P w K mg base 2 f fd A_law_signs (spF K 2 (V_law_signs_k01 V_law_draw_k04_k04)) :=
  okF (k := 1) (O' := []) Fx sc_law_signs rfl fun X _ _ _ _ _ _ _ _ hex hr hgd => by
    obtain ⟨cdv, L, A, outer, s, H, E, rfl, _⟩ := hex
    have hu := hr.units
    have hu1 := Nat.lt_of_le_of_lt (Nat.add_le_add_left (by decide : 1 ≤ 64) _) hu
    exact (ss_cons (s_parN (O := []) (is := [2, 3, 4]) [false, false, false] (ps_parT rfl (by exact (pa_cons (px_d d_str) (pa_cons (px_d (d_cg C_law_draw hr (by decide) hgd rfl (ad_cons (d_var (by decide) (pv 0)) (ad_cons d_int ad_nil)) (al_cons (al_cons al_nil)))) (pa_cons (px_d (d_addA (b_of_d d_int) (b_of_d (d_cg C_law_draw hr (by decide) hgd rfl (ad_cons (d_var (by decide) (pv 0)) (ad_cons d_int ad_nil)) (al_cons (al_cons al_nil)))))) pa_nil)))) (pgs_cons (pg_name (i := 2) sc_law_signs.nd rfl (by first | exact .inl rfl | exact .inr rfl)) (pgs_cons (pg_name (i := 3) sc_law_signs.nd rfl (by first | exact .inl rfl | exact .inr rfl)) (pgs_cons (pg_name (i := 4) sc_law_signs.nd rfl (by first | exact .inl rfl | exact .inr rfl)) pgs_nil)))) rfl rfl []) (ss_one (s_retO (O := []) (O' := []) (d_of_n (n_lc (i := 5) rfl sc_law_signs.nd (i_range1 rfl m_range (b_var (pv 1))) (own := [("_law_k", 5)]) (blkOk_by (by rfl)) (fun _ _ _ _ _ => (pg_name (i := 5) sc_law_signs.nd rfl (by first | exact .inl rfl | exact .inr rfl))) (fun _ _ _ _ _ => ts_nil) (fun _ _ _ _ _ => (d_ixA hu1 (b_var (pv 2)) (b_of_d (d_mod (b_of_d (d_callT call_intA cd_int rfl m_int rfl (ab_cons (b_of_d (d_addA (b_var (pv 3)) (b_of_d (d_mul (b_var (pv 5)) (b_var (pv 4)))))) ab_nil))) (b_of_d d_int))))))))))

abbrev N_law_rows : List Str := ["_law_tape_here", "_law_signs_here", "_law_way", "_law_rows_here", "_law_k", "_law_lower", "_law_j"]
abbrev A_law_rows : List Str := ["_law_tape_here", "_law_signs_here"]
theorem sc_law_rows : FnScope N_law_rows A_law_rows (defScope (topS 20)) := ⟨rfl, rfl, rfl, by decide +kernel, rfl, by decide +kernel, by decide +kernel⟩
theorem ok_law_rows {P : Program} {w : World} {K : PySem.W.Frag} {mg : Str → Option Value} {base : Heap} {f : Addr} {fd : FuncData} (Fx : L2.Fun K "_law_rows" "_law_rows" (topS 20) f fd) (C_law_draw : Cg P w K mg base 1 "_law_draw" (topS 17) A_law_draw V_law_draw_k04_k04) (m_range : mg "range" = none) (m_len : mg "len" = none) (m_tuple : mg "tuple" = none) (m_sorted : mg "sorted" = none) : FnG P w K mg base 2 f fd A_law_rows (spF K 2 (V_law_rows_k01 V_law_draw_k04_k04)) :=
  okF (k := 1) (O' := [3]) Fx sc_law_rows rfl fun X _ _ _ _ _ _ _ _ hex hr hgd => by
    obtain ⟨cdv, L, A, outer, s, H, E, rfl, _⟩ := hex
    have hu := hr.units
    have hu1 := Nat.lt_of_le_of_lt (Nat.add_le_add_left (by decide : 1 ≤ 64) _) hu
    exact (ss_cons (s_par2 (O := []) false true (ps_par (i := 2) (j := 3) rfl sc_law_rows.nd rfl rfl (by decide) rfl rfl (by exact (pa_cons (px_d (d_cg C_law_draw hr (by decide) hgd rfl (ad_cons (d_var (by decide) (pv 0)) (ad_cons d_int ad_nil)) (al_cons (al_cons al_nil)))) (pa_cons (px_n (n_lst ad_nil)) pa_nil))) rfl) [3]) (ss_cons (s_for (L := []) (O := [3]) PassesOwn.never rfl (i_range1 rfl m_range (b_of_d (d_callB call_lenA cd_len rfl m_len PySem.boot_len (ab_cons (b_var (pv 1)) ab_nil)))) (g_name (pg_name (i := 4) sc_law_rows.nd rfl (by first | exact .inl rfl | exact .inr rfl))) (ss_cons (s_set (O := [3]) (O' := [3]) (a_d_of_n (a_lc (z := 5) (i := 6) rfl sc_law_rows.nd rfl rfl rfl (i_range1 rfl m_range (b_var (pv 4))) (own := [("_law_j", 6)]) (blkOk_by (by rfl)) (fun _ _ _ _ _ => (pg_name (i := 6) sc_law_rows.nd rfl (by first | exact .inl rfl | exact .inr rfl))) (fun _ _ _ _ _ => (ts_one (t_eq hu (b_of_d (d_cg C_law_draw hr (by decide) hgd rfl (ad_cons (d_var (by decide) (pv 0)) (ad_cons d_int ad_nil)) (al_cons (al_cons al_nil)))) (b_of_d d_int)))) (fun _ _ _ _ _ => (d_ixA hu1 (b_var (pv 1)) (b_var (pv 6))))))) (ss_cons (s_if (O := [3]) (O' := [3]) (t_lt (b_var (pv 2)) (b_of_d d_int)) (ss_one (s_set (O := [3]) (O' := [3]) (ps_set (i := 5) sc_law_rows.nd rfl (by first | exact .inl rfl | exact .inr rfl) (d_if (t_eq hu (b_var (pv 2)) (b_of_d d_int)) (d_slice (b_var (pv 1)) o_none (o_some (b_var (pv 4)))) (d_slice (b_of_d (d_slice (b_var (pv 1)) o_none (o_some (b_var (pv 4))))) (o_some (b_of_d (d_neg (b_of_d d_int)))) o_none))))) ss_nil) (ss_one (s_app (O := [3]) (i := 3) (pe_bm PySem.F.plainAttrs_list PySem.F.slot_list_append PySem.F.type_list_append mt_append (pv 3) (pa_cons (d_tup (ad_cons (d_ixA hu1 (b_var (pv 1)) (b_var (pv 4))) (ad_cons (d_callT call_tupA cd_toTup rfl m_tuple rfl (ab_cons (b_of_n (n_callB call_sortedA cn_sortedA rfl m_sorted rfl (ab_cons (b_of_d (d_if (t_lt (b_var (pv 2)) (b_of_d d_int)) (d_var (by decide) (pv 5)) (d_of_n (n_lst ad_nil)))) ab_nil))) ab_nil)) ad_nil))) pa_nil))))))) (ss_one (s_retO (O := [3]) (O' := [3]) (d_callT call_tupA cd_toTup rfl m_tuple rfl (ab_cons (b_of_n (n_callB call_sortedA cn_sortedA rfl m_sorted rfl (ab_cons (b_var (pv 3)) ab_nil))) ab_nil))))))

abbrev N_law_pick : List Str := ["_law_tape_here", "_law_rows_here"]
abbrev A_law_pick : List Str := ["_law_tape_here", "_law_rows_here"]
theorem sc_law_pick : FnScope N_law_pick A_law_pick (defScope (topS 18)) := ⟨rfl, rfl, rfl, by decide +kernel, rfl, by decide +kernel, by decide +kernel⟩
theorem ok_law_pick {P : Program} {w : World} {K : PySem.W.Frag} {mg : Str → Option Value} {base : Heap} {f : Addr} {fd : FuncData} (Fx : L2.Fun K "_law_pick" "_law_pick" (topS 18) f fd) (C_law_draw : Cg P w K mg base 1 "_law_draw" (topS 17) A_law_draw V_law_draw_k04_k04) (m_len : mg "len" = none) : FnG P w K mg base 2 f fd A_law_pick (spF K 2 (V_law_pick_k01 V_law_draw_k04_k04)) :=
  okF (k := 1) (O' := []) Fx sc_law_pick rfl fun X _ _ _ _ _ _ _ _ hex hr hgd => by
    obtain ⟨cdv, L, A, outer, s, H, E, rfl, _⟩ := hex
    have hu := hr.units
    have hu1 := Nat.lt_of_le_of_lt (Nat.add_le_add_left (by decide : 1 ≤ 64) _) hu
    exact (ss_one (s_retO (O := []) (O' := []) (d_ixA hu1 (b_var (pv 1)) (b_of_d (d_cg C_law_draw hr (by decide) hgd rfl (ad_cons (d_var (by decide) (pv 0)) (ad_cons (d_callB call_lenA cd_len rfl m_len PySem.boot_len (ab_cons (b_var (pv 1)) ab_nil)) ad_nil)) (al_cons (al_cons al_nil)))))))

abbrev N_law_norm : List Str := ["_law_tape_here", "_law_signs_here", "_law_way", "_law_side", "_law_sign", "_law_word_here", "_law_k"]
abbrev A_law_norm : List Str := ["_law_tape_here", "_law_signs_here"]
theorem sc_law_norm : FnScope N_law_norm A_law_norm (defScope (topS 21)) := ⟨rfl, rfl, rfl, by decide +kernel, rfl, by decide +kernel, by decide +kernel⟩
theorem ok_law_norm {P : Program} {w : World} {K : PySem.W.Frag} {mg : Str → Option Value} {base : Heap} {f : Addr} {fd : FuncData} (Fx : L2.Fun K "_law_norm" "_law_norm" (topS 21) f fd) (C_law_draw : Cg P w K mg base 1 "_law_draw" (topS 17) A_law_draw V_law_draw_k04_k04) (C_law_pick : Cg P w K mg base 2 "_law_pick" (topS 18) A_law_pick (V_law_pick_k01 V_law_draw_k04_k04)) (m_range : mg "range" = none) : FnG P w K mg base 3 f fd A_law_norm (spF K 2 (V_law_norm_k01 V_law_draw_k04_k04)) :=
  okF (k := 2) (O' := []) Fx sc_law_norm rfl fun X _ _ _ _ _ _ _ _ hex hr hgd => by
    obtain ⟨cdv, L, A, outer, s, H, E, rfl, _⟩ := hex
    have hu := hr.units
    have hu1 := Nat.lt_of_le_of_lt (Nat.add_le_add_left (by decide : 1 ≤ 64) _) hu
    exact (ss_cons (s_par2 (O := []) false false (ps_par (i := 2) (j := 3) rfl sc_law_norm.nd rfl rfl (by decide) rfl rfl (by exact (pa_cons (px_d (d_cg C_law_draw hr (by decide) hgd rfl (ad_cons (d_var (by decide) (pv 0)) (ad_cons d_int ad_nil)) (al_cons (al_cons al_nil)))) (pa_cons (px_d (d_cg C_law_pick hr (by decide) hgd rfl (ad_cons (d_var (by decide) (pv 0)) (ad_cons (d_of_n (n_lst (ad_cons d_str (ad_cons d_str ad_nil)))) ad_nil)) (al_cons (al_cons al_nil)))) pa_nil))) rfl) []) (ss_cons (s_if (O := []) (O' := []) (t_lt (b_var (pv 2)) (b_of_d d_int)) (ss_one (s_retO (O := []) (O' := []) (d_tup (ad_cons d_str (ad_cons (d_addA (b_of_d d_int) (b_of_d (d_cg C_law_draw hr (by decide) hgd rfl (ad_cons (d_var (by decide) (pv 0)) (ad_cons d_int ad_nil)) (al_cons (al_cons al_nil))))) (ad_cons (d_var (by decide) (pv 3)) ad_nil)))))) ss_nil) (ss_cons (s_if (O := []) (O' := []) (t_eq hu (b_var (pv 2)) (b_of_d d_int)) (ss_one (s_retO (O := []) (O' := []) (d_tup (ad_cons d_str (ad_cons (d_var (by decide) (pv 3)) ad_nil))))) ss_nil) (ss_cons (s_if (O := []) (O' := []) (t_eq hu (b_var (pv 2)) (b_of_d d_int)) (ss_one (s_retO (O := []) (O' := []) (d_tup (ad_cons d_str ad_nil)))) ss_nil) (ss_cons (s_if (O := []) (O' := []) (t_bool (w_or (t_lt (b_var (pv 2)) (b_of_d d_int)) (w_or1 (t_eq hu (b_var (pv 1)) (b_of_n (n_lst ad_nil)))))) (ss_one (s_retO (O := []) (O' := []) (d_tup (ad_cons d_str (ad_cons (d_var (by decide) (pv 3)) ad_nil))))) ss_nil) (ss_cons (s_set (O := []) (O' := []) (ps_set (i := 4) sc_law_norm.nd rfl (by first | exact .inl rfl | exact .inr rfl) (d_cg C_law_pick hr (by decide) hgd rfl (ad_cons (d_var (by decide) (pv 0)) (ad_cons (d_var (by decide) (pv 1)) ad_nil)) (al_cons (al_cons al_nil))))) (ss_cons (s_set (O := []) (O' := []) (ps_set (i := 5) sc_law_norm.nd rfl (by first | exact .inl rfl | exact .inr rfl) (d_join (b_of_d d_str) (b_of_n (n_lc (i := 6) rfl sc_law_norm.nd (i_range1 rfl m_range (b_of_d (d_cg C_law_draw hr (by decide) hgd rfl (ad_cons (d_var (by decide) (pv 0)) (ad_cons d_int ad_nil)) (al_cons (al_cons al_nil))))) (own := [("_law_k", 6)]) (blkOk_by (by rfl)) (fun _ _ _ _ _ => (pg_name (i := 6) sc_law_norm.nd rfl (by first | exact .inl rfl | exact .inr rfl))) (fun _ _ _ _ _ => ts_nil) (fun _ _ _ _ _ => (d_cg C_law_pick hr (by decide) hgd rfl (ad_cons (d_var (by decide) (pv 0)) (ad_cons (d_var (by decide) (pv 1)) ad_nil)) (al_cons (al_cons al_nil))))))))) (ss_one (s_retO (O := []) (O' := []) (d_tup (ad_cons d_str (ad_cons (d_var (by decide) (pv 4)) (ad_cons (d_if (t_ne hu (b_var (pv 5)) (b_var (pv 4))) (d_var (by decide) (pv 5)) d_str) (ad_cons (d_var (by decide) (pv 3)) ad_nil))))))))))))))

abbrev N_law_page : List Str := ["_law_tape_here", "_law_bound", "_law_norms", "_law_signs_here", "_law_rows_here", "_law_k"]
abbrev A_law_page : List Str := ["_law_tape_here", "_law_bound", "_law_norms"]
theorem sc_law_page : FnScope N_law_page A_law_page (defScope (topS 22)) := ⟨rfl, rfl, rfl, by decide +kernel, rfl, by decide +kernel, by decide +kernel⟩
theorem ok_law_page {P : Program} {w : World} {K : PySem.W.Frag} {mg : Str → Option Value} {base : Heap} {f : Addr} {fd : FuncData} (Fx : L2.Fun K "_law_page" "_law_page" (topS 22) f fd) (C_law_signs : Cg P w K mg base 2 "_law_signs" (topS 19) A_law_signs (V_law_signs_k01 V_law_draw_k04_k04)) (C_law_draw : Cg P w K mg base 1 "_law_draw" (topS 17) A_law_draw V_law_draw_k04_k04) (C_law_rows : Cg P w K mg base 2 "_law_rows" (topS 20) A_law_rows (V_law_rows_k01 V_law_draw_k04_k04)) (C_law_norm : Cg P w K mg base 3 "_law_norm" (topS 21) A_law_norm (V_law_norm_k01 V_law_draw_k04_k04)) (m_tuple : mg "tuple" = none) (m_range : mg "range" = none) : FnG P w K mg base 4 f fd A_law_page (spF K 3 (V_law_page_k01 V_law_draw_k04_k04)) :=
  okF (k := 3) (O' := []) Fx sc_law_page rfl fun X _ _ _ _ _ _ _ _ hex hr hgd => by
    obtain ⟨cdv, L, A, outer, s, H, E, rfl, _⟩ := hex
    have hu := hr.units
    have hu1 := Nat.lt_of_le_of_lt (Nat.add_le_add_left (by decide : 1 ≤ 64) _) hu
    exact (ss_cons (s_set (O := []) (O' := []) (ps_set (i := 3) sc_law_page.nd rfl (by first | exact .inl rfl | exact .inr rfl) (d_cg C_law_signs hr (by decide) hgd rfl (ad_cons (d_var (by decide) (pv 0)) (ad_cons (d_if (t_eq hu (b_of_d (d_cg C_law_draw hr (by decide) hgd rfl (ad_cons (d_var (by decide) (pv 0)) (ad_cons d_int ad_nil)) (al_cons (al_cons al_nil)))) (b_of_d d_int)) (d_var (by decide) (pv 1)) (d_cg C_law_draw hr (by decide) hgd rfl (ad_cons (d_var (by decide) (pv 0)) (ad_cons (d_addA (b_var (pv 1)) (b_of_d d_int)) ad_nil)) (al_cons (al_cons al_nil)))) ad_nil)) (al_cons (al_cons al_nil))))) (ss_cons (s_set (O := []) (O' := []) (ps_set (i := 4) sc_law_page.nd rfl (by first | exact .inl rfl | exact .inr rfl) (d_cg C_law_rows hr (by decide) hgd rfl (ad_cons (d_var (by decide) (pv 0)) (ad_cons (d_var (by decide) (pv 3)) ad_nil)) (al_cons (al_cons al_nil))))) (ss_one (s_retO (O := []) (O' := []) (d_tup (ad_cons (d_var (by decide) (pv 4)) (ad_cons (d_callT call_tupA cd_toTup rfl m_tuple rfl (ab_cons (b_of_n (n_lc (i := 5) rfl sc_law_page.nd (i_range1 rfl m_range (b_of_d (d_cg C_law_draw hr (by decide) hgd rfl (ad_cons (d_var (by decide) (pv 0)) (ad_cons (d_addA (b_var (pv 2)) (b_of_d d_int)) ad_nil)) (al_cons (al_cons al_nil))))) (own := [("_law_k", 5)]) (blkOk_by (by rfl)) (fun _ _ _ _ _ => (pg_name (i := 5) sc_law_page.nd rfl (by first | exact .inl rfl | exact .inr rfl))) (fun _ _ _ _ _ => ts_nil) (fun _ _ _ _ _ => (d_cg C_law_norm hr (by decide) hgd rfl (ad_cons (d_var (by decide) (pv 0)) (ad_cons (d_var (by decide) (pv 3)) ad_nil)) (al_cons (al_cons al_nil)))))) ab_nil)) ad_nil)))))))

abbrev N_law_word : List Str := ["_law_tape_here", "_law_signs_here", "_law_bound", "_law_size", "_law_k"]
abbrev A_law_word : List Str := ["_law_tape_here", "_law_signs_here", "_law_bound"]
theorem sc_law_word : FnScope N_law_word A_law_word (defScope (topS 24)) := ⟨rfl, rfl, rfl, by decide +kernel, rfl, by decide +kernel, by decide +kernel⟩
theorem ok_law_word {P : Program} {w : World} {K : PySem.W.Frag} {mg : Str → Option Value} {base : Heap} {f : Addr} {fd : FuncData} (Fx : L2.Fun K "_law_word" "_law_word" (topS 24) f fd) (C_law_draw : Cg P w K mg base 1 "_law_draw" (topS 17) A_law_draw V_law_draw_k04_k04) (C_law_pick : Cg P w K mg base 2 "_law_pick" (topS 18) A_law_pick (V_law_pick_k01 V_law_draw_k04_k04)) (m_range : mg "range" = none) : FnG P w K mg base 3 f fd A_law_word (spF K 3 (V_law_word_k01 V_law_draw_k04_k04)) :=
  okF (k := 2) (O' := []) Fx sc_law_word rfl fun X _ _ _ _ _ _ _ _ hex hr hgd => by
    obtain ⟨cdv, L, A, outer, s, H, E, rfl, _⟩ := hex
    have hu := hr.units
    have hu1 := Nat.lt_of_le_of_lt (Nat.add_le_add_left (by decide : 1 ≤ 64) _) hu
    exact (ss_cons (s_if (O := []) (O' := []) (t_eq hu (b_var (pv 1)) (b_of_n (n_lst ad_nil))) (ss_one (s_retO (O := []) (O' := []) d_str)) ss_nil) (ss_cons (s_set (O := []) (O' := []) (ps_set (i := 3) sc_law_word.nd rfl (by first | exact .inl rfl | exact .inr rfl) (d_if (t_eq hu (b_of_d (d_cg C_law_draw hr (by decide) hgd rfl (ad_cons (d_var (by decide) (pv 0)) (ad_cons d_int ad_nil)) (al_cons (al_cons al_nil)))) (b_of_d d_int)) (d_sub (b_var (pv 2)) (b_of_d (d_cg C_law_draw hr (by decide) hgd rfl (ad_cons (d_var (by decide) (pv 0)) (ad_cons d_int ad_nil)) (al_cons (al_cons al_nil))))) (d_cg C_law_draw hr (by decide) hgd rfl (ad_cons (d_var (by decide) (pv 0)) (ad_cons (d_addA (b_var (pv 2)) (b_of_d d_int)) ad_nil)) (al_cons (al_cons al_nil)))))) (ss_one (s_retO (O := []) (O' := []) (d_join (b_of_d d_str) (b_of_n (n_lc (i := 4) rfl sc_law_word.nd (i_range1 rfl m_range (b_var (pv 3))) (own := [("_law_k", 4)]) (blkOk_by (by rfl)) (fun _ _ _ _ _ => (pg_name (i := 4) sc_law_word.nd rfl (by first | exact .inl rfl | exact .inr rfl))) (fun _ _ _ _ _ => ts_nil) (fun _ _ _ _ _ => (d_cg C_law_pick hr (by decide) hgd rfl (ad_cons (d_var (by decide) (pv 0)) (ad_cons (d_var (by decide) (pv 1)) ad_nil)) (al_cons (al_cons al_nil)))))))))))

abbrev N_law_letters : List Str := ["_law_page_here", "_law_row"]
abbrev A_law_letters : List Str := ["_law_page_here"]
theorem sc_law_letters : FnScope N_law_letters A_law_letters (defScope (topS 23)) := ⟨rfl, rfl, rfl, by decide +kernel, rfl, by decide +kernel, by decide +kernel⟩
theorem ok_law_letters {P : Program} {w : World} {K : PySem.W.Frag} {mg : Str → Option Value} {base : Heap} {f : Addr} {fd : FuncData} (Fx : L2.Fun K "_law_letters" "_law_letters" (topS 23) f fd) : FnG P w K mg base 1 f fd A_law_letters (spF K 1 V_law_letters_k01) :=
  okF (k := 0) (O' := []) Fx sc_law_letters rfl fun X _ _ _ _ _ _ _ _ hex hr hgd => by
    obtain ⟨cdv, L, A, outer, s, H, E, rfl, _⟩ := hex
    have hu := hr.units
    have hu1 := Nat.lt_of_le_of_lt (Nat.add_le_add_left (by decide : 1 ≤ 64) _) hu
    exact (ss_one (s_retO (O := []) (O' := []) (d_of_n (n_lc (i := 1) rfl sc_law_letters.nd (i_seq (d_ixA hu1 (b_var (pv 0)) (b_of_d d_int)) (pi_list (d_ixA hu1 (b_var (pv 0)) (b_of_d d_int))) (pi_tup (d_ixA hu1 (b_var (pv 0)) (b_of_d d_int))) (pi_str (d_ixA hu1 (b_var (pv 0)) (b_of_d d_int))) (pi_keys (d_ixA hu1 (b_var (pv 0)) (b_of_d d_int)))) (own := [("_law_row", 1)]) (blkOk_by (by rfl)) (fun _ _ _ _ _ => (pg_name (i := 1) sc_law_letters.nd rfl (by first | exact .inl rfl | exact .inr rfl))) (fun _ _ _ _ _ => ts_nil) (fun _ _ _ _ _ => (d_ixA hu1 (b_var (pv 1)) (b_of_d d_int)))))))

abbrev N_law_all_below : List Str := ["_law_rows_here", "_law_word_here", "_law_bound", "_law_table", "_law_found", "_law_waiting", "_law_one", "_law_k", "_law_lower"]
abbrev A_law_all_below : List Str := ["_law_rows_here", "_law_word_here", "_law_bound"]
theorem sc_law_all_below : FnScope N_law_all_below A_law_all_below (defScope (topS 27)) := ⟨rfl, rfl, rfl, by decide +kernel, rfl, by decide +kernel, by decide +kernel⟩
theorem ok_law_all_below {P : Program} {w : World} {K : PySem.W.Frag} {mg : Str → Option Value} {base : Heap} {f : Addr} {fd : FuncData} (Fx : L2.Fun K "_law_all_below" "_law_all_below" (topS 27) f fd) (m_dict : mg "dict" = none) (m_list : mg "list" = none) (m_len : mg "len" = none) (m_range : mg "range" = none) (m_sorted : mg "sorted" = none) : FnG P w K mg base 1 f fd A_law_all_below (spF K 3 V_law_all_below_k04_k04) :=
  okF (k := 0) (O' := [4, 5]) Fx sc_law_all_below rfl fun X _ _ _ _ _ _ _ _ hex hr hgd => by
    obtain ⟨cdv, L, A, outer, s, H, E, rfl, _⟩ := hex
    have hu := hr.units
    have hu1 := Nat.lt_of_le_of_lt (Nat.add_le_add_left (by decide : 1 ≤ 64) _) hu
    exact (ss_cons (s_par3 (O := []) false true true (ps_par3 (i := 3) (j := 4) (l := 5) rfl sc_law_all_below.nd rfl rfl rfl (by decide) (by decide) (by decide) rfl rfl rfl (by exact (pa_cons (px_d (d_of_n (n_callT (call_dctA rfl) cn_toDct rfl m_dict rfl (ab_cons (b_of_n (n_callT (call_lstA rfl) cn_toLst rfl m_list rfl (ab_cons (b_var (pv 0)) ab_nil))) ab_nil)))) (pa_cons (px_n n_dnil) (pa_cons (px_n (n_lst (ad_cons (d_var (by decide) (pv 1)) ad_nil))) pa_nil)))) rfl) [4, 5]) (ss_cons (s_while (L := []) (O := [4, 5]) FUEL PassesOwn.never (t_ne hu (b_var (pv 5)) (b_of_n (n_lst ad_nil))) (ss_cons (s_pop (O := [4, 5]) (O' := [4, 5]) (i := 5) (j := 6) (ps_set (i := 6) sc_law_all_below.nd rfl (by first | exact .inl rfl | exact .inr rfl) (pe_bm0 PySem.F.plainAttrs_list PySem.F.slot_list_pop PySem.F.type_list_pop mt_pop (pv 5)))) (ss_one (s_if (O := [4, 5]) (O' := [4, 5]) (t_notinA hu1 (b_var (pv 6)) (b_var (pv 4))) (ss_cons (s_dput (O := [4, 5]) (ps_dput hu1 (pv 4) (b_var (pv 6)) d_bl rfl)) (ss_cons (s_if (O := [4, 5]) (O' := [4, 5]) (t_gt (b_of_d (d_callB call_lenA cd_len rfl m_len PySem.boot_len (ab_cons (b_var (pv 4)) ab_nil))) (b_var (pv 2))) (ss_one (s_retO (O := [4, 5]) (O' := [4, 5]) d_non)) ss_nil) (ss_one (s_for (L := [4, 5]) (O := [4, 5]) PassesOwn.never rfl (i_range1 rfl m_range (b_of_d (d_callB call_lenA cd_len rfl m_len PySem.boot_len (ab_cons (b_var (pv 6)) ab_nil)))) (g_name (pg_name (i := 7) sc_law_all_below.nd rfl (by first | exact .inl rfl | exact .inr rfl))) (ss_cons (s_app (O := [4, 5]) (i := 5) (pe_bm PySem.F.plainAttrs_list PySem.F.slot_list_append PySem.F.type_list_append mt_append (pv 5) (pa_cons (d_addA (b_of_d (d_slice (b_var (pv 6)) o_none (o_some (b_var (pv 7))))) (b_of_d (d_slice (b_var (pv 6)) (o_some (b_of_d (d_addA (b_var (pv 7)) (b_of_d d_int)))) o_none))) pa_nil))) (ss_one (s_setN (O := [4, 5]) (O' := [4, 5]) (ps_set (i := 5) sc_law_all_below.nd rfl (by first | exact .inl rfl | exact .inr rfl) (n_cat (b_var (pv 5)) (b_of_n (n_lc (i := 8) rfl sc_law_all_below.nd (i_seq (d_ixA hu1 (b_var (pv 3)) (b_of_d (d_ixA hu1 (b_var (pv 6)) (b_var (pv 7))))) (pi_list (d_ixA hu1 (b_var (pv 3)) (b_of_d (d_ixA hu1 (b_var (pv 6)) (b_var (pv 7)))))) (pi_tup (d_ixA hu1 (b_var (pv 3)) (b_of_d (d_ixA hu1 (b_var (pv 6)) (b_var (pv 7)))))) (pi_str (d_ixA hu1 (b_var (pv 3)) (b_of_d (d_ixA hu1 (b_var (pv 6)) (b_var (pv 7)))))) (pi_keys (d_ixA hu1 (b_var (pv 3)) (b_of_d (d_ixA hu1 (b_var (pv 6)) (b_var (pv 7))))))) (own := [("_law_lower", 8)]) (blkOk_by (by rfl)) (fun _ _ _ _ _ => (pg_name (i := 8) sc_law_all_below.nd rfl (by first | exact .inl rfl | exact .inr rfl))) (fun _ _ _ _ _ => ts_nil) (fun _ _ _ _ _ => (d_addA (b_of_d (d_addA (b_of_d (d_slice (b_var (pv 6)) o_none (o_some (b_var (pv 7))))) (b_var (pv 8)))) (b_of_d (d_slice (b_var (pv 6)) (o_some (b_of_d (d_addA (b_var (pv 7)) (b_of_d d_int)))) o_none))))))))))))))) ss_nil)))) (ss_one (s_retO (O := [4, 5]) (O' := [4, 5]) (d_of_n (n_callB call_sortedA cn_sortedA rfl m_sorted rfl (ab_cons (b_of_n (n_callT (call_lstA rfl) cn_toLst rfl m_list rfl (ab_cons (b_var (pv 4)) ab_nil))) ab_nil)))))))

abbrev N_law_fitting : List Str := ["_law_tape_here", "_law_page_here", "_law_bound", "_law_many", "_law_word_here", "_law_lap"]
abbrev A_law_fitting : List Str := ["_law_tape_here", "_law_page_here", "_law_bound", "_law_many"]
theorem sc_law_fitting : FnScope N_law_fitting A_law_fitting (defScope (topS 28)) := ⟨rfl, rfl, rfl, by decide +kernel, rfl, by decide +kernel, by decide +kernel⟩
theorem ok_law_fitting {P : Program} {w : World} {K : PySem.W.Frag} {mg : Str → Option Value} {base : Heap} {f : Addr} {fd : FuncData} (Fx : L2.Fun K "_law_fitting" "_law_fitting" (topS 28) f fd) (C_law_word : Cg P w K mg base 3 "_law_word" (topS 24) A_law_word (V_law_word_k01 V_law_draw_k04_k04)) (C_law_letters : Cg P w K mg base 1 "_law_letters" (topS 23) A_law_letters V_law_letters_k01) (C_law_all_below : Cg P w K mg base 1 "_law_all_below" (topS 27) A_law_all_below V_law_all_below_k04_k04) (m_range : mg "range" = none) : FnG P w K mg base 4 f fd A_law_fitting (spF K 4 (V_law_fitting_k04_k04 V_law_draw_k04_k04)) :=
  okF (k := 3) (O' := []) Fx sc_law_fitting rfl fun X _ _ _ _ _ _ _ _ hex hr hgd => by
    obtain ⟨cdv, L, A, outer, s, H, E, rfl, _⟩ := hex
    have hu := hr.units
    have hu1 := Nat.lt_of_le_of_lt (Nat.add_le_add_left (by decide : 1 ≤ 64) _) hu
    exact (ss_cons (s_set (O := []) (O' := []) (ps_set (i := 4) sc_law_fitting.nd rfl (by first | exact .inl rfl | exact .inr rfl) (d_cg C_law_word hr (by decide) hgd rfl (ad_cons (d_var (by decide) (pv 0)) (ad_cons (d_cg C_law_letters hr (by decide) hgd rfl (ad_cons (d_var (by decide) (pv 1)) ad_nil) (al_cons al_nil)) (ad_cons (d_var (by decide) (pv 2)) ad_nil))) (al_cons (al_cons (al_cons al_nil)))))) (ss_cons (s_for (L := []) (O := []) PassesOwn.never rfl (i_range1 rfl m_range (b_var (pv 2))) (g_name (pg_name (i := 5) sc_law_fitting.nd rfl (by first | exact .inl rfl | exact .inr rfl))) (ss_one (s_if (O := []) (O' := []) (t_isN (b_of_d (d_cg C_law_all_below hr (by decide) hgd rfl (ad_cons (d_ixA hu1 (b_var (pv 1)) (b_of_d d_int)) (ad_cons (d_var (by decide) (pv 4)) (ad_cons (d_var (by decide) (pv 3)) ad_nil))) (al_cons (al_cons (al_cons al_nil))))) (b_of_d d_non)) (ss_one (s_set (O := []) (O' := []) (ps_set (i := 4) sc_law_fitting.nd rfl (by first | exact .inl rfl | exact .inr rfl) (d_slice (b_var (pv 4)) (o_some (b_of_d d_int)) o_none)))) ss_nil))) (ss_one (s_retO (O := []) (O' := []) (d_var (by decide) (pv 4))))))

abbrev Nletters_of : List Str := ["book", "entry"]
abbrev Aletters_of : List Str := ["book"]
theorem scletters_of : FnScope Nletters_of Aletters_of (defScope (topS 8)) := ⟨rfl, rfl, rfl, by decide +kernel, rfl, by decide +kernel, by decide +kernel⟩
theorem okletters_of {P : Program} {w : World} {K : PySem.W.Frag} {mg : Str → Option Value} {base : Heap} {f : Addr} {fd : FuncData} (Fx : L2.Fun K "letters_of" "letters_of" (topS 8) f fd) (m_tuple : mg "tuple" = none) : FnG P w K mg base 1 f fd Aletters_of (spF K 1 Vletters_of) :=
  okF (k := 0) (O' := []) Fx scletters_of rfl fun X _ _ _ _ _ _ _ _ hex hr hgd => by
    obtain ⟨cdv, L, A, outer, s, H, E, rfl, _⟩ := hex
    have hu := hr.units
    have hu1 := Nat.lt_of_le_of_lt (Nat.add_le_add_left (by decide : 1 ≤ 64) _) hu
    exact (ss_one (s_retO (O := []) (O' := []) (d_callT call_tupA cd_toTup rfl m_tuple rfl (ab_cons (b_of_n (n_lc (i := 1) rfl scletters_of.nd (i_seq (d_ixA hu1 (b_var (pv 0)) (b_of_d d_int)) (pi_list (d_ixA hu1 (b_var (pv 0)) (b_of_d d_int))) (pi_tup (d_ixA hu1 (b_var (pv 0)) (b_of_d d_int))) (pi_str (d_ixA hu1 (b_var (pv 0)) (b_of_d d_int))) (pi_keys (d_ixA hu1 (b_var (pv 0)) (b_of_d d_int)))) (own := [("entry", 1)]) (blkOk_by (by rfl)) (fun _ _ _ _ _ => (pg_name (i := 1) scletters_of.nd rfl (by first | exact .inl rfl | exact .inr rfl))) (fun _ _ _ _ _ => ts_nil) (fun _ _ _ _ _ => (d_ixA hu1 (b_var (pv 1)) (b_of_d d_int))))) ab_nil))))

abbrev Nis_thing : List Str := ["thing", "letter"]
abbrev Ais_thing : List Str := ["thing"]
theorem scis_thing : FnScope Nis_thing Ais_thing (defScope (topS 5)) := ⟨rfl, rfl, rfl, by decide +kernel, rfl, by decide +kernel, by decide +kernel⟩
theorem okis_thing {P : Program} {w : World} {K : PySem.W.Frag} {mg : Str → Option Value} {base : Heap} {f : Addr} {fd : FuncData} (Fx : L2.Fun K "is_thing" "is_thing" (topS 5) f fd) (m_isinstance : mg "isinstance" = none) (m_str : mg "str" = none) (m_all : mg "all" = none) : FnG P w K mg base 1 f fd Ais_thing (spF K 1 Vis_thing) :=
  okF (k := 0) (O' := []) Fx scis_thing rfl fun X _ _ _ _ _ _ _ _ hex hr hgd => by
    obtain ⟨cdv, L, A, outer, s, H, E, rfl, _⟩ := hex
    have hu := hr.units
    have hu1 := Nat.lt_of_le_of_lt (Nat.add_le_add_left (by decide : 1 ≤ 64) _) hu
    exact (ss_one (s_retO (O := []) (O' := []) (d_and (d_isi rfl m_isinstance rfl rfl m_str rfl (b_var (pv 0))) (d_one (d_callB (cr_all rfl) cd_all rfl m_all rfl (ab_cons (b_of_n (n_lc (i := 1) rfl scis_thing.nd (i_seq (d_var (by decide) (pv 0)) (pi_list (d_var (by decide) (pv 0))) (pi_tup (d_var (by decide) (pv 0))) (pi_str (d_var (by decide) (pv 0))) (pi_keys (d_var (by decide) (pv 0)))) (own := [("letter", 1)]) (blkOk_by (by rfl)) (fun _ _ _ _ _ => (pg_name (i := 1) scis_thing.nd rfl (by first | exact .inl rfl | exact .inr rfl))) (fun _ _ _ _ _ => ts_nil) (fun _ _ _ _ _ => (d_le_le (b_of_d d_str) (b_var (pv 1)) (b_of_d d_str))))) ab_nil))))))

abbrev Nhas_letters : List Str := ["book", "thing", "names", "letter"]
abbrev Ahas_letters : List Str := ["book", "thing"]
theorem schas_letters : FnScope Nhas_letters Ahas_letters (defScope (topS 9)) := ⟨rfl, rfl, rfl, by decide +kernel, rfl, by decide +kernel, by decide +kernel⟩
theorem okhas_letters {P : Program} {w : World} {K : PySem.W.Frag} {mg : Str → Option Value} {base : Heap} {f : Addr} {fd : FuncData} (Fx : L2.Fun K "has_letters" "has_letters" (topS 9) f fd) (Cletters_of : Cg P w K mg base 1 "letters_of" (topS 8) Aletters_of Vletters_of) (Cis_thing : Cg P w K mg base 1 "is_thing" (topS 5) Ais_thing Vis_thing) (m_all : mg "all" = none) : FnG P w K mg base 2 f fd Ahas_letters (spF K 2 Vhas_letters) :=
  okF (k := 1) (O' := []) Fx schas_letters rfl fun X _ _ _ _ _ _ _ _ hex hr hgd => by
    obtain ⟨cdv, L, A, outer, s, H, E, rfl, _⟩ := hex
    have hu := hr.units
    have hu1 := Nat.lt_of_le_of_lt (Nat.add_le_add_left (by decide : 1 ≤ 64) _) hu
    exact (ss_cons (s_set (O := []) (O' := []) (ps_set (i := 2) schas_letters.nd rfl (by first | exact .inl rfl | exact .inr rfl) (d_cg Cletters_of hr (by decide) hgd rfl (ad_cons (d_var (by decide) (pv 0)) ad_nil) (al_cons al_nil)))) (ss_one (s_retO (O := []) (O' := []) (d_and (d_cg Cis_thing hr (by decide) hgd rfl (ad_cons (d_var (by decide) (pv 1)) ad_nil) (al_cons al_nil)) (d_one (d_callB (cr_all rfl) cd_all rfl m_all rfl (ab_cons (b_of_n (n_lc (i := 3) rfl schas_letters.nd (i_seq (d_var (by decide) (pv 1)) (pi_list (d_var (by decide) (pv 1))) (pi_tup (d_var (by decide) (pv 1))) (pi_str (d_var (by decide) (pv 1))) (pi_keys (d_var (by decide) (pv 1)))) (own := [("letter", 3)]) (blkOk_by (by rfl)) (fun _ _ _ _ _ => (pg_name (i := 3) schas_letters.nd rfl (by first | exact .inl rfl | exact .inr rfl))) (fun _ _ _ _ _ => ts_nil) (fun _ _ _ _ _ => (d_inA hu1 (b_var (pv 3)) (b_var (pv 2)))))) ab_nil)))))))

abbrev Nneed_thing : List Str := ["book", "thing", "name"]
abbrev Aneed_thing : List Str := ["book", "thing", "name"]
theorem scneed_thing : FnScope Nneed_thing Aneed_thing (defScope (topS 12)) := ⟨rfl, rfl, rfl, by decide +kernel, rfl, by decide +kernel, by decide +kernel⟩
theorem okneed_thing {P : Program} {w : World} {K : PySem.W.Frag} {mg : Str → Option Value} {base : Heap} {f : Addr} {fd : FuncData} (Fx : L2.Fun K "need_thing" "need_thing" (topS 12) f fd) (Chas_letters : Cg P w K mg base 2 "has_letters" (topS 9) Ahas_letters Vhas_letters) : FnG P w K mg base 3 f fd Aneed_thing (spF K 3 Vneed_thing) :=
  okF (k := 2) (O' := []) Fx scneed_thing rfl fun X _ _ _ _ _ _ _ _ hex hr hgd => by
    obtain ⟨cdv, L, A, outer, s, H, E, rfl, _⟩ := hex
    have hu := hr.units
    have hu1 := Nat.lt_of_le_of_lt (Nat.add_le_add_left (by decide : 1 ≤ 64) _) hu
    exact (ss_one (s_if (O := []) (O' := []) (t_not (t_tru (b_of_d (d_cg Chas_letters hr (by decide) hgd rfl (ad_cons (d_var (by decide) (pv 0)) (ad_cons (d_var (by decide) (pv 1)) ad_nil)) (al_cons (al_cons al_nil)))))) (ss_one s_never) ss_nil))

abbrev Nletters_reached : List Str := ["lessers", "letter", "reached", "ahead", "lesser"]
abbrev Aletters_reached : List Str := ["lessers", "letter"]
theorem scletters_reached : FnScope Nletters_reached Aletters_reached (defScope (topS 6)) := ⟨rfl, rfl, rfl, by decide +kernel, rfl, by decide +kernel, by decide +kernel⟩
theorem okletters_reached {P : Program} {w : World} {K : PySem.W.Frag} {mg : Str → Option Value} {base : Heap} {f : Addr} {fd : FuncData} (Fx : L2.Fun K "letters_reached" "letters_reached" (topS 6) f fd) (m_list : mg "list" = none) (m_tuple : mg "tuple" = none) (m_sorted : mg "sorted" = none) : FnG P w K mg base 1 f fd Aletters_reached (spF K 2 Vletters_reached) :=
  okF (k := 0) (O' := [2, 3]) Fx scletters_reached rfl fun X _ _ _ _ _ _ _ _ hex hr hgd => by
    obtain ⟨cdv, L, A, outer, s, H, E, rfl, _⟩ := hex
    have hu := hr.units
    have hu1 := Nat.lt_of_le_of_lt (Nat.add_le_add_left (by decide : 1 ≤ 64) _) hu
    exact (ss_cons (s_setN (O := []) (O' := [2]) (ps_set (i := 2) scletters_reached.nd rfl (by first | exact .inl rfl | exact .inr rfl) n_dnil)) (ss_cons (s_setN (O := [2]) (O' := [2, 3]) (ps_set (i := 3) scletters_reached.nd rfl (by first | exact .inl rfl | exact .inr rfl) (n_callT (call_lstA rfl) cn_toLst rfl m_list rfl (ab_cons (b_of_d (d_ixA hu1 (b_var (pv 0)) (b_var (pv 1)))) ab_nil)))) (ss_cons (s_while (L := []) (O := [2, 3]) FUEL PassesOwn.never (t_tru (b_var (pv 3))) (ss_cons (s_pop (O := [2, 3]) (O' := [2, 3]) (i := 3) (j := 4) (ps_set (i := 4) scletters_reached.nd rfl (by first | exact .inl rfl | exact .inr rfl) (pe_bm0 PySem.F.plainAttrs_list PySem.F.slot_list_pop PySem.F.type_list_pop mt_pop (pv 3)))) (ss_one (s_if (O := [2, 3]) (O' := [2, 3]) (t_notinA hu1 (b_var (pv 4)) (b_var (pv 2))) (ss_cons (s_dput (O := [2, 3]) (ps_dput hu1 (pv 2) (b_var (pv 4)) d_bl rfl)) (ss_one (s_extA (O := [2, 3]) (i := 3) (pe_bm PySem.F.plainAttrs_list PySem.F.slot_list_extend PySem.F.type_list_extend mt_extA (pv 3) (pa_cons (b_of_d (d_ixA hu1 (b_var (pv 0)) (b_var (pv 4)))) pa_nil))))) ss_nil)))) (ss_one (s_retO (O := [2, 3]) (O' := [2, 3]) (d_callT call_tupA cd_toTup rfl m_tuple rfl (ab_cons (b_of_n (n_callB call_sortedA cn_sortedA rfl m_sorted rfl (ab_cons (b_of_n (n_callT (call_lstA rfl) cn_toLst rfl m_list rfl (ab_cons (b_var (pv 2)) ab_nil))) ab_nil))) ab_nil)))))))

abbrev Ndowns_of : List Str := ["book", "lessers", "letter"]
abbrev Adowns_of : List Str := ["book"]
theorem scdowns_of : FnScope Ndowns_of Adowns_of (defScope (topS 13)) := ⟨rfl, rfl, rfl, by decide +kernel, rfl, by decide +kernel, by decide +kernel⟩
theorem okdowns_of {P : Program} {w : World} {K : PySem.W.Frag} {mg : Str → Option Value} {base : Heap} {f : Addr} {fd : FuncData} (Fx : L2.Fun K "downs_of" "downs_of" (topS 13) f fd) (Cletters_reached : Cg P w K mg base 1 "letters_reached" (topS 6) Aletters_reached Vletters_reached) (m_dict : mg "dict" = none) : FnG P w K mg base 2 f fd Adowns_of (spF K 1 Vdowns_of) :=
  okF (k := 1) (O' := []) Fx scdowns_of rfl fun X _ _ _ _ _ _ _ _ hex hr hgd => by
    obtain ⟨cdv, L, A, outer, s, H, E, rfl, _⟩ := hex
    have hu := hr.units
    have hu1 := Nat.lt_of_le_of_lt (Nat.add_le_add_left (by decide : 1 ≤ 64) _) hu
    exact (ss_cons (s_set (O := []) (O' := []) (ps_set (i := 1) scdowns_of.nd rfl (by first | exact .inl rfl | exact .inr rfl) (d_of_n (n_callT (call_dctA rfl) cn_toDct rfl m_dict rfl (ab_cons (b_of_d (d_ixA hu1 (b_var (pv 0)) (b_of_d d_int))) ab_nil))))) (ss_one (s_retO (O := []) (O' := []) (d_of_n (n_dc (i := 2) rfl scdowns_of.nd (i_seq (d_var (by decide) (pv 1)) (pi_list (d_var (by decide) (pv 1))) (pi_tup (d_var (by decide) (pv 1))) (pi_str (d_var (by decide) (pv 1))) (pi_keys (d_var (by decide) (pv 1)))) (own := [("letter", 2)]) (blkOk_by (by rfl)) (fun _ _ _ _ _ => (pg_name (i := 2) scdowns_of.nd rfl (by first | exact .inl rfl | exact .inr rfl))) (fun _ _ _ _ _ => ts_nil) (fun _ _ _ _ _ => (d_var (by decide) (pv 2))) (fun _ _ _ _ _ => (d_addA (b_of_d (d_tup (ad_cons (d_var (by decide) (pv 2)) ad_nil))) (b_of_d (d_cg Cletters_reached hr (by decide) hgd rfl (ad_cons (d_var (by decide) (pv 1)) (ad_cons (d_var (by decide) (pv 2)) ad_nil)) (al_cons (al_cons al_nil)))))))))))

abbrev Nthings_at_most : List Str := ["book", "x", "downs", "found", "letter", "thing", "lesser"]
abbrev Athings_at_most : List Str := ["book", "x"]
theorem scthings_at_most : FnScope Nthings_at_most Athings_at_most (defScope (topS 11)) := ⟨rfl, rfl, rfl, by decide +kernel, rfl, by decide +kernel, by decide +kernel⟩
theorem okthings_at_most {P : Program} {w : World} {K : PySem.W.Frag} {mg : Str → Option Value} {base : Heap} {f : Addr} {fd : FuncData} (Fx : L2.Fun K "things_at_most" "things_at_most" (topS 11) f fd) (Cneed_thing : Cg P w K mg base 3 "need_thing" (topS 12) Aneed_thing Vneed_thing) (Cdowns_of : Cg P w K mg base 2 "downs_of" (topS 13) Adowns_of Vdowns_of) (m_list : mg "list" = none) (m_tuple : mg "tuple" = none) (m_sorted : mg "sorted" = none) : FnG P w K mg base 4 f fd Athings_at_most (spF K 2 Vthings_at_most) :=
  okF (k := 3) (O' := [3]) Fx scthings_at_most rfl fun X _ _ _ _ _ _ _ _ hex hr hgd => by
    obtain ⟨cdv, L, A, outer, s, H, E, rfl, _⟩ := hex
    have hu := hr.units
    have hu1 := Nat.lt_of_le_of_lt (Nat.add_le_add_left (by decide : 1 ≤ 64) _) hu
    exact (ss_cons (s_expr (O := []) (b_of_d (d_cg Cneed_thing hr (by decide) hgd rfl (ad_cons (d_var (by decide) (pv 0)) (ad_cons (d_var (by decide) (pv 1)) (ad_cons d_str ad_nil))) (al_cons (al_cons (al_cons al_nil)))))) (ss_cons (s_set (O := []) (O' := []) (ps_set (i := 2) scthings_at_most.nd rfl (by first | exact .inl rfl | exact .inr rfl) (d_cg Cdowns_of hr (by decide) hgd rfl (ad_cons (d_var (by decide) (pv 0)) ad_nil) (al_cons al_nil)))) (ss_cons (s_setN (O := []) (O' := [3]) (ps_set (i := 3) scthings_at_most.nd rfl (by first | exact .inl rfl | exact .inr rfl) (n_disp [((fC (.str "")), (fC (.bl true)))] (pps_cons d_str d_bl pps_nil)))) (ss_cons (s_for (L := []) (O := [3]) PassesOwn.never rfl (i_seq (d_var (by decide) (pv 1)) (pi_list (d_var (by decide) (pv 1))) (pi_tup (d_var (by decide) (pv 1))) (pi_str (d_var (by decide) (pv 1))) (pi_keys (d_var (by decide) (pv 1)))) (g_name (pg_name (i := 4) scthings_at_most.nd rfl (by first | exact .inl rfl | exact .inr rfl))) (ss_one (s_for (L := [3]) (O := [3]) PassesOwn.never rfl (i_seq (d_of_n (n_callT (call_lstA rfl) cn_toLst rfl m_list rfl (ab_cons (b_var (pv 3)) ab_nil))) (pi_list (d_of_n (n_callT (call_lstA rfl) cn_toLst rfl m_list rfl (ab_cons (b_var (pv 3)) ab_nil)))) (pi_tup (d_of_n (n_callT (call_lstA rfl) cn_toLst rfl m_list rfl (ab_cons (b_var (pv 3)) ab_nil)))) (pi_str (d_of_n (n_callT (call_lstA rfl) cn_toLst rfl m_list rfl (ab_cons (b_var (pv 3)) ab_nil)))) (pi_keys (d_of_n (n_callT (call_lstA rfl) cn_toLst rfl m_list rfl (ab_cons (b_var (pv 3)) ab_nil))))) (g_name (pg_name (i := 5) scthings_at_most.nd rfl (by first | exact .inl rfl | exact .inr rfl))) (ss_one (s_for (L := [3]) (O := [3]) PassesOwn.never rfl (i_seq (d_ixA hu1 (b_var (pv 2)) (b_var (pv 4))) (pi_list (d_ixA hu1 (b_var (pv 2)) (b_var (pv 4)))) (pi_tup (d_ixA hu1 (b_var (pv 2)) (b_var (pv 4)))) (pi_str (d_ixA hu1 (b_var (pv 2)) (b_var (pv 4)))) (pi_keys (d_ixA hu1 (b_var (pv 2)) (b_var (pv 4))))) (g_name (pg_name (i := 6) scthings_at_most.nd rfl (by first | exact .inl rfl | exact .inr rfl))) (ss_one (s_dput (O := [3]) (ps_dput hu1 (pv 3) (b_of_d (d_addA (b_var (pv 5)) (b_var (pv 6)))) d_bl rfl)))))))) (ss_one (s_retO (O := [3]) (O' := [3]) (d_callT call_tupA cd_toTup rfl m_tuple rfl (ab_cons (b_of_n (n_callB call_sortedA cn_sortedA rfl m_sorted rfl (ab_cons (b_of_n (n_callT (call_lstA rfl) cn_toLst rfl m_list rfl (ab_cons (b_var (pv 3)) ab_nil))) ab_nil))) ab_nil))))))))

abbrev Ncomes_from : List Str := ["downs", "u", "v", "place", "letter"]
abbrev Acomes_from : List Str := ["downs", "u", "v"]
theorem sccomes_from : FnScope Ncomes_from Acomes_from (defScope (topS 14)) := ⟨rfl, rfl, rfl, by decide +kernel, rfl, by decide +kernel, by decide +kernel⟩
theorem okcomes_from {P : Program} {w : World} {K : PySem.W.Frag} {mg : Str → Option Value} {base : Heap} {f : Addr} {fd : FuncData} (Fx : L2.Fun K "comes_from" "comes_from" (topS 14) f fd) (m_len : mg "len" = none) : FnG P w K mg base 1 f fd Acomes_from (spF K 3 Vcomes_from) :=
  okF (k := 0) (O' := []) Fx sccomes_from rfl fun X _ _ _ _ _ _ _ _ hex hr hgd => by
    obtain ⟨cdv, L, A, outer, s, H, E, rfl, _⟩ := hex
    have hu := hr.units
    have hu1 := Nat.lt_of_le_of_lt (Nat.add_le_add_left (by decide : 1 ≤ 64) _) hu
    exact (ss_cons (s_set (O := []) (O' := []) (ps_set (i := 3) sccomes_from.nd rfl (by first | exact .inl rfl | exact .inr rfl) d_int)) (ss_cons (s_for (L := []) (O := []) PassesOwn.never rfl (i_seq (d_var (by decide) (pv 2)) (pi_list (d_var (by decide) (pv 2))) (pi_tup (d_var (by decide) (pv 2))) (pi_str (d_var (by decide) (pv 2))) (pi_keys (d_var (by decide) (pv 2)))) (g_name (pg_name (i := 4) sccomes_from.nd rfl (by first | exact .inl rfl | exact .inr rfl))) (ss_one (s_if (O := []) (O' := []) (t_bool (w_and (t_lt (b_var (pv 3)) (b_of_d (d_callB call_lenA cd_len rfl m_len PySem.boot_len (ab_cons (b_var (pv 1)) ab_nil)))) (w_and1 (t_inA hu1 (b_of_d (d_ixA hu1 (b_var (pv 1)) (b_var (pv 3)))) (b_of_d (d_ixA hu1 (b_var (pv 0)) (b_var (pv 4)))))))) (ss_one (s_set (O := []) (O' := []) (ps_set (i := 3) sccomes_from.nd rfl (by first | exact .inl rfl | exact .inr rfl) (d_addA (b_var (pv 3)) (b_of_d d_int))))) ss_nil))) (ss_one (s_retO (O := []) (O' := []) (d_eq hu (b_var (pv 3)) (b_of_d (d_callB call_lenA cd_len rfl m_len PySem.boot_len (ab_cons (b_var (pv 1)) ab_nil))))))))

abbrev Nis_at_most : List Str := ["book", "u", "v"]
abbrev Ais_at_most : List Str := ["book", "u", "v"]
theorem scis_at_most : FnScope Nis_at_most Ais_at_most (defScope (topS 10)) := ⟨rfl, rfl, rfl, by decide +kernel, rfl, by decide +kernel, by decide +kernel⟩
theorem okis_at_most {P : Program} {w : World} {K : PySem.W.Frag} {mg : Str → Option Value} {base : Heap} {f : Addr} {fd : FuncData} (Fx : L2.Fun K "is_at_most" "is_at_most" (topS 10) f fd) (Cneed_thing : Cg P w K mg base 3 "need_thing" (topS 12) Aneed_thing Vneed_thing) (Ccomes_from : Cg P w K mg base 1 "comes_from" (topS 14) Acomes_from Vcomes_from) (Cdowns_of : Cg P w K mg base 2 "downs_of" (topS 13) Adowns_of Vdowns_of) : FnG P w K mg base 4 f fd Ais_at_most (spF K 3 Vis_at_most) :=
  okF (k := 3) (O' := []) Fx scis_at_most rfl fun X _ _ _ _ _ _ _ _ hex hr hgd => by
    obtain ⟨cdv, L, A, outer, s, H, E, rfl, _⟩ := hex
    have hu := hr.units
    have hu1 := Nat.lt_of_le_of_lt (Nat.add_le_add_left (by decide : 1 ≤ 64) _) hu
    exact (ss_cons (s_expr (O := []) (b_of_d (d_cg Cneed_thing hr (by decide) hgd rfl (ad_cons (d_var (by decide) (pv 0)) (ad_cons (d_var (by decide) (pv 1)) (ad_cons d_str ad_nil))) (al_cons (al_cons (al_cons al_nil)))))) (ss_cons (s_expr (O := []) (b_of_d (d_cg Cneed_thing hr (by decide) hgd rfl (ad_cons (d_var (by decide) (pv 0)) (ad_cons (d_var (by decide) (pv 2)) (ad_cons d_str ad_nil))) (al_cons (al_cons (al_cons al_nil)))))) (ss_one (s_retO (O := []) (O' := []) (d_cg Ccomes_from hr (by decide) hgd rfl (ad_cons (d_cg Cdowns_of hr (by decide) hgd rfl (ad_cons (d_var (by decide) (pv 0)) ad_nil) (al_cons al_nil)) (ad_cons (d_var (by decide) (pv 1)) (ad_cons (d_var (by decide) (pv 2)) ad_nil))) (al_cons (al_cons (al_cons al_nil))))))))

abbrev N_law_below : List Str := ["_law_rows_here", "_law_sign", "_law_table", "_law_found", "_law_waiting", "_law_lower"]
abbrev A_law_below : List Str := ["_law_rows_here", "_law_sign"]
theorem sc_law_below : FnScope N_law_below A_law_below (defScope (topS 25)) := ⟨rfl, rfl, rfl, by decide +kernel, rfl, by decide +kernel, by decide +kernel⟩
theorem ok_law_below {P : Program} {w : World} {K : PySem.W.Frag} {mg : Str → Option Value} {base : Heap} {f : Addr} {fd : FuncData} (Fx : L2.Fun K "_law_below" "_law_below" (topS 25) f fd) (m_dict : mg "dict" = none) (m_list : mg "list" = none) (m_tuple : mg "tuple" = none) (m_sorted : mg "sorted" = none) : FnG P w K mg base 1 f fd A_law_below (spF K 2 V_law_below_k03) :=
  okF (k := 0) (O' := [3, 4]) Fx sc_law_below rfl fun X _ _ _ _ _ _ _ _ hex hr hgd => by
    obtain ⟨cdv, L, A, outer, s, H, E, rfl, _⟩ := hex
    have hu := hr.units
    have hu1 := Nat.lt_of_le_of_lt (Nat.add_le_add_left (by decide : 1 ≤ 64) _) hu
    exact (ss_cons (s_par3 (O := []) false true true (ps_par3 (i := 2) (j := 3) (l := 4) rfl sc_law_below.nd rfl rfl rfl (by decide) (by decide) (by decide) rfl rfl rfl (by exact (pa_cons (px_d (d_of_n (n_callT (call_dctA rfl) cn_toDct rfl m_dict rfl (ab_cons (b_of_n (n_callT (call_lstA rfl) cn_toLst rfl m_list rfl (ab_cons (b_var (pv 0)) ab_nil))) ab_nil)))) (pa_cons (px_n (n_lst ad_nil)) (pa_cons (px_n (n_lst (ad_cons (d_var (by decide) (pv 1)) ad_nil))) pa_nil)))) rfl) [3, 4]) (ss_cons (s_while (L := []) (O := [3, 4]) FUEL PassesOwn.never (t_ne hu (b_var (pv 4)) (b_of_n (n_lst ad_nil))) (ss_one (s_forX (L := [3, 4]) (O := [3, 4]) PassesOwn.never rfl (i_seqX (pi_list (x_ixPop (O := [3, 4]) (i := 4) hu1 (d_var (by decide) (pv 2)) (pe_bm0 PySem.F.plainAttrs_list PySem.F.slot_list_pop PySem.F.type_list_pop mt_pop (pv 4)))) (pi_tup (x_ixPop (O := [3, 4]) (i := 4) hu1 (d_var (by decide) (pv 2)) (pe_bm0 PySem.F.plainAttrs_list PySem.F.slot_list_pop PySem.F.type_list_pop mt_pop (pv 4)))) (pi_str (x_ixPop (O := [3, 4]) (i := 4) hu1 (d_var (by decide) (pv 2)) (pe_bm0 PySem.F.plainAttrs_list PySem.F.slot_list_pop PySem.F.type_list_pop mt_pop (pv 4))))) (g_name (pg_name (i := 5) sc_law_below.nd rfl (by first | exact .inl rfl | exact .inr rfl))) (ss_one (s_if (O := [3, 4]) (O' := [3, 4]) (t_notinA hu1 (b_var (pv 5)) (b_var (pv 3))) (ss_cons (s_app (O := [3, 4]) (i := 3) (pe_bm PySem.F.plainAttrs_list PySem.F.slot_list_append PySem.F.type_list_append mt_append (pv 3) (pa_cons (d_var (by decide) (pv 5)) pa_nil))) (ss_one (s_app (O := [3, 4]) (i := 4) (pe_bm PySem.F.plainAttrs_list PySem.F.slot_list_append PySem.F.type_list_append mt_append (pv 4) (pa_cons (d_var (by decide) (pv 5)) pa_nil))))) ss_nil))))) (ss_one (s_retO (O := [3, 4]) (O' := [3, 4]) (d_callT call_tupA cd_toTup rfl m_tuple rfl (ab_cons (b_of_n (n_callB call_sortedA cn_sortedA rfl m_sorted rfl (ab_cons (b_var (pv 3)) ab_nil))) ab_nil))))))

abbrev N_law_embeds : List Str := ["_law_rows_here", "_law_one", "_law_two", "_law_spots", "_law_sign", "_law_later", "_law_k", "_law_fits", "_law_spot"]
abbrev A_law_embeds : List Str := ["_law_rows_here", "_law_one", "_law_two"]
theorem sc_law_embeds : FnScope N_law_embeds A_law_embeds (defScope (topS 29)) := ⟨rfl, rfl, rfl, by decide +kernel, rfl, by decide +kernel, by decide +kernel⟩
theorem ok_law_embeds {P : Program} {w : World} {K : PySem.W.Frag} {mg : Str → Option Value} {base : Heap} {f : Addr} {fd : FuncData} (Fx : L2.Fun K "_law_embeds" "_law_embeds" (topS 29) f fd) (C_law_below : Cg P w K mg base 1 "_law_below" (topS 25) A_law_below V_law_below_k03) (m_range : mg "range" = none) (m_len : mg "len" = none) : FnG P w K mg base 2 f fd A_law_embeds (spF K 3 V_law_embeds_k04) :=
  okF (k := 1) (O' := []) Fx sc_law_embeds rfl fun X _ _ _ _ _ _ _ _ hex hr hgd => by
    obtain ⟨cdv, L, A, outer, s, H, E, rfl, _⟩ := hex
    have hu := hr.units
    have hu1 := Nat.lt_of_le_of_lt (Nat.add_le_add_left (by decide : 1 ≤ 64) _) hu
    exact (ss_cons (s_set (O := []) (O' := []) (ps_set (i := 3) sc_law_embeds.nd rfl (by first | exact .inl rfl | exact .inr rfl) (d_of_n (n_lst (ad_cons d_int ad_nil))))) (ss_cons (s_for (L := []) (O := []) PassesOwn.never rfl (i_seq (d_var (by decide) (pv 1)) (pi_list (d_var (by decide) (pv 1))) (pi_tup (d_var (by decide) (pv 1))) (pi_str (d_var (by decide) (pv 1))) (pi_keys (d_var (by decide) (pv 1)))) (g_name (pg_name (i := 4) sc_law_embeds.nd rfl (by first | exact .inl rfl | exact .inr rfl))) (ss_cons (s_setN (O := []) (O' := [5]) (ps_set (i := 5) sc_law_embeds.nd rfl (by first | exact .inl rfl | exact .inr rfl) (n_lst ad_nil))) (ss_cons (s_for (L := []) (O := [5]) PassesOwn.never rfl (i_range1 rfl m_range (b_of_d (d_callB call_lenA cd_len rfl m_len PySem.boot_len (ab_cons (b_var (pv 2)) ab_nil)))) (g_name (pg_name (i := 6) sc_law_embeds.nd rfl (by first | exact .inl rfl | exact .inr rfl))) (ss_cons (s_set (O := [5]) (O' := [5]) (ps_set (i := 7) sc_law_embeds.nd rfl (by first | exact .inl rfl | exact .inr rfl) (d_or (d_eq hu (b_var (pv 4)) (b_of_d (d_ixA hu1 (b_var (pv 2)) (b_var (pv 6))))) (d_one (d_inA hu1 (b_var (pv 4)) (b_of_d (d_cg C_law_below hr (by decide) hgd rfl (ad_cons (d_var (by decide) (pv 0)) (ad_cons (d_ixA hu1 (b_var (pv 2)) (b_var (pv 6))) ad_nil)) (al_cons (al_cons al_nil))))))))) (ss_one (s_if (O := [5]) (O' := [5]) (t_bool (w_and (t_tru (b_var (pv 7))) (w_and1 (t_ne hu (b_of_n (n_lc (i := 8) rfl sc_law_embeds.nd (i_seq (d_var (by decide) (pv 3)) (pi_list (d_var (by decide) (pv 3))) (pi_tup (d_var (by decide) (pv 3))) (pi_str (d_var (by decide) (pv 3))) (pi_keys (d_var (by decide) (pv 3)))) (own := [("_law_spot", 8)]) (blkOk_by (by rfl)) (fun _ _ _ _ _ => (pg_name (i := 8) sc_law_embeds.nd rfl (by first | exact .inl rfl | exact .inr rfl))) (fun _ _ _ _ _ => (ts_one (t_le (b_var (pv 8)) (b_var (pv 6))))) (fun _ _ _ _ _ => (d_var (by decide) (pv 8))))) (b_of_n (n_lst ad_nil)))))) (ss_one (s_app (O := [5]) (i := 5) (pe_bm PySem.F.plainAttrs_list PySem.F.slot_list_append PySem.F.type_list_append mt_append (pv 5) (pa_cons (d_addA (b_var (pv 6)) (b_of_d d_int)) pa_nil)))) ss_nil)))) (ss_one (s_weak (O := []) (O'' := [5]) (s_set (O := []) (O' := []) (ps_set (i := 3) sc_law_embeds.nd rfl (by first | exact .inl rfl | exact .inr rfl) (d_var (by decide) (pv 5))))))))) (ss_one (s_retO (O := []) (O' := []) (d_ne hu (b_var (pv 3)) (b_of_n (n_lst ad_nil)))))))

abbrev N_law_long : List Str := ["_law_tape_here", "_law_page_here", "_law_signs_here", "_law_one", "_law_two", "_law_sign"]
abbrev A_law_long : List Str := ["_law_tape_here", "_law_page_here"]
theorem sc_law_long : FnScope N_law_long A_law_long (defScope (topS 30)) := ⟨rfl, rfl, rfl, by decide +kernel, rfl, by decide +kernel, by decide +kernel⟩
theorem ok_law_long {P : Program} {w : World} {K : PySem.W.Frag} {mg : Str → Option Value} {base : Heap} {f : Addr} {fd : FuncData} (Fx : L2.Fun K "_law_long" "_law_long" (topS 30) f fd) (C_law_letters : Cg P w K mg base 1 "_law_letters" (topS 23) A_law_letters V_law_letters_k01) (C_law_word : Cg P w K mg base 3 "_law_word" (topS 24) A_law_word (V_law_word_k01 V_law_draw_k04_k04)) (C_law_pick : Cg P w K mg base 2 "_law_pick" (topS 18) A_law_pick (V_law_pick_k01 V_law_draw_k04_k04)) : FnG P w K mg base 4 f fd A_law_long (spF K 2 (V_law_long_k04 V_law_draw_k04_k04)) :=
  okF (k := 3) (O' := []) Fx sc_law_long rfl fun X _ _ _ _ _ _ _ _ hex hr hgd => by
    obtain ⟨cdv, L, A, outer, s, H, E, rfl, _⟩ := hex
    have hu := hr.units
    have hu1 := Nat.lt_of_le_of_lt (Nat.add_le_add_left (by decide : 1 ≤ 64) _) hu
    exact (ss_cons (s_set (O := []) (O' := []) (ps_set (i := 2) sc_law_long.nd rfl (by first | exact .inl rfl | exact .inr rfl) (d_cg C_law_letters hr (by decide) hgd rfl (ad_cons (d_var (by decide) (pv 1)) ad_nil) (al_cons al_nil)))) (ss_cons (s_par2 (O := []) false false (ps_par (i := 3) (j := 4) rfl sc_law_long.nd rfl rfl (by decide) rfl rfl (by exact (pa_cons (px_d (d_cg C_law_word hr (by decide) hgd rfl (ad_cons (d_var (by decide) (pv 0)) (ad_cons (d_var (by decide) (pv 2)) (ad_cons d_int ad_nil))) (al_cons (al_cons (al_cons al_nil))))) (pa_cons (px_d d_str) pa_nil))) rfl) []) (ss_cons (s_for (L := []) (O := []) PassesOwn.never rfl (i_seq (d_var (by decide) (pv 3)) (pi_list (d_var (by decide) (pv 3))) (pi_tup (d_var (by decide) (pv 3))) (pi_str (d_var (by decide) (pv 3))) (pi_keys (d_var (by decide) (pv 3)))) (g_name (pg_name (i := 5) sc_law_long.nd rfl (by first | exact .inl rfl | exact .inr rfl))) (ss_one (s_set (O := []) (O' := []) (ps_set (i := 4) sc_law_long.nd rfl (by first | exact .inl rfl | exact .inr rfl) (d_addA (b_of_d (d_addA (b_var (pv 4)) (b_of_d (d_cg C_law_word hr (by decide) hgd rfl (ad_cons (d_var (by decide) (pv 0)) (ad_cons (d_var (by decide) (pv 2)) (ad_cons d_int ad_nil))) (al_cons (al_cons (al_cons al_nil))))))) (b_of_d (d_cg C_law_pick hr (by decide) hgd rfl (ad_cons (d_var (by decide) (pv 0)) (ad_cons (d_of_n (n_lst (ad_cons (d_var (by decide) (pv 5)) (ad_cons (d_var (by decide) (pv 5)) (ad_cons (d_var (by decide) (pv 5)) (ad_cons (d_cg C_law_pick hr (by decide) hgd rfl (ad_cons (d_var (by decide) (pv 0)) (ad_cons (d_var (by decide) (pv 2)) ad_nil)) (al_cons (al_cons al_nil))) ad_nil)))))) ad_nil)) (al_cons (al_cons al_nil))))))))) (ss_one (s_retO (O := []) (O' := []) (d_tup (ad_cons (d_var (by decide) (pv 3)) (ad_cons (d_var (by decide) (pv 4)) ad_nil))))))))

abbrev Nlaw : List Str := ["_law_script", "_law_tape_here", "_law_lap", "_law_page_here", "_law_kept", "_law_word_here", "_law_due", "_law_some", "_law_one", "_law_fits", "_law_k", "_law_two", "_law_lone", "_law_told"]
abbrev Alaw : List Str := ["_law_script"]
theorem sclaw : FnScope Nlaw Alaw (defScope (topS 31)) := ⟨rfl, rfl, rfl, by decide +kernel, rfl, by decide +kernel, by decide +kernel⟩
theorem oklaw {P : Program} {w : World} {K : PySem.W.Frag} {mg : Str → Option Value} {base : Heap} {f : Addr} {fd : FuncData} (Fx : L2.Fun K "law" "law" (topS 31) f fd) (C_law_tape : Cg P w K mg base 1 "_law_tape" (topS 16) A_law_tape V_law_tape_k01) (C_law_page : Cg P w K mg base 4 "_law_page" (topS 22) A_law_page (V_law_page_k01 V_law_draw_k04_k04)) (C_law_fitting : Cg P w K mg base 4 "_law_fitting" (topS 28) A_law_fitting (V_law_fitting_k04_k04 V_law_draw_k04_k04)) (C_law_all_below : Cg P w K mg base 1 "_law_all_below" (topS 27) A_law_all_below V_law_all_below_k04_k04) (Cthings_at_most : Cg P w K mg base 4 "things_at_most" (topS 11) Athings_at_most Vthings_at_most) (C_law_word : Cg P w K mg base 3 "_law_word" (topS 24) A_law_word (V_law_word_k01 V_law_draw_k04_k04)) (C_law_letters : Cg P w K mg base 1 "_law_letters" (topS 23) A_law_letters V_law_letters_k01) (Cis_at_most : Cg P w K mg base 4 "is_at_most" (topS 10) Ais_at_most Vis_at_most) (C_law_embeds : Cg P w K mg base 2 "_law_embeds" (topS 29) A_law_embeds V_law_embeds_k04) (C_law_long : Cg P w K mg base 4 "_law_long" (topS 30) A_law_long (V_law_long_k04 V_law_draw_k04_k04)) (m_range : mg "range" = none) (m_repr : mg "repr" = none) (m_tuple : mg "tuple" = none)
    (hL : ∀ js : List Int, js.length ≤ 63 → ∃ ks l y z u d, fourD ks l y z u = some d ∧ Elaw_k04 (some (.scr js) :: List.replicate 13 none) [] = some (d, []) ∧ ∀ p, ∃ s', Flaw_k04 ((some (.scr js) :: List.replicate 13 none).set 1 (some (.ref p))) [(p, d)] = some (.rt (.bl true), s')) : FnG P w K mg base 5 f fd Alaw (spLaw K) :=
  ok_lawS (k := 4) Fx sclaw (by decide) (fun X hex hr hgd => by
    obtain ⟨cdv, A, outer, s, H, E, rfl⟩ := hex
    have hu := hr.units
    have hu1 := Nat.lt_of_le_of_lt (Nat.add_le_add_left (by decide : 1 ≤ 64) _) hu
    exact (ss_share (O' := [13]) (ps_set (i := 1) sclaw.nd rfl (by first | exact .inl rfl | exact .inr rfl) (d_cg C_law_tape hr (by decide) hgd rfl (ad_cons (d_var (by decide) (pv 0)) ad_nil) (al_cons al_nil))) (ss_cons (s_for (L := []) (O := []) PassesOwn.never rfl (i_range1 rfl m_range (b_of_d d_int)) (g_name (pg_name (i := 2) sclaw.nd rfl (by first | exact .inl rfl | exact .inr rfl))) (ss_cons (s_set (O := []) (O' := []) (ps_set (i := 3) sclaw.nd rfl (by first | exact .inl rfl | exact .inr rfl) (d_cg C_law_page hr (by decide) hgd rfl (ad_cons (d_var (by decide) (pv 1)) (ad_cons d_int (ad_cons d_int ad_nil))) (al_cons (al_cons (al_cons al_nil)))))) (ss_cons (s_par2 (O := []) false false (ps_par (i := 4) (j := 5) rfl sclaw.nd rfl rfl (by decide) rfl rfl (by exact (pa_cons (px_d (d_callB (call_reprD hgd hu) cd_repr rfl m_repr rfl (ab_cons (b_var (pv 3)) ab_nil))) (pa_cons (px_d (d_cg C_law_fitting hr (by decide) hgd rfl (ad_cons (d_var (by decide) (pv 1)) (ad_cons (d_var (by decide) (pv 3)) (ad_cons d_int (ad_cons d_int ad_nil)))) (al_cons (al_cons (al_cons (al_cons al_nil)))))) pa_nil))) rfl) []) (ss_cons (s_set (O := []) (O' := []) (ps_set (i := 6) sclaw.nd rfl (by first | exact .inl rfl | exact .inr rfl) (d_cg C_law_all_below hr (by decide) hgd rfl (ad_cons (d_ixA hu1 (b_var (pv 3)) (b_of_d d_int)) (ad_cons (d_var (by decide) (pv 5)) (ad_cons d_int ad_nil))) (al_cons (al_cons (al_cons al_nil)))))) (ss_cons (s_if (O := []) (O' := []) (t_ne hu (b_of_d (d_callB (call_reprD hgd hu) cd_repr rfl m_repr rfl (ab_cons (b_of_d (d_cg Cthings_at_most hr (by decide) hgd rfl (ad_cons (d_var (by decide) (pv 3)) (ad_cons (d_var (by decide) (pv 5)) ad_nil)) (al_cons (al_cons al_nil)))) ab_nil))) (b_of_d (d_callB (call_reprD hgd hu) cd_repr rfl m_repr rfl (ab_cons (b_of_d (d_callT call_tupA cd_toTup rfl m_tuple rfl (ab_cons (b_var (pv 6)) ab_nil))) ab_nil)))) (ss_one (s_retO (O := []) (O' := []) d_bl)) ss_nil) (ss_cons (s_set (O := []) (O' := []) (a_d_of_n (a_lc (z := 7) (i := 10) rfl sclaw.nd rfl rfl rfl (i_range1 rfl m_range (b_of_d d_int)) (own := [("_law_k", 10)]) (blkOk_by (by rfl)) (fun _ _ _ _ _ => (pg_name (i := 10) sclaw.nd rfl (by first | exact .inl rfl | exact .inr rfl))) (fun _ _ _ _ _ => ts_nil) (fun _ _ _ _ _ => (d_cg C_law_word hr (by decide) hgd rfl (ad_cons (d_var (by decide) (pv 1)) (ad_cons (d_cg C_law_letters hr (by decide) hgd rfl (ad_cons (d_var (by decide) (pv 3)) ad_nil) (al_cons al_nil)) (ad_cons d_int ad_nil))) (al_cons (al_cons (al_cons al_nil)))))))) (ss_cons (s_for (L := []) (O := []) PassesOwn.never rfl (i_seq (d_addA (b_of_d (d_addA (b_of_d (d_slice (b_var (pv 6)) o_none (o_some (b_of_d d_int)))) (b_of_d (d_slice (b_var (pv 6)) (o_some (b_of_d (d_neg (b_of_d d_int)))) o_none)))) (b_var (pv 7))) (pi_list (d_addA (b_of_d (d_addA (b_of_d (d_slice (b_var (pv 6)) o_none (o_some (b_of_d d_int)))) (b_of_d (d_slice (b_var (pv 6)) (o_some (b_of_d (d_neg (b_of_d d_int)))) o_none)))) (b_var (pv 7)))) (pi_tup (d_addA (b_of_d (d_addA (b_of_d (d_slice (b_var (pv 6)) o_none (o_some (b_of_d d_int)))) (b_of_d (d_slice (b_var (pv 6)) (o_some (b_of_d (d_neg (b_of_d d_int)))) o_none)))) (b_var (pv 7)))) (pi_str (d_addA (b_of_d (d_addA (b_of_d (d_slice (b_var (pv 6)) o_none (o_some (b_of_d d_int)))) (b_of_d (d_slice (b_var (pv 6)) (o_some (b_of_d (d_neg (b_of_d d_int)))) o_none)))) (b_var (pv 7)))) (pi_keys (d_addA (b_of_d (d_addA (b_of_d (d_slice (b_var (pv 6)) o_none (o_some (b_of_d d_int)))) (b_of_d (d_slice (b_var (pv 6)) (o_some (b_of_d (d_neg (b_of_d d_int)))) o_none)))) (b_var (pv 7))))) (g_name (pg_name (i := 8) sclaw.nd rfl (by first | exact .inl rfl | exact .inr rfl))) (ss_cons (s_if (O := []) (O' := []) (t_ne hu (b_of_d (d_callB (call_reprD hgd hu) cd_repr rfl m_repr rfl (ab_cons (b_of_d (d_cg Cis_at_most hr (by decide) hgd rfl (ad_cons (d_var (by decide) (pv 3)) (ad_cons (d_var (by decide) (pv 8)) (ad_cons (d_var (by decide) (pv 5)) ad_nil))) (al_cons (al_cons (al_cons al_nil))))) ab_nil))) (b_of_d (d_callB (call_reprD hgd hu) cd_repr rfl m_repr rfl (ab_cons (b_of_d (d_inA hu1 (b_var (pv 8)) (b_var (pv 6)))) ab_nil)))) (ss_one (s_retO (O := []) (O' := []) d_bl)) ss_nil) (ss_cons (s_set (O := []) (O' := []) (ps_set (i := 9) sclaw.nd rfl (by first | exact .inl rfl | exact .inr rfl) (d_cg C_law_embeds hr (by decide) hgd rfl (ad_cons (d_ixA hu1 (b_var (pv 3)) (b_of_d d_int)) (ad_cons (d_var (by decide) (pv 5)) (ad_cons (d_var (by decide) (pv 8)) ad_nil))) (al_cons (al_cons (al_cons al_nil)))))) (ss_one (s_if (O := []) (O' := []) (t_ne hu (b_of_d (d_callB (call_reprD hgd hu) cd_repr rfl m_repr rfl (ab_cons (b_of_d (d_cg Cis_at_most hr (by decide) hgd rfl (ad_cons (d_var (by decide) (pv 3)) (ad_cons (d_var (by decide) (pv 5)) (ad_cons (d_var (by decide) (pv 8)) ad_nil))) (al_cons (al_cons (al_cons al_nil))))) ab_nil))) (b_of_d (d_callB (call_reprD hgd hu) cd_repr rfl m_repr rfl (ab_cons (b_var (pv 9)) ab_nil)))) (ss_one (s_retO (O := []) (O' := []) d_bl)) ss_nil))))) (ss_cons (s_if (O := []) (O' := []) (t_ne hu (b_of_d (d_ixA hu1 (b_var (pv 3)) (b_of_d d_int))) (b_of_d (d_tup ad_nil))) (ss_one (s_for (L := []) (O := []) PassesOwn.never rfl (i_range1 rfl m_range (b_of_d d_int)) (g_name (pg_name (i := 10) sclaw.nd rfl (by first | exact .inl rfl | exact .inr rfl))) (ss_cons (s_unp (O := []) (O' := []) (ps_asg (d_cg C_law_long hr (by decide) hgd rfl (ad_cons (d_var (by decide) (pv 1)) (ad_cons (d_var (by decide) (pv 3)) ad_nil)) (al_cons (al_cons al_nil))) (pg_unl rfl (pgs_cons (pg_name (i := 8) sclaw.nd rfl (by first | exact .inl rfl | exact .inr rfl)) (pgs_cons (pg_name (i := 11) sclaw.nd rfl (by first | exact .inl rfl | exact .inr rfl)) pgs_nil)))) (ps_asg (d_cg C_law_long hr (by decide) hgd rfl (ad_cons (d_var (by decide) (pv 1)) (ad_cons (d_var (by decide) (pv 3)) ad_nil)) (al_cons (al_cons al_nil))) (pg_tup rfl (pgs_cons (pg_name (i := 8) sclaw.nd rfl (by first | exact .inl rfl | exact .inr rfl)) (pgs_cons (pg_name (i := 11) sclaw.nd rfl (by first | exact .inl rfl | exact .inr rfl)) pgs_nil))))) (ss_one (s_if (O := []) (O' := []) (t_ne hu (b_of_d (d_callB (call_reprD hgd hu) cd_repr rfl m_repr rfl (ab_cons (b_of_d (d_cg Cis_at_most hr (by decide) hgd rfl (ad_cons (d_var (by decide) (pv 3)) (ad_cons (d_var (by decide) (pv 8)) (ad_cons (d_var (by decide) (pv 11)) ad_nil))) (al_cons (al_cons (al_cons al_nil))))) ab_nil))) (b_of_d (d_callB (call_reprD hgd hu) cd_repr rfl m_repr rfl (ab_cons (b_of_d (d_cg C_law_embeds hr (by decide) hgd rfl (ad_cons (d_ixA hu1 (b_var (pv 3)) (b_of_d d_int)) (ad_cons (d_var (by decide) (pv 8)) (ad_cons (d_var (by decide) (pv 11)) ad_nil))) (al_cons (al_cons (al_cons al_nil))))) ab_nil)))) (ss_one (s_retO (O := []) (O' := []) d_bl)) ss_nil))))) ss_nil) (ss_one (s_if (O := []) (O' := []) (t_bool (w_or (t_ne hu (b_of_d (d_callB (call_reprD hgd hu) cd_repr rfl m_repr rfl (ab_cons (b_of_d (d_cgK (x := "things_at_most") (ps := Athings_at_most) (Fn := Vthings_at_most) Cthings_at_most hr (by decide) hgd rfl [1, 0] ["x", "book"] (fun kV doc pm an cdv ct ws hl => match ws, hl with | [_, _], _ => rfl) (kd_cons (d_var (by decide) (pv 5)) (kd_cons (d_var (by decide) (pv 3)) kd_nil)) (al_cons (al_cons al_nil)) (fun ds hl => match ds, hl with | [_, _], _ => rfl))) ab_nil))) (b_of_d (d_callB (call_reprD hgd hu) cd_repr rfl m_repr rfl (ab_cons (b_of_d (d_callT call_tupA cd_toTup rfl m_tuple rfl (ab_cons (b_var (pv 6)) ab_nil))) ab_nil)))) (w_or1 (t_ne hu (b_of_d (d_callB (call_reprD hgd hu) cd_repr rfl m_repr rfl (ab_cons (b_var (pv 3)) ab_nil))) (b_var (pv 4)))))) (ss_one (s_retO (O := []) (O' := []) d_bl)) ss_nil)))))))))) (ss_cons (s_set (O := []) (O' := []) (ps_set (i := 12) sclaw.nd rfl (by first | exact .inl rfl | exact .inr rfl) (d_tup (ad_cons (d_tup (ad_cons d_str (ad_cons (d_tup ad_nil) ad_nil))) (ad_cons (d_tup (ad_cons d_str (ad_cons (d_tup (ad_cons d_str ad_nil)) ad_nil))) ad_nil))))) (ss_cons (s_setN (O := []) (O' := [13]) (ps_set (i := 13) sclaw.nd rfl (by first | exact .inl rfl | exact .inr rfl) (n_lst (ad_cons (d_cgK (x := "is_at_most") (ps := Ais_at_most) (Fn := Vis_at_most) Cis_at_most hr (by decide) hgd rfl [2, 1, 0] ["v", "u", "book"] (fun kV doc pm an cdv ct ws hl => match ws, hl with | [_, _, _], _ => rfl) (kd_cons d_str (kd_cons d_str (kd_cons (d_tup (ad_cons (d_var (by decide) (pv 12)) (ad_cons (d_tup ad_nil) ad_nil))) kd_nil))) (al_cons (al_cons (al_cons al_nil))) (fun ds hl => match ds, hl with | [_, _, _], _ => rfl)) (ad_cons (d_cg Cis_at_most hr (by decide) hgd rfl (ad_cons (d_tup (ad_cons (d_var (by decide) (pv 12)) (ad_cons (d_tup ad_nil) ad_nil))) (ad_cons d_str (ad_cons d_str ad_nil))) (al_cons (al_cons (al_cons al_nil)))) ad_nil))))) (ss_cons (s_app (O := [13]) (i := 13) (pe_bm PySem.F.plainAttrs_list PySem.F.slot_list_append PySem.F.type_list_append mt_append (pv 13) (pa_cons (d_cg Cthings_at_most hr (by decide) hgd rfl (ad_cons (d_tup (ad_cons (d_var (by decide) (pv 12)) (ad_cons (d_tup ad_nil) ad_nil))) (ad_cons d_str ad_nil)) (al_cons (al_cons al_nil))) pa_nil))) (ss_one (s_retO (O := [13]) (O' := [13]) (d_eq hu (b_of_d (d_callB (call_reprD hgd hu) cd_repr rfl m_repr rfl (ab_cons (b_var (pv 13)) ab_nil))) (b_of_d (d_callB (call_reprD hgd hu) cd_repr rfl m_repr rfl (ab_cons (b_of_n (n_lst (ad_cons d_bl (ad_cons d_bl (ad_cons (d_tup (ad_cons d_str (ad_cons d_str (ad_cons d_str (ad_cons d_str (ad_cons d_str (ad_cons d_str (ad_cons d_str ad_nil)))))))) ad_nil))))) ab_nil)))))))))))) hL

def LawOk : Prop := ∀ js : List Int, js.length ≤ 63 → ∃ ks l y z u d, fourD ks l y z u = some d ∧ Elaw_k04 (some (.scr js) :: List.replicate 13 none) [] = some (d, []) ∧ ∀ p, ∃ s', Flaw_k04 ((some (.scr js) :: List.replicate 13 none).set 1 (some (.ref p))) [(p, d)] = some (.rt (.bl true), s')
theorem all_ok {P : Program} {w : World} {K : PySem.W.Frag} {mg : Str → Option Value} (A_law_tape_ : FnAt K mg "_law_tape" (topS 16)) (A_law_draw_ : FnAt K mg "_law_draw" (topS 17)) (A_law_signs_ : FnAt K mg "_law_signs" (topS 19)) (A_law_rows_ : FnAt K mg "_law_rows" (topS 20)) (A_law_pick_ : FnAt K mg "_law_pick" (topS 18)) (A_law_norm_ : FnAt K mg "_law_norm" (topS 21)) (A_law_page_ : FnAt K mg "_law_page" (topS 22)) (A_law_word_ : FnAt K mg "_law_word" (topS 24)) (A_law_letters_ : FnAt K mg "_law_letters" (topS 23)) (A_law_all_below_ : FnAt K mg "_law_all_below" (topS 27)) (A_law_fitting_ : FnAt K mg "_law_fitting" (topS 28)) (Aletters_of_ : FnAt K mg "letters_of" (topS 8)) (Ais_thing_ : FnAt K mg "is_thing" (topS 5)) (Ahas_letters_ : FnAt K mg "has_letters" (topS 9)) (Aneed_thing_ : FnAt K mg "need_thing" (topS 12)) (Aletters_reached_ : FnAt K mg "letters_reached" (topS 6)) (Adowns_of_ : FnAt K mg "downs_of" (topS 13)) (Athings_at_most_ : FnAt K mg "things_at_most" (topS 11)) (Acomes_from_ : FnAt K mg "comes_from" (topS 14)) (Ais_at_most_ : FnAt K mg "is_at_most" (topS 10)) (A_law_below_ : FnAt K mg "_law_below" (topS 25)) (A_law_embeds_ : FnAt K mg "_law_embeds" (topS 29)) (A_law_long_ : FnAt K mg "_law_long" (topS 30)) (m_int : mg "int" = none) (m_len : mg "len" = none) (m_range : mg "range" = none) (m_tuple : mg "tuple" = none) (m_sorted : mg "sorted" = none) (m_dict : mg "dict" = none) (m_list : mg "list" = none) (m_isinstance : mg "isinstance" = none) (m_str : mg "str" = none) (m_all : mg "all" = none) (m_repr : mg "repr" = none) (hL : LawOk) (f : Addr) (fd : FuncData) (Fx : L2.Fun K "law" "law" (topS 31) f fd) (base : Heap) : FnG P w K mg base 5 f fd Alaw (spLaw K) := by
  have C_law_tape : Cg P w K mg base 1 "_law_tape" (topS 16) A_law_tape V_law_tape_k01 := cg_mk A_law_tape_ (fun f fd F => ok_law_tape F ) (fun _ _ _ _ _ _ us hl => match us, hl with | [_], _ => rfl)
  have C_law_draw : Cg P w K mg base 1 "_law_draw" (topS 17) A_law_draw V_law_draw_k04_k04 := cg_mk A_law_draw_ (fun f fd F => ok_law_draw F m_int m_len) (fun _ _ _ _ _ _ us hl => match us, hl with | [_, _], _ => rfl)
  have C_law_signs : Cg P w K mg base 2 "_law_signs" (topS 19) A_law_signs (V_law_signs_k01 V_law_draw_k04_k04) := cg_mk A_law_signs_ (fun f fd F => ok_law_signs F C_law_draw m_range m_int) (fun _ _ _ _ _ _ us hl => match us, hl with | [_, _], _ => rfl)
  have C_law_rows : Cg P w K mg base 2 "_law_rows" (topS 20) A_law_rows (V_law_rows_k01 V_law_draw_k04_k04) := cg_mk A_law_rows_ (fun f fd F => ok_law_rows F C_law_draw m_range m_len m_tuple m_sorted) (fun _ _ _ _ _ _ us hl => match us, hl with | [_, _], _ => rfl)
  have C_law_pick : Cg P w K mg base 2 "_law_pick" (topS 18) A_law_pick (V_law_pick_k01 V_law_draw_k04_k04) := cg_mk A_law_pick_ (fun f fd F => ok_law_pick F C_law_draw m_len) (fun _ _ _ _ _ _ us hl => match us, hl with | [_, _], _ => rfl)
  have C_law_norm : Cg P w K mg base 3 "_law_norm" (topS 21) A_law_norm (V_law_norm_k01 V_law_draw_k04_k04) := cg_mk A_law_norm_ (fun f fd F => ok_law_norm F C_law_draw C_law_pick m_range) (fun _ _ _ _ _ _ us hl => match us, hl with | [_, _], _ => rfl)
  have C_law_page : Cg P w K mg base 4 "_law_page" (topS 22) A_law_page (V_law_page_k01 V_law_draw_k04_k04) := cg_mk A_law_page_ (fun f fd F => ok_law_page F C_law_signs C_law_draw C_law_rows C_law_norm m_tuple m_range) (fun _ _ _ _ _ _ us hl => match us, hl with | [_, _, _], _ => rfl)
  have C_law_word : Cg P w K mg base 3 "_law_word" (topS 24) A_law_word (V_law_word_k01 V_law_draw_k04_k04) := cg_mk A_law_word_ (fun f fd F => ok_law_word F C_law_draw C_law_pick m_range) (fun _ _ _ _ _ _ us hl => match us, hl with | [_, _, _], _ => rfl)
  have C_law_letters : Cg P w K mg base 1 "_law_letters" (topS 23) A_law_letters V_law_letters_k01 := cg_mk A_law_letters_ (fun f fd F => ok_law_letters F ) (fun _ _ _ _ _ _ us hl => match us, hl with | [_], _ => rfl)
  have C_law_all_below : Cg P w K mg base 1 "_law_all_below" (topS 27) A_law_all_below V_law_all_below_k04_k04 := cg_mk A_law_all_below_ (fun f fd F => ok_law_all_below F m_dict m_list m_len m_range m_sorted) (fun _ _ _ _ _ _ us hl => match us, hl with | [_, _, _], _ => rfl)
  have C_law_fitting : Cg P w K mg base 4 "_law_fitting" (topS 28) A_law_fitting (V_law_fitting_k04_k04 V_law_draw_k04_k04) := cg_mk A_law_fitting_ (fun f fd F => ok_law_fitting F C_law_word C_law_letters C_law_all_below m_range) (fun _ _ _ _ _ _ us hl => match us, hl with | [_, _, _, _], _ => rfl)
  have Cletters_of : Cg P w K mg base 1 "letters_of" (topS 8) Aletters_of Vletters_of := cg_mk Aletters_of_ (fun f fd F => okletters_of F m_tuple) (fun _ _ _ _ _ _ us hl => match us, hl with | [_], _ => rfl)
  have Cis_thing : Cg P w K mg base 1 "is_thing" (topS 5) Ais_thing Vis_thing := cg_mk Ais_thing_ (fun f fd F => okis_thing F m_isinstance m_str m_all) (fun _ _ _ _ _ _ us hl => match us, hl with | [_], _ => rfl)
  have Chas_letters : Cg P w K mg base 2 "has_letters" (topS 9) Ahas_letters Vhas_letters := cg_mk Ahas_letters_ (fun f fd F => okhas_letters F Cletters_of Cis_thing m_all) (fun _ _ _ _ _ _ us hl => match us, hl with | [_, _], _ => rfl)
  have Cneed_thing : Cg P w K mg base 3 "need_thing" (topS 12) Aneed_thing Vneed_thing := cg_mk Aneed_thing_ (fun f fd F => okneed_thing F Chas_letters) (fun _ _ _ _ _ _ us hl => match us, hl with | [_, _, _], _ => rfl)
  have Cletters_reached : Cg P w K mg base 1 "letters_reached" (topS 6) Aletters_reached Vletters_reached := cg_mk Aletters_reached_ (fun f fd F => okletters_reached F m_list m_tuple m_sorted) (fun _ _ _ _ _ _ us hl => match us, hl with | [_, _], _ => rfl)
  have Cdowns_of : Cg P w K mg base 2 "downs_of" (topS 13) Adowns_of Vdowns_of := cg_mk Adowns_of_ (fun f fd F => okdowns_of F Cletters_reached m_dict) (fun _ _ _ _ _ _ us hl => match us, hl with | [_], _ => rfl)
  have Cthings_at_most : Cg P w K mg base 4 "things_at_most" (topS 11) Athings_at_most Vthings_at_most := cg_mk Athings_at_most_ (fun f fd F => okthings_at_most F Cneed_thing Cdowns_of m_list m_tuple m_sorted) (fun _ _ _ _ _ _ us hl => match us, hl with | [_, _], _ => rfl)
  have Ccomes_from : Cg P w K mg base 1 "comes_from" (topS 14) Acomes_from Vcomes_from := cg_mk Acomes_from_ (fun f fd F => okcomes_from F m_len) (fun _ _ _ _ _ _ us hl => match us, hl with | [_, _, _], _ => rfl)
  have Cis_at_most : Cg P w K mg base 4 "is_at_most" (topS 10) Ais_at_most Vis_at_most := cg_mk Ais_at_most_ (fun f fd F => okis_at_most F Cneed_thing Ccomes_from Cdowns_of) (fun _ _ _ _ _ _ us hl => match us, hl with | [_, _, _], _ => rfl)
  have C_law_below : Cg P w K mg base 1 "_law_below" (topS 25) A_law_below V_law_below_k03 := cg_mk A_law_below_ (fun f fd F => ok_law_below F m_dict m_list m_tuple m_sorted) (fun _ _ _ _ _ _ us hl => match us, hl with | [_, _], _ => rfl)
  have C_law_embeds : Cg P w K mg base 2 "_law_embeds" (topS 29) A_law_embeds V_law_embeds_k04 := cg_mk A_law_embeds_ (fun f fd F => ok_law_embeds F C_law_below m_range m_len) (fun _ _ _ _ _ _ us hl => match us, hl with | [_, _, _], _ => rfl)
  have C_law_long : Cg P w K mg base 4 "_law_long" (topS 30) A_law_long (V_law_long_k04 V_law_draw_k04_k04) := cg_mk A_law_long_ (fun f fd F => ok_law_long F C_law_letters C_law_word C_law_pick) (fun _ _ _ _ _ _ us hl => match us, hl with | [_, _], _ => rfl)
  exact oklaw Fx C_law_tape C_law_page C_law_fitting C_law_all_below Cthings_at_most C_law_word C_law_letters Cis_at_most C_law_embeds C_law_long m_range m_repr m_tuple hL
end DL
namespace DL
open PySem PySem.Spec PyProof.Rows L2
local macro_rules | `(tactic| walk_at "op") => `(tactic| first | assumption | with_reducible rfl | exact cat_w (by omega) | exact sub_nn (by omega) | exact add_nn | exact at_w (by omega) (by assumption) | exact len_w (by omega) | exact in_l1 | exact notin_l1 | exact in_t1 | exact notin_t1 | exact in_k1 | exact notin_k1 | exact in_wl | exact notin_wl | exact in_wt | exact notin_wt | exact in_kd | exact notin_kd | exact eq_ww | exact ne_ww | exact any_bl | exact all_bl | rfl)
local macro_rules | `(tactic| walk_at "ev") => `(tactic| first | with_reducible exact c0 | ((with_reducible apply v0); rfl) | with_reducible exact a0 | with_reducible assumption | ((with_reducible apply aCons_ev); (focus walk_at "ev"); (focus walk_at "ev")) | ((with_reducible apply bindA_ev); (focus walk_at "ev"); (focus walk_at "op")) | ((with_reducible apply bind2_ev); (focus walk_at "ev"); (focus walk_at "ev"); (focus walk_at "op")) | ((with_reducible apply bind1_ev); (focus walk_at "ev"); (focus walk_at "op")) | ((with_reducible apply asB_ev); (focus walk_at "ev")) | ((with_reducible apply call_ev); (focus walk_at "ev"); (focus first | assumption | rfl)) | ((with_reducible apply truF_ev); (focus walk_at "ev"); (focus first | assumption | rfl)) | ((with_reducible apply notT_ev); (focus walk_at "ev")) | ((with_reducible apply andT_e); (focus walk_at "ev"); (focus (intro hq; walk_at "ev"))) | ((with_reducible apply orT_e); (focus walk_at "ev"); (focus (intro hq; walk_at "ev"))) | ((with_reducible apply seq_tup); (focus walk_at "ev")) | ((with_reducible apply seq_lst); (focus walk_at "ev")) | ((with_reducible apply seq_str); (focus walk_at "ev")))
theorem law_ok : LawOk := fun js hjs => by
  refine ⟨[], cutD js none (some 63), 0, 0, 0, .lst (tpl (cutD js none (some 63)) 0 0 0), rfl, ?_, fun p => ?_⟩
  · exact call_ev (aCons_ev (v0 (d := .scr js) rfl) a0) (fn_rt (ret_ev rfl))
  · exact law_main dip_k04 rfl p (.scr js) _ ⟨_, 0, 0, 0, rfl, Int.le_refl _, Int.le_refl _⟩

end DL
open PySem PySem.W PyProof.Rows
set_option maxHeartbeats 0 in
theorem PySem.Challenge.cw_firstfailing_k04_whole_at_most_holds : PySem.Challenge.rw_firstfailing_k04_whole_at_most.Holds := by
  w_on; o_law; k_head; (case hw => w_witness2)
  k_fill
  refine DL.walk_ofG (l := PySem.Challenge.rw_firstfailing_k04_whole_at_most) (m := 63) (n := 5) (pa := "_law_script") (sp := fun w => DL.spLaw _) rfl (by decide) rfl ⟨rfl, by decide, by decide⟩ (fun w h Y => PySem.W.kIn_of Y) ?F (fun _ _ a ns hl _ hS => ⟨a, ns, rfl, hS, hl, fun _ => rfl⟩)
  case F =>
    intro w mg fa h KX G hmg
    have hmg : mg "law" = some (.ref fa) := hmg
    refine' DL.fn_then "_law_tape" (DL.topS 16) KX G ?a ?l ?c ?k (fun A_law_tape => ?_); (case a => k_is); (case l => k_is); (case c => k_is); (case k => k_is)
    refine' DL.fn_then "_law_draw" (DL.topS 17) KX G ?a ?l ?c ?k (fun A_law_draw => ?_); (case a => k_is); (case l => k_is); (case c => k_is); (case k => k_is)
    refine' DL.fn_then "_law_signs" (DL.topS 19) KX G ?a ?l ?c ?k (fun A_law_signs => ?_); (case a => k_is); (case l => k_is); (case c => k_is); (case k => k_is)
    refine' DL.fn_then "_law_rows" (DL.topS 20) KX G ?a ?l ?c ?k (fun A_law_rows => ?_); (case a => k_is); (case l => k_is); (case c => k_is); (case k => k_is)
    refine' DL.fn_then "_law_pick" (DL.topS 18) KX G ?a ?l ?c ?k (fun A_law_pick => ?_); (case a => k_is); (case l => k_is); (case c => k_is); (case k => k_is)
    refine' DL.fn_then "_law_norm" (DL.topS 21) KX G ?a ?l ?c ?k (fun A_law_norm => ?_); (case a => k_is); (case l => k_is); (case c => k_is); (case k => k_is)
    refine' DL.fn_then "_law_page" (DL.topS 22) KX G ?a ?l ?c ?k (fun A_law_page => ?_); (case a => k_is); (case l => k_is); (case c => k_is); (case k => k_is)
    refine' DL.fn_then "_law_word" (DL.topS 24) KX G ?a ?l ?c ?k (fun A_law_word => ?_); (case a => k_is); (case l => k_is); (case c => k_is); (case k => k_is)
    refine' DL.fn_then "_law_letters" (DL.topS 23) KX G ?a ?l ?c ?k (fun A_law_letters => ?_); (case a => k_is); (case l => k_is); (case c => k_is); (case k => k_is)
    refine' DL.fn_then "_law_all_below" (DL.topS 27) KX G ?a ?l ?c ?k (fun A_law_all_below => ?_); (case a => k_is); (case l => k_is); (case c => k_is); (case k => k_is)
    refine' DL.fn_then "_law_fitting" (DL.topS 28) KX G ?a ?l ?c ?k (fun A_law_fitting => ?_); (case a => k_is); (case l => k_is); (case c => k_is); (case k => k_is)
    refine' DL.fn_then "letters_of" (DL.topS 8) KX G ?a ?l ?c ?k (fun Aletters_of => ?_); (case a => k_is); (case l => k_is); (case c => k_is); (case k => k_is)
    refine' DL.fn_then "is_thing" (DL.topS 5) KX G ?a ?l ?c ?k (fun Ais_thing => ?_); (case a => k_is); (case l => k_is); (case c => k_is); (case k => k_is)
    refine' DL.fn_then "has_letters" (DL.topS 9) KX G ?a ?l ?c ?k (fun Ahas_letters => ?_); (case a => k_is); (case l => k_is); (case c => k_is); (case k => k_is)
    refine' DL.fn_then "need_thing" (DL.topS 12) KX G ?a ?l ?c ?k (fun Aneed_thing => ?_); (case a => k_is); (case l => k_is); (case c => k_is); (case k => k_is)
    refine' DL.fn_then "letters_reached" (DL.topS 6) KX G ?a ?l ?c ?k (fun Aletters_reached => ?_); (case a => k_is); (case l => k_is); (case c => k_is); (case k => k_is)
    refine' DL.fn_then "downs_of" (DL.topS 13) KX G ?a ?l ?c ?k (fun Adowns_of => ?_); (case a => k_is); (case l => k_is); (case c => k_is); (case k => k_is)
    refine' DL.fn_then "things_at_most" (DL.topS 11) KX G ?a ?l ?c ?k (fun Athings_at_most => ?_); (case a => k_is); (case l => k_is); (case c => k_is); (case k => k_is)
    refine' DL.fn_then "comes_from" (DL.topS 14) KX G ?a ?l ?c ?k (fun Acomes_from => ?_); (case a => k_is); (case l => k_is); (case c => k_is); (case k => k_is)
    refine' DL.fn_then "is_at_most" (DL.topS 10) KX G ?a ?l ?c ?k (fun Ais_at_most => ?_); (case a => k_is); (case l => k_is); (case c => k_is); (case k => k_is)
    refine' DL.fn_then "_law_below" (DL.topS 25) KX G ?a ?l ?c ?k (fun A_law_below => ?_); (case a => k_is); (case l => k_is); (case c => k_is); (case k => k_is)
    refine' DL.fn_then "_law_embeds" (DL.topS 29) KX G ?a ?l ?c ?k (fun A_law_embeds => ?_); (case a => k_is); (case l => k_is); (case c => k_is); (case k => k_is)
    refine' DL.fn_then "_law_long" (DL.topS 30) KX G ?a ?l ?c ?k (fun A_law_long => ?_); (case a => k_is); (case l => k_is); (case c => k_is); (case k => k_is)
    refine' DL.fn_then "law" (DL.topS 31) KX G ?a ?l ?c ?k (fun Alaw => ?_); (case a => k_is); (case l => k_is); (case c => k_is); (case k => k_is)
    refine' DL.no_then "int" KX G ?a (fun m_int => ?_); (case a => k_is)
    refine' DL.no_then "len" KX G ?a (fun m_len => ?_); (case a => k_is)
    refine' DL.no_then "range" KX G ?a (fun m_range => ?_); (case a => k_is)
    refine' DL.no_then "tuple" KX G ?a (fun m_tuple => ?_); (case a => k_is)
    refine' DL.no_then "sorted" KX G ?a (fun m_sorted => ?_); (case a => k_is)
    refine' DL.no_then "dict" KX G ?a (fun m_dict => ?_); (case a => k_is)
    refine' DL.no_then "list" KX G ?a (fun m_list => ?_); (case a => k_is)
    refine' DL.no_then "isinstance" KX G ?a (fun m_isinstance => ?_); (case a => k_is)
    refine' DL.no_then "str" KX G ?a (fun m_str => ?_); (case a => k_is)
    refine' DL.no_then "all" KX G ?a (fun m_all => ?_); (case a => k_is)
    refine' DL.no_then "repr" KX G ?a (fun m_repr => ?_); (case a => k_is)
    exact DL.law_at Alaw hmg (fun _ _ _ _ _ _ u => rfl) fun f fd Fx bs => DL.all_ok A_law_tape A_law_draw A_law_signs A_law_rows A_law_pick A_law_norm A_law_page A_law_word A_law_letters A_law_all_below A_law_fitting Aletters_of Ais_thing Ahas_letters Aneed_thing Aletters_reached Adowns_of Athings_at_most Acomes_from Ais_at_most A_law_below A_law_embeds A_law_long m_int m_len m_range m_tuple m_sorted m_dict m_list m_isinstance m_str m_all m_repr DL.law_ok f fd Fx bs

