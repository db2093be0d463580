import PyProof.Rows.All
import Wide.All
import OpenK.AllK
import Wide.FinOn
import HandS.ForMost
import HandS.IsInst
import HandS.Small
import HandS.TupAny
import HandS.Wide
import HandS.Deep
import HandS.Records
import HandS.Flow
import HandS.More
import HandS.Conv
import HandS.Style
import HandS.WordsDict
import HandS.Iter
import HandS.DictComp
import HandS.NoneIn
import HandS.Ends
import KE.KDictPairs
import KE.KSortTupG
import PyProof.Rows.SortShellAny
import PyProof.Rows.StrRev
import KE.GoesMore
import HandS.SetTxt0
import HandS.TupSets
import HandS.Strs
import KE.KDictSum
import HandS.ExcValue
import PyProof.ListStr
import KE.KDictList
import PyProof.TupleOfSeq
import HandS.Replace
import KE.KRevSl
import HandS.MakeKwOnly
import HandS.HeadNt
import PySem.Challenge.RW_firstfailing_k42_whole_surely_least
set_option Elab.async false
set_option linter.all false
set_option maxRecDepth 100000
set_option maxHeartbeats 8000000
namespace DL
open PySem PySem.Spec PyProof.Rows L2
def tupO (its : List Value) : Obj := { cls := .type "tuple", data := .seq its.toArray }
section
variable {X : Cx} {pins : List (Addr × Obj)} {σ : L2.St} {H : Hp} {s : Shared}
theorem laidT {xs : List V} {its : List Value} (I : Inv X pins σ H s) (r : Vals xs its) (hz : xs.length ≤ sizeLine) :
    Inv X pins σ (upd H s.heap.objs.size (.frz (tupO its) (.tup xs))) { s with heap := s.heap.push (tupO its) } :=
  I.laid (t' := s.toks) (fun b o e => Heap.get?_push_of_some _ e) (Nat.le_refl _) (show ObjOk X.prog X.w _ _ _ (.frz (tupO its) (.tup xs)) from ⟨Heap.get?_push_size _ rfl, hz, its, r, IsTup.new _ _⟩)
def NewT (H : Hp) (xs : List V) (Q : VK) : Prop := ∀ p o, H p = none → o.dict = none → Q (.ref p) (upd H p (.frz o (.tup xs)))
theorem newT_ok {xs : List V} {its : List Value} {Q : VK} (I : Inv X pins σ H s) (r : Vals xs its) (hz : xs.length ≤ sizeLine) (q : NewT H xs Q) : EP X pins σ Q (.ref s.heap.objs.size) { s with heap := s.heap.push (tupO its) } :=
  ⟨.ref s.heap.objs.size, _, laidT I r hz, rfl, q _ (tupO its) (I.hok.fresh (Nat.le_refl _)) rfl⟩
def tTupF (t : TA) : TE := fun σ H Q => t σ H fun xs H1 => xs.length ≤ sizeLine ∧ NewT H1 xs Q
theorem pe_tupF {es : List Expr} {t : TA} {pos : Pos} {x1} (h : PA X es t) : PE X (.Tuple es x1 pos) (tTupF t) where
  run := by
    intro pins s σ H Q I hq
    refine wpAny_Tuple_spliced (thn (h.run pos pins s σ H _ I hq) ?_)
    rintro us s1 ⟨xs, H1, I1, r, z, q⟩
    exact ⟨by rw [← r.length]; exact z, newT_ok I1 r z q⟩
def rTupF (K : PySem.W.Frag) : List V → Hp → VK → Prop := fun xs H Q => ∃ p ys, xs = [.ref p] ∧ ((SqL K H p ys ∧ NewT H ys Q) ∨ (SqT K H p ys ∧ Q (.ref p) H))
theorem call_tupF : CallR X (.type "tuple") (rTupF X.K) := by
  intro pins s σ H xs us Q I r ⟨p, ys, ex, h⟩
  subst ex
  obtain ⟨u, eu, rx⟩ := vals1 r
  subst eu
  cases rx
  rcases h with ⟨hq, q⟩ | ⟨hq, q⟩
  · obtain ⟨its, rv, pl, hz⟩ := I.list hq
    have hl := rv.length
    refine call_tuple_list pl.isList (fun h' kp => ?_) (by rw [List.size_toArray]; omega)
    exact newT_ok (s := { s with heap := h' }) (I.kept (t' := s.toks) kp) rv hz q
  · obtain ⟨its, rv, pl, hz⟩ := I.tuple hq
    exact call_tuple_same pl ⟨.ref p, H, I, rfl, q⟩
def rCatF (K : PySem.W.Frag) : R2 := fun x y H Q => ∃ a b xs ys, x = .ref a ∧ y = .ref b ∧ SqT K H a xs ∧ SqT K H b ys ∧ xs.length + ys.length ≤ sizeLine ∧ (xs = [] → Q (.ref b) H) ∧ (xs ≠ [] → ys = [] → Q (.ref a) H) ∧ (xs ≠ [] → ys ≠ [] → NewT H (xs ++ ys) Q)
theorem op_catF : OpR X (binaryOp .Add) (rCatF X.K) := by
  intro pins s σ H x y v u Q I rx ry ⟨a, b, xs, ys, ex, ey, ha, hb, hz, q0, q1, q2⟩
  subst ex ey
  by_cases hx : xs = []
  · exact op_catA pins s σ H _ _ v u Q I rx ry ⟨a, b, xs, ys, rfl, rfl, ha, hb, hz, q0, fun c => absurd hx c, fun c => absurd hx c⟩
  · cases rx
    cases ry
    obtain ⟨its, ra, pa, _⟩ := I.tuple ha
    obtain ⟨jts, rb, pb, _⟩ := I.tuple hb
    have hz' : its.length + jts.length ≤ sizeLine := by rw [← ra.length, ← rb.length]; exact hz
    refine HT.cat_tup pa pb (fun c => hx (ra.nil_iff.mp c)) (fun c => ⟨.ref a, H, I, rfl, q1 hx (rb.nil_iff.mp c)⟩) (fun c => ?_) hz'
    exact newT_ok I (ra.append rb) (by rw [List.length_append]; exact hz) (q2 hx fun e => c (rb.nil_iff.mpr e))
def rSlF (K : PySem.W.Frag) : V → Option Int → Option Int → Hp → VK → Prop := fun x lo hi H Q => ∃ a xs, x = .ref a ∧ SqT K H a xs ∧
  (HT.sIx xs.length 0 lo = 0 ∧ HT.sIx xs.length xs.length hi = xs.length → Q (.ref a) H) ∧ (¬ (HT.sIx xs.length 0 lo = 0 ∧ HT.sIx xs.length xs.length hi = xs.length) → NewT H (cutV xs lo hi) Q)
theorem sl_tupF : SlR X (rSlF X.K) := by
  intro pins s σ H x v vl vu lo hi sl Q I rx hs pl pu ⟨a, xs, ex, hx, q1, q2⟩
  by_cases hw : HT.sIx xs.length 0 lo = 0 ∧ HT.sIx xs.length xs.length hi = xs.length
  · exact sl_tupA pins s σ H x v vl vu lo hi sl Q I rx hs pl pu ⟨a, xs, ex, hx, q1, fun c => absurd hw c⟩
  · subst ex
    cases rx
    obtain ⟨its, r, ht, hz⟩ := I.tuple hx
    have hl : its.toArray.size = xs.length := by rw [List.size_toArray, r.length]
    refine ⟨"tuple", _, PyProof.Rows.slot_tuple_getitem.lookup, ht.typeIs, HT.getItem_tuple_cut ht hs pl pu (by rw [hl]; exact hw) ?_ (by rw [hl]; exact hz)⟩
    rw [hl]
    exact newT_ok I ((r.drop _).take _) (Nat.le_trans (cutV_length xs lo hi) hz) (q2 hw)
end
end DL

namespace DL
open PySem PySem.Spec PyProof.Rows L2

inductive Dt where
  | non | bl (b : Bool) | int (i : Int) | str (x : Str)
  | tup (xs : List Dt) | lst (xs : List Dt) | dct (kvs : List (Key × Dt)) | ref (a : Addr) | scr (ns : List Int)

abbrev Env := List (Option Dt)
abbrev Sto := List (Addr × Dt)
abbrev Fe := Env → Sto → Option (Dt × Sto)

def PlT (K : PySem.W.Frag) (F : Hp) (a : Addr) (xs : List V) : Prop := (∃ o, F a = some (.frz o (.tup xs)) ∧ o.dict = none) ∨ (∃ o, K.lookup a = some o ∧ o.dict = none) ∨ ∃ x r, xs = x :: r ∧ ∀ b, x ≠ .ref b
theorem PlT.mono {K : PySem.W.Frag} {F F' : Hp} {a : Addr} {xs : List V} (e : Same F F') (h : PlT K F a xs) : PlT K F' a xs := by
  rcases h with ⟨o, h1, h2⟩ | h | h
  · exact .inl ⟨o, e _ _ h1, h2⟩
  · exact .inr (.inl h)
  · exact .inr (.inr h)
mutual
/-- a value stands for data, by the frozen part F of the heap -/
inductive Rep (K : PySem.W.Frag) (F : Hp) : V → Dt → Prop
  | non : Rep K F .non .non
  | bl (b : Bool) : Rep K F (.bl b) (.bl b)
  | int (i : Int) : Rep K F (.int i) (.int i)
  | str (x : Str) : Rep K F (.str x) (.str x)
  | ref (a : Addr) : Rep K F (.ref a) (.ref a)
  | tup {a : Addr} {xs : List V} {ds : List Dt} : SqT K F a xs → PlT K F a xs → Reps K F xs ds → Rep K F (.ref a) (.tup ds)
  | lst {a : Addr} {xs : List V} {ds : List Dt} : F a = some (.lst xs) → Reps K F xs ds → Rep K F (.ref a) (.lst ds)
  | scr {a : Addr} {ns : List Int} : SqL K F a (ns.map V.int) → Rep K F (.ref a) (.scr ns)
  | dct {a : Addr} {od : Obj} {xs : List (Key × V)} {ds : List (Key × Dt)} : F a = some (.frz od (.dK xs)) → Repk K F xs ds → Rep K F (.ref a) (.dct ds)
inductive Reps (K : PySem.W.Frag) (F : Hp) : List V → List Dt → Prop
  | nil : Reps K F [] []
  | cons {v : V} {vs : List V} {d : Dt} {ds : List Dt} : Rep K F v d → Reps K F vs ds → Reps K F (v :: vs) (d :: ds)
inductive Repk (K : PySem.W.Frag) (F : Hp) : List (Key × V) → List (Key × Dt) → Prop
  | nil : Repk K F [] []
  | cons {k : Key} {v : V} {vs : List (Key × V)} {d : Dt} {ds : List (Key × Dt)} : Rep K F v d → Repk K F vs ds → Repk K F ((k, v) :: vs) ((k, d) :: ds)
end

theorem sqT_same {K : PySem.W.Frag} {H H' : Hp} {a : Addr} {xs : List V} (e : Same H H') (h : SqT K H a xs) : SqT K H' a xs := by
  rcases h with (h | ⟨o, h⟩) | h
  · exact .inl (.inl (e _ _ h))
  · exact .inl (.inr ⟨o, e _ _ h⟩)
  · exact .inr h

section
variable {K : PySem.W.Frag} {F F' : Hp}
mutual
theorem Rep.mono (e : Same F F') : ∀ (d : Dt) (v : V), Rep K F v d → Rep K F' v d
  | .non, _, h => by cases h; exact .non
  | .bl b, _, h => by cases h; exact .bl b
  | .int i, _, h => by cases h; exact .int i
  | .str x, _, h => by cases h; exact .str x
  | .ref a, _, h => by cases h; exact .ref a
  | .tup ds, _, h => by
    cases h with
    | tup h1 hp h2 => exact .tup (sqT_same e h1) (hp.mono e) (Reps.mono e ds _ h2)
  | .lst ds, _, h => by
    cases h with
    | lst h1 h2 => exact .lst (e _ _ h1) (Reps.mono e ds _ h2)
  | .scr ns, _, h => by
    cases h with
    | scr h1 => exact .scr (e.seq h1)
  | .dct ks, _, h => by
    cases h with
    | dct h1 h2 => exact .dct (e _ _ h1) (Repk.mono e ks _ h2)
theorem Reps.mono (e : Same F F') : ∀ (ds : List Dt) (vs : List V), Reps K F vs ds → Reps K F' vs ds
  | [], _, h => by cases h; exact .nil
  | d :: ds, _, h => by
    cases h with
    | cons h1 h2 => exact .cons (Rep.mono e d _ h1) (Reps.mono e ds _ h2)
theorem Repk.mono (e : Same F F') : ∀ (ds : List (Key × Dt)) (vs : List (Key × V)), Repk K F vs ds → Repk K F' vs ds
  | [], _, h => by cases h; exact .nil
  | (k, d) :: ds, _, h => by
    cases h with
    | cons h1 h2 => exact .cons (Rep.mono e d _ h1) (Repk.mono e ds _ h2)
end
theorem Reps.length : ∀ {vs : List V} {ds : List Dt}, Reps K F vs ds → vs.length = ds.length
  | [], [], _ => rfl
  | [], _ :: _, h => by cases h
  | _ :: _, [], h => by cases h
  | _ :: vs, _ :: ds, h => by
    cases h with
    | cons h1 h2 => rw [List.length_cons, List.length_cons, Reps.length h2]
theorem Reps.get : ∀ {vs : List V} {ds : List Dt} {i : Nat} {d : Dt}, Reps K F vs ds → ds[i]? = some d → ∃ v, vs[i]? = some v ∧ Rep K F v d
  | [], [], _, _, _, e => by simp at e
  | [], _ :: _, _, _, h, _ => by cases h
  | _ :: _, [], _, _, h, _ => by cases h
  | v :: vs, d :: ds, 0, d', h, e => by
    cases h with
    | cons h1 h2 =>
      have e' : d = d' := by simpa using e
      subst e'
      exact ⟨v, rfl, h1⟩
  | v :: vs, d :: ds, i + 1, d', h, e => by
    cases h with
    | cons h1 h2 =>
      obtain ⟨u, e1, r⟩ := Reps.get (i := i) h2 (by simpa using e)
      exact ⟨u, by simpa using e1, r⟩
theorem Reps.append : ∀ {vs us : List V} {ds es : List Dt}, Reps K F vs ds → Reps K F us es → Reps K F (vs ++ us) (ds ++ es)
  | [], _, [], _, _, h => h
  | [], _, _ :: _, _, h, _ => by cases h
  | _ :: _, _, [], _, h, _ => by cases h
  | _ :: _, _, _ :: _, _, h, h' => by
    cases h with
    | cons h1 h2 => exact .cons h1 (Reps.append h2 h')
theorem Reps.take : ∀ {vs : List V} {ds : List Dt} (n : Nat), Reps K F vs ds → Reps K F (vs.take n) (ds.take n)
  | _, _, 0, _ => .nil
  | [], [], _ + 1, _ => .nil
  | [], _ :: _, _, h => by cases h
  | _ :: _, [], _, h => by cases h
  | _ :: _, _ :: _, n + 1, h => by
    cases h with
    | cons h1 h2 => exact .cons h1 (Reps.take n h2)
theorem Reps.drop : ∀ {vs : List V} {ds : List Dt} (n : Nat), Reps K F vs ds → Reps K F (vs.drop n) (ds.drop n)
  | _, _, 0, h => h
  | [], [], _ + 1, _ => .nil
  | [], _ :: _, _, h => by cases h
  | _ :: _, [], _, h => by cases h
  | _ :: _, _ :: _, n + 1, h => by
    cases h with
    | cons h1 h2 => exact Reps.drop n h2
theorem Reps.snoc {vs : List V} {ds : List Dt} {v : V} {d : Dt} (h : Reps K F vs ds) (h' : Rep K F v d) : Reps K F (vs ++ [v]) (ds ++ [d]) := h.append (.cons h' .nil)
theorem Reps.reverse : ∀ {vs : List V} {ds : List Dt}, Reps K F vs ds → Reps K F vs.reverse ds.reverse
  | [], [], _ => .nil
  | [], _ :: _, h => by cases h
  | _ :: _, [], h => by cases h
  | _ :: _, _ :: _, h => by
    cases h with
    | cons h1 h2 => rw [List.reverse_cons, List.reverse_cons]; exact (Reps.reverse h2).snoc h1
theorem Reps.strs : ∀ (xs : List Str), Reps K F (xs.map V.str) (xs.map Dt.str)
  | [] => .nil
  | x :: xs => .cons (.str x) (Reps.strs xs)
theorem Reps.ints : ∀ (xs : List Int), Reps K F (xs.map V.int) (xs.map Dt.int)
  | [] => .nil
  | x :: xs => .cons (.int x) (Reps.ints xs)
theorem Reps.of_strs : ∀ {vs : List V} {xs : List Str}, Reps K F vs (xs.map Dt.str) → vs = xs.map V.str
  | [], [], _ => rfl
  | [], _ :: _, h => by cases h
  | _ :: _, [], h => by cases h
  | _ :: _, _ :: _, h => by
    cases h with
    | cons h1 h2 => cases h1; rw [Reps.of_strs h2]; rfl
theorem Reps.of_ints : ∀ {vs : List V} {xs : List Int}, Reps K F vs (xs.map Dt.int) → vs = xs.map V.int
  | [], [], _ => rfl
  | [], _ :: _, h => by cases h
  | _ :: _, [], h => by cases h
  | _ :: _, _ :: _, h => by
    cases h with
    | cons h1 h2 => cases h1; rw [Reps.of_ints h2]; rfl
theorem Reps.of_bls : ∀ {vs : List V} {xs : List Bool}, Reps K F vs (xs.map Dt.bl) → vs = xs.map V.bl
  | [], [], _ => rfl
  | [], _ :: _, h => by cases h
  | _ :: _, [], h => by cases h
  | _ :: _, _ :: _, h => by
    cases h with
    | cons h1 h2 => cases h1; rw [Reps.of_bls h2]; rfl
end

inductive ObR (K : PySem.W.Frag) (F : Hp) : HO → Dt → Prop
  | lst {vs : List V} {ds : List Dt} : Reps K F vs ds → ObR K F (.lst vs) (.lst ds)
  | dct {vs : List (Key × V)} {ds : List (Key × Dt)} : Repk K F vs ds → ObR K F (.dK vs) (.dct ds)
theorem ObR.mono {K : PySem.W.Frag} {F F' : Hp} (e : Same F F') {o : HO} {d : Dt} (h : ObR K F o d) : ObR K F' o d := by
  cases h with
  | lst h => exact .lst (Reps.mono e _ _ h)
  | dct h => exact .dct (Repk.mono e _ _ h)

structure Bs (K : PySem.W.Frag) (ft : List Addr) (F H : Hp) (s : Sto) : Prop where
  sub : Same F H
  ad : s.map (·.1) = ft
  nd : ft.Nodup
  st : ∀ a d, (a, d) ∈ s → ∃ o, H a = some o ∧ ObR K F o d
  fr : ∀ a, a ∈ ft → F a = none
structure Go (ft : List Addr) (F H F' H' : Hp) : Prop where
  ext : ∀ a o, H a = some o → a ∉ ft → H' a = some o
  sam : Same F F'
  new : ∀ a o, F' a = some o → F a = some o ∨ H a = none
theorem Go.refl {ft : List Addr} {F H : Hp} : Go ft F H F H := ⟨fun _ _ e _ => e, Same.refl _, fun _ _ e => .inl e⟩
theorem Bs.has {K : PySem.W.Frag} {ft : List Addr} {F H : Hp} {s : Sto} (b : Bs K ft F H s) {a : Addr} (h : a ∈ ft) : ∃ d o, (a, d) ∈ s ∧ H a = some o ∧ ObR K F o d := by
  rw [← b.ad] at h
  obtain ⟨p, hp, e⟩ := List.mem_map.mp h
  obtain ⟨a', d⟩ := p
  have e' : a' = a := e
  subst e'
  obtain ⟨o, h1, h2⟩ := b.st _ _ hp
  exact ⟨d, o, hp, h1, h2⟩
theorem Bs.nofree {K : PySem.W.Frag} {ft : List Addr} {F H : Hp} {s : Sto} (b : Bs K ft F H s) {a : Addr} (h : H a = none) : a ∉ ft := fun hm => by
  obtain ⟨d, o, _, e, _⟩ := b.has hm
  rw [h] at e; cases e
theorem Go.trans {K : PySem.W.Frag} {ft : List Addr} {F H F1 H1 F2 H2 : Hp} {s : Sto} (a : Go ft F H F1 H1) (b : Go ft F1 H1 F2 H2) (bs : Bs K ft F1 H1 s) : Go ft F H F2 H2 :=
  ⟨fun c o e n => b.ext c o (a.ext c o e n) n, a.sam.trans b.sam, fun c o e => by
    rcases b.new c o e with e1 | e1
    · exact a.new c o e1
    · right
      cases q : H c with
      | none => rfl
      | some u =>
        have := a.ext c u q (bs.nofree e1)
        rw [e1] at this; cases this⟩
theorem Go.free {K : PySem.W.Frag} {ft : List Addr} {F H F1 H1 : Hp} {s : Sto} (a : Go ft F H F1 H1) (bs : Bs K ft F1 H1 s) {c : Addr} (e1 : H1 c = none) : H c = none := by
  cases q : H c with
  | none => rfl
  | some u =>
    have := a.ext c u q (bs.nofree e1)
    rw [e1] at this; cases this
theorem Go.lay {K : PySem.W.Frag} {ft : List Addr} {F H : Hp} {s : Sto} {p : Addr} {o : HO} (b : Bs K ft F H s) (n : H p = none) : Go ft F H (upd F p o) (upd H p o) ∧ Bs K ft (upd F p o) (upd H p o) s := by
  have nF : F p = none := by
    cases q : F p with
    | none => rfl
    | some u => have := b.sub p u q; rw [n] at this; cases this
  have nft := b.nofree n
  have sF : Same F (upd F p o) := fun c u e => by rw [upd_ne (ne_of_none e nF)]; exact e
  refine ⟨⟨fun c u e _ => by rw [upd_ne (ne_of_none e n)]; exact e, sF, fun c u e => ?_⟩, ⟨fun c u e => ?_, b.ad, b.nd, fun a d h => ?_, fun a h => ?_⟩⟩
  · by_cases hc : c = p
    · subst hc; exact .inr n
    · rw [upd_ne hc] at e; exact .inl e
  · by_cases hc : c = p
    · subst hc; rw [upd_same] at e ⊢; exact e
    · rw [upd_ne hc] at e ⊢; exact b.sub c u e
  · obtain ⟨ob, e, r⟩ := b.st a d h
    exact ⟨ob, by rw [upd_ne (ne_of_none e n)]; exact e, r.mono sF⟩
  · rw [upd_ne (fun (z : a = p) => nft (z ▸ h))]; exact b.fr a h
theorem Go.made {K : PySem.W.Frag} {ft : List Addr} {F H : Hp} {s : Sto} {p : Addr} {o : HO} (b : Bs K ft F H s) (n : H p = none) : Go ft F H F (upd H p o) ∧ Bs K ft F (upd H p o) s ∧ F p = none := by
  have nF : F p = none := by
    cases q : F p with
    | none => rfl
    | some u => have := b.sub p u q; rw [n] at this; cases this
  refine ⟨⟨fun c u e _ => by rw [upd_ne (ne_of_none e n)]; exact e, Same.refl _, fun c u e => .inl e⟩, ⟨fun c u e => by rw [upd_ne (ne_of_none e nF)]; exact b.sub c u e, b.ad, b.nd, fun a d h => ?_, b.fr⟩, nF⟩
  obtain ⟨ob, e, r⟩ := b.st a d h
  exact ⟨ob, by rw [upd_ne (ne_of_none e n)]; exact e, r⟩
theorem Go.frost {K : PySem.W.Frag} {ft : List Addr} {F H F1 H1 : Hp} {s : Sto} {p : Addr} {o : HO} (g : Go ft F H F1 H1) (b : Bs K ft F1 H1 s) (n : H p = none) (n1 : F1 p = none) (e : H1 p = some o) (nf : p ∉ ft) : Go ft F H (upd F1 p o) H1 ∧ Bs K ft (upd F1 p o) H1 s := by
  have sF : Same F1 (upd F1 p o) := fun c u e => by rw [upd_ne (ne_of_none e n1)]; exact e
  refine ⟨⟨g.ext, g.sam.trans sF, fun c u e' => ?_⟩, ⟨fun c u e' => ?_, b.ad, b.nd, fun a d h => ?_, fun a h => ?_⟩⟩
  · by_cases hc : c = p
    · subst hc; exact .inr n
    · rw [upd_ne hc] at e'; exact g.new c u e'
  · by_cases hc : c = p
    · subst hc; rw [upd_same] at e'; rw [e]; exact e'
    · rw [upd_ne hc] at e'; exact b.sub c u e'
  · obtain ⟨ob, e, r⟩ := b.st a d h
    exact ⟨ob, e, r.mono sF⟩
  · rw [upd_ne (fun (z : a = p) => nf (z ▸ h))]; exact b.fr a h
theorem ObR.rep {K : PySem.W.Frag} {F : Hp} {p : Addr} {xs : List V} {d : Dt} (h : ObR K F (.lst xs) d) (n : F p = none) : Rep K (upd F p (.lst xs)) (.ref p) d := by
  have sF : Same F (upd F p (.lst xs)) := fun c u e => by rw [upd_ne (ne_of_none e n)]; exact e
  cases h with
  | lst h => exact .lst upd_same (Reps.mono sF _ _ h)
theorem ObR.repL {K : PySem.W.Frag} {F : Hp} {p : Addr} {od : Obj} {xs : List (Key × V)} {d : Dt} (h : ObR K F (.dK xs) d) (n : F p = none) : Rep K (upd F p (.frz od (.dK xs))) (.ref p) d := by
  have sF : Same F (upd F p (.frz od (.dK xs))) := fun c u e => by rw [upd_ne (ne_of_none e n)]; exact e
  cases h with
  | dct h => exact .dct upd_same (Repk.mono sF _ _ h)
theorem Go.frostL {K : PySem.W.Frag} {ft : List Addr} {F H F1 H1 : Hp} {s : Sto} {p : Addr} {o o' : HO} (g : Go ft F H F1 H1) (b : Bs K ft F1 H1 s) (n : H p = none) (n1 : F1 p = none) (e : H1 p = some o) (nf : p ∉ ft) : Go ft F H (upd F1 p o') (upd H1 p o') ∧ Bs K ft (upd F1 p o') (upd H1 p o') s := by
  have sF : Same F1 (upd F1 p o') := fun c u e => by rw [upd_ne (ne_of_none e n1)]; exact e
  refine ⟨⟨fun c u e' nc => ?_, g.sam.trans sF, fun c u e' => ?_⟩, ⟨fun c u e' => ?_, b.ad, b.nd, fun a d h => ?_, fun a h => ?_⟩⟩
  · rw [upd_ne (ne_of_none e' n)]; exact g.ext c u e' nc
  · by_cases hc : c = p
    · subst hc; exact .inr n
    · rw [upd_ne hc] at e'; exact g.new c u e'
  · by_cases hc : c = p
    · subst hc; rw [upd_same] at e' ⊢; exact e'
    · rw [upd_ne hc] at e' ⊢; exact b.sub c u e'
  · obtain ⟨ob, e, r⟩ := b.st a d h
    have ha : a ∈ ft := by rw [← b.ad]; exact List.mem_map.mpr ⟨_, h, rfl⟩
    exact ⟨ob, by rw [upd_ne (fun (z : a = p) => nf (z ▸ ha))]; exact e, r.mono sF⟩
  · rw [upd_ne (fun (z : a = p) => nf (z ▸ h))]; exact b.fr a h
inductive Lk (φ : Hp → Prop) : Hp → Prop
  | done {H : Hp} : φ H → Lk φ H
  | lock {H : Hp} {d : Addr} {u : HO} : H d = some u → Mut (some u) → (∀ od, Lk φ (upd H d (.frz od u))) → Lk φ H
theorem Lk.imp {φ ψ : Hp → Prop} {H : Hp} (h : Lk φ H) (k : ∀ H', φ H' → ψ H') : Lk ψ H := by
  induction h with
  | done h => exact .done (k _ h)
  | lock e m _ ih => exact .lock e m ih
theorem Lk.inv {X : Cx} {pins : List (Addr × Obj)} {σ : L2.St} {H : Hp} {s : Shared} {φ : Hp → Prop} (l : Lk φ H) (I : Inv X pins σ H s) : ∃ H', Inv X pins σ H' s ∧ φ H' := by
  induction l with
  | done h => exact ⟨_, I, h⟩
  | lock e m _ ih =>
    obtain ⟨od, I1⟩ := I.lock e m
    exact ih od I1

structure Gd where
  ft : List Addr
  he : Hp
  f0 : Hp

structure Sl (K : PySem.W.Frag) (g : Gd) (O : List Nat) (F H : Hp) (σ : L2.St) (env : Env) : Prop where
  len : σ.length = env.length
  pu : ∀ i d, i ∉ O → env[i]? = some (some d) → ∃ v, σ[i]? = some (some v) ∧ Rep K F v d
  ow : ∀ i, i ∈ O → ∃ p o d, σ[i]? = some (some (.ref p)) ∧ env[i]? = some (some d) ∧ H p = some o ∧ ObR K F o d ∧ F p = none ∧ p ∉ g.ft ∧ g.he p = none
  di : ∀ i j p, i ∈ O → j ∈ O → σ[i]? = some (some (.ref p)) → σ[j]? = some (some (.ref p)) → i = j
structure Stt (K : PySem.W.Frag) (g : Gd) (O : List Nat) (F H : Hp) (σ : L2.St) (env : Env) (s : Sto) : Prop where
  bs : Bs K g.ft F H s
  sl : Sl K g O F H σ env
  go : Go g.ft g.f0 g.he F H

section
variable {K : PySem.W.Frag} {g : Gd} {O : List Nat} {F H F' H' : Hp} {σ : L2.St} {env : Env} {s s' : Sto}
theorem Sl.step (h : Sl K g O F H σ env) (x : Go g.ft F H F' H') : Sl K g O F' H' σ env where
  len := h.len
  pu := fun i d hi e => by
    obtain ⟨v, e1, r⟩ := h.pu i d hi e
    exact ⟨v, e1, Rep.mono x.sam _ _ r⟩
  ow := fun i hi => by
    obtain ⟨p, o, d, e1, e2, e3, r, n, nf, nh⟩ := h.ow i hi
    refine ⟨p, o, d, e1, e2, x.ext p o e3 nf, r.mono x.sam, ?_, nf, nh⟩
    cases q : F' p with
    | none => rfl
    | some u =>
      rcases x.new p u q with z | z
      · rw [n] at z; cases z
      · rw [e3] at z; cases z
  di := h.di
theorem Stt.step (h : Stt K g O F H σ env s) (x : Go g.ft F H F' H') (b : Bs K g.ft F' H' s') : Stt K g O F' H' σ env s' :=
  ⟨b, h.sl.step x, h.go.trans x h.bs⟩
end

def tD (K : PySem.W.Frag) (O : List Nat) (f : Fe) : TE := fun σ H Q => ∃ g F env s d s', Stt K g O F H σ env s ∧ f env s = some (d, s') ∧
  ∀ v F' H', Go g.ft F H F' H' → Bs K g.ft F' H' s' → Rep K F' v d → Q v H'
def RepB (K : PySem.W.Frag) (ft : List Addr) (F H : Hp) (v : V) (d : Dt) : Prop := Rep K F v d ∨ ∃ p o, v = .ref p ∧ H p = some o ∧ ObR K F o d ∧ p ∉ ft
def tB (K : PySem.W.Frag) (O : List Nat) (f : Fe) : TE := fun σ H Q => ∃ g F env s d s', Stt K g O F H σ env s ∧ f env s = some (d, s') ∧
  ∀ v F' H', Go g.ft F H F' H' → Bs K g.ft F' H' s' → RepB K g.ft F' H' v d → Q v H'
def tN (K : PySem.W.Frag) (O : List Nat) (f : Fe) : TE := fun σ H Q => ∃ g F env s d s', Stt K g O F H σ env s ∧ f env s = some (d, s') ∧
  ∀ p o F' H', Go g.ft F H F' H' → Bs K g.ft F' H' s' → H p = none → F' p = none → H' p = some o → ObR K F' o d → Q (.ref p) H'

section
variable {X : Cx} {e : Expr}
theorem pe_imp {t t' : TE} (h : PE X e t) (k : ∀ σ H Q, t' σ H Q → t σ H Q) : PE X e t' := ⟨fun pins s σ H Q I q => h.run pins s σ H Q I (k σ H Q q)⟩
variable {K : PySem.W.Frag} {O : List Nat} {f : Fe}
theorem RepB.step {ft : List Addr} {F H F' H' : Hp} {v : V} {d : Dt} (r : RepB K ft F H v d) (x : Go ft F H F' H') : RepB K ft F' H' v d := by
  rcases r with r | ⟨p, o, rfl, e, r, n⟩
  · exact .inl (Rep.mono x.sam _ _ r)
  · exact .inr ⟨p, o, rfl, x.ext p o e n, r.mono x.sam, n⟩
theorem b_of_d (h : PE X e (tD K O f)) : PE X e (tB K O f) := pe_imp h fun σ H Q ⟨g, F, env, s, d, s', st, hf, k⟩ => ⟨g, F, env, s, d, s', st, hf, fun v F' H' x b r => k v F' H' x b (.inl r)⟩
theorem b_of_n (h : PE X e (tN K O f)) : PE X e (tB K O f) := pe_imp h fun σ H Q ⟨g, F, env, s, d, s', st, hf, k⟩ =>
  ⟨g, F, env, s, d, s', st, hf, fun p o F' H' x b n _ e r => k (.ref p) F' H' x b (.inr ⟨p, o, rfl, e, r, st.bs.nofree n⟩)⟩
theorem pe_lk {t : TE} (h : PE X e t) : PE X e (fun σ H Q => t σ H fun v H1 => Lk (Q v) H1) := by
  refine ⟨fun pins s σ H Q I hw => thn (h.run pins s σ H _ I hw) fun v s1 ⟨x, H1, I2, r, q⟩ => ?_⟩
  obtain ⟨H2, I3, q2⟩ := q.inv I2
  exact ⟨x, H2, I3, r, q2⟩
theorem own_lk {ft : List Addr} {F H F' H' : Hp} {s s' : Sto} {p : Addr} {o : HO} {d : Dt} {Q : Hp → Prop} (b0 : Bs K ft F H s) (x : Go ft F H F' H') (b : Bs K ft F' H' s') (n : H p = none) (n' : F' p = none) (e : H' p = some o) (r : ObR K F' o d)
    (k : ∀ F1 H1, Go ft F H F1 H1 → Bs K ft F1 H1 s' → Rep K F1 (.ref p) d → Q H1) : Lk Q H' := by
  cases r with
  | @lst vs ds q =>
    obtain ⟨x1, b1⟩ := x.frost b n n' e (b0.nofree n)
    exact .done (k _ H' x1 b1 (ObR.rep (.lst q) n'))
  | @dct vs ds q =>
    refine .lock e trivial fun od => .done ?_
    obtain ⟨x1, b1⟩ := x.frostL (o' := .frz od (.dK vs)) b n n' e (b0.nofree n)
    exact k _ _ x1 b1 (ObR.repL (.dct q) n')
theorem d_of_n (h : PE X e (tN K O f)) : PE X e (tD K O f) := pe_imp (pe_lk h) fun σ H Q ⟨g, F, env, s, d, s', st, hf, k⟩ =>
  ⟨g, F, env, s, d, s', st, hf, fun p o F' H' x b n n' e r => own_lk st.bs x b n n' e r fun F1 H1 x1 b1 rp => k (.ref p) F1 H1 x1 b1 rp⟩

def fVar (i : Nat) : Fe := fun env s => (env[i]?.join).map fun d => (d, s)
def fC (d : Dt) : Fe := fun _ s => some (d, s)
theorem d_var {i : Nat} (hi : i ∉ O) (h : PE X e (tVar i)) : PE X e (tD K O (fVar i)) := pe_imp h fun σ H Q ⟨g, F, env, s, d, s', st, hf, k⟩ => by
  unfold fVar at hf
  cases q : env[i]? with
  | none => rw [q] at hf; cases hf
  | some y =>
    cases y with
    | none => rw [q] at hf; cases hf
    | some d' =>
      rw [q] at hf
      cases hf
      obtain ⟨v, e1, r⟩ := st.sl.pu i d hi q
      exact ⟨v, e1, k v F H Go.refl st.bs r⟩
theorem b_var {i : Nat} (h : PE X e (tVar i)) : PE X e (tB K O (fVar i)) := pe_imp h fun σ H Q ⟨g, F, env, s, d, s', st, hf, k⟩ => by
  unfold fVar at hf
  cases q : env[i]? with
  | none => rw [q] at hf; cases hf
  | some y =>
    cases y with
    | none => rw [q] at hf; cases hf
    | some d' =>
      rw [q] at hf
      cases hf
      by_cases hi : i ∈ O
      · obtain ⟨p, o, d', e1, e2, e3, r, n, nf, _⟩ := st.sl.ow i hi
        rw [q] at e2; cases e2
        exact ⟨.ref p, e1, k _ F H Go.refl st.bs (.inr ⟨p, o, rfl, e3, r, nf⟩)⟩
      · obtain ⟨v, e1, r⟩ := st.sl.pu i d hi q
        exact ⟨v, e1, k v F H Go.refl st.bs (.inl r)⟩
theorem d_c {v : V} {d : Dt} (h : PE X e (tC v)) (r : ∀ F, Rep K F v d) : PE X e (tD K O (fC d)) := pe_imp h fun σ H Q ⟨g, F, env, s, d', s', st, hf, k⟩ => by
  cases hf
  exact k v F H Go.refl st.bs (r F)
theorem d_int {i j pos} : PE X (.Constant (.int i) j pos) (tD K O (fC (.int i))) := d_c pe_int fun _ => .int i
theorem d_str {x j pos} : PE X (.Constant (.str x) j pos) (tD K O (fC (.str x))) := d_c pe_str fun _ => .str x
theorem d_bl {b j pos} : PE X (.Constant (.bool b) j pos) (tD K O (fC (.bl b))) := d_c pe_bl fun _ => .bl b
end

def bind2 (fa fb : Fe) (g : Sto → Dt → Dt → Option Dt) : Fe := fun env s => do
  let (x, s1) ← fa env s
  let (y, s2) ← fb env s1
  let z ← g s2 x y
  some (z, s2)
def OpD (K : PySem.W.Frag) (r : R2) (g : Sto → Dt → Dt → Option Dt) : Prop := ∀ (ft : List Addr) (F H : Hp) (s : Sto) (v w : V) (x y z : Dt) (Q : VK), Bs K ft F H s → RepB K ft F H v x → RepB K ft F H w y → g s x y = some z →
  (∀ u F' H', Go ft F H F' H' → Bs K ft F' H' s → Rep K F' u z → Q u H') → r v w H Q
def OpN (K : PySem.W.Frag) (r : R2) (g : Sto → Dt → Dt → Option Dt) : Prop := ∀ (ft : List Addr) (F H : Hp) (s : Sto) (v w : V) (x y z : Dt) (Q : VK), Bs K ft F H s → RepB K ft F H v x → RepB K ft F H w y → g s x y = some z →
  (∀ p o, H p = none → ObR K F o z → Q (.ref p) (upd H p o)) → r v w H Q
theorem OpN.d {K : PySem.W.Frag} {r : R2} {g : Sto → Dt → Dt → Option Dt} (h : OpN K r g) (hz : ∀ s x y z, g s x y = some z → ∃ xs, z = .lst xs) : OpD K r g := fun ft F H s v w x y z Q b rx ry hg k =>
  h ft F H s v w x y z Q b rx ry hg fun p o n q => by
    obtain ⟨x1, b1⟩ := Go.lay (o := o) b n
    have nF : F p = none := (Go.made (o := o) b n).2.2
    obtain ⟨xs, rfl⟩ := hz s x y z hg
    cases q with
    | lst q => exact k (.ref p) _ _ x1 b1 (ObR.rep (.lst q) nF)
section
variable {X : Cx} {a b : Expr} {K : PySem.W.Frag} {O : List Nat} {fa fb : Fe}
theorem tOp_d {r : R2} {gg : Sto → Dt → Dt → Option Dt} (hg : OpD K r gg) (σ : L2.St) (H : Hp) (Q : VK) (h : tD K O (bind2 fa fb gg) σ H Q) : tOp r (tB K O fa) (tB K O fb) σ H Q := by
  obtain ⟨g, F, env, s, d, s', st, hf, k⟩ := h
  unfold bind2 at hf
  cases qa : fa env s with
  | none => rw [qa] at hf; cases hf
  | some pa =>
    obtain ⟨x, s1⟩ := pa
    rw [qa] at hf
    cases qb : fb env s1 with
    | none => simp [qb] at hf
    | some pb =>
      obtain ⟨y, s2⟩ := pb
      cases qg : gg s2 x y with
      | none => simp [qb, qg] at hf
      | some z =>
        simp [qb, qg] at hf
        obtain ⟨rfl, rfl⟩ := hf
        refine ⟨g, F, env, s, x, s1, st, qa, fun v F1 H1 x1 b1 r1 => ⟨g, F1, env, s1, y, s2, st.step x1 b1, qb, fun w F2 H2 x2 b2 r2 => ?_⟩⟩
        refine hg g.ft F2 H2 s2 v w x y z Q b2 (r1.step x2) r2 qg fun u F3 H3 x3 b3 r3 => ?_
        exact k u F3 H3 ((x1.trans x2 b1).trans x3 b2) b3 r3
theorem tOp_n {r : R2} {gg : Sto → Dt → Dt → Option Dt} (hg : OpN K r gg) (σ : L2.St) (H : Hp) (Q : VK) (h : tN K O (bind2 fa fb gg) σ H Q) : tOp r (tB K O fa) (tB K O fb) σ H Q := by
  obtain ⟨g, F, env, s, d, s', st, hf, k⟩ := h
  unfold bind2 at hf
  cases qa : fa env s with
  | none => rw [qa] at hf; cases hf
  | some pa =>
    obtain ⟨x, s1⟩ := pa
    rw [qa] at hf
    cases qb : fb env s1 with
    | none => simp [qb] at hf
    | some pb =>
      obtain ⟨y, s2⟩ := pb
      cases qg : gg s2 x y with
      | none => simp [qb, qg] at hf
      | some z =>
        simp [qb, qg] at hf
        obtain ⟨rfl, rfl⟩ := hf
        refine ⟨g, F, env, s, x, s1, st, qa, fun v F1 H1 x1 b1 r1 => ⟨g, F1, env, s1, y, s2, st.step x1 b1, qb, fun w F2 H2 x2 b2 r2 => ?_⟩⟩
        refine hg g.ft F2 H2 s2 v w x y z Q b2 (r1.step x2) r2 qg fun p o n q => ?_
        obtain ⟨x3, b3, n3⟩ := Go.made (o := o) b2 n
        exact k p o F2 _ ((x1.trans x2 b1).trans x3 b2) b3 ((x1.trans x2 b1).free b2 n) n3 upd_same q
end
theorem Go.layT {K : PySem.W.Frag} {ft : List Addr} {F H : Hp} {s : Sto} {p : Addr} {o : Obj} {vs : List V} {ds : List Dt} (b : Bs K ft F H s) (n : H p = none) (ho : o.dict = none) (r : Reps K F vs ds) :
    Go ft F H (upd F p (.frz o (.tup vs))) (upd H p (.frz o (.tup vs))) ∧ Bs K ft (upd F p (.frz o (.tup vs))) (upd H p (.frz o (.tup vs))) s ∧ Rep K (upd F p (.frz o (.tup vs))) (.ref p) (.tup ds) := by
  obtain ⟨x, b'⟩ := Go.lay (o := .frz o (.tup vs)) b n
  exact ⟨x, b', .tup (.inl (.inr ⟨o, upd_same⟩)) (.inl ⟨o, upd_same, ho⟩) (Reps.mono x.sam _ _ r)⟩
end DL

namespace DL
open PySem PySem.Spec PyProof.Rows L2

mutual
def py : Dt → PyData
  | .non => .none
  | .bl b => .bool b
  | .int i => .int i
  | .str x => .str x
  | .tup xs => .tuple (pys xs)
  | .lst xs => .list (pys xs)
  | .dct _ => .none
  | .ref _ => .none
  | .scr _ => .none
def pys : List Dt → List PyData
  | [] => []
  | x :: xs => py x :: pys xs
end
mutual
def plain : Dt → Bool
  | .non => true
  | .bl _ => true
  | .int _ => true
  | .str _ => true
  | .tup xs => plains xs
  | .lst xs => plains xs
  | .dct _ => false
  | .ref _ => false
  | .scr _ => false
def plains : List Dt → Bool
  | [] => true
  | x :: xs => plain x && plains xs
end
mutual
/-- data that may be compared and shown -/
def good : Dt → Bool
  | .non => true
  | .bl _ => true
  | .int i => decide (i.natAbs.log2 < 1920)
  | .str x => PyData.strOk x
  | .tup xs => goods xs
  | .lst xs => goods xs
  | .dct _ => false
  | .ref _ => false
  | .scr _ => false
def goods : List Dt → Bool
  | [] => true
  | x :: xs => good x && goods xs
end
mutual
def dep : Dt → Nat
  | .tup xs => deps xs + 1
  | .lst xs => deps xs + 1
  | _ => 0
def deps : List Dt → Nat
  | [] => 0
  | x :: xs => max (dep x) (deps xs)
end
mutual
theorem good_plain : ∀ d : Dt, good d = true → plain d = true ∧ (py d).canLay0 = true ∧ (py d).showable = true ∧ (py d).hasDict = false ∧ (py d).depth = dep d
  | .non, _ => ⟨rfl, rfl, rfl, rfl, rfl⟩
  | .bl _, _ => ⟨rfl, rfl, rfl, rfl, rfl⟩
  | .int i, h => ⟨rfl, rfl, by simpa [py, PyData.showable, good] using h, rfl, rfl⟩
  | .str x, h => ⟨rfl, by simpa [py, PyData.canLay0, good] using h, rfl, rfl, rfl⟩
  | .tup xs, h => by
    obtain ⟨h1, h2, h3, h4, h5⟩ := goods_plain xs (by simpa only [good] using h)
    exact ⟨by simpa only [plain] using h1, by simpa only [py, PyData.canLay0] using h2, by simpa only [py, PyData.showable] using h3, by simpa only [py, PyData.hasDict] using h4, by simp only [py, PyData.depth, dep, h5]⟩
  | .lst xs, h => by
    obtain ⟨h1, h2, h3, h4, h5⟩ := goods_plain xs (by simpa only [good] using h)
    exact ⟨by simpa only [plain] using h1, by simpa only [py, PyData.canLay0] using h2, by simpa only [py, PyData.showable] using h3, by simpa only [py, PyData.hasDict] using h4, by simp only [py, PyData.depth, dep, h5]⟩
  | .dct _, h => by simp only [good] at h; exact absurd h Bool.false_ne_true
  | .ref _, h => by simp only [good] at h; exact absurd h Bool.false_ne_true
  | .scr _, h => by simp only [good] at h; exact absurd h Bool.false_ne_true
theorem goods_plain : ∀ ds : List Dt, goods ds = true → plains ds = true ∧ PyData.canLayAll0 (pys ds) = true ∧ PyData.showableAll (pys ds) = true ∧ PyData.hasDictAll (pys ds) = false ∧ PyData.depthAll (pys ds) = deps ds
  | [], _ => ⟨rfl, rfl, rfl, rfl, rfl⟩
  | d :: ds, h => by
    simp only [goods, Bool.and_eq_true] at h
    obtain ⟨a1, a2, a3, a4, a5⟩ := good_plain d h.1
    obtain ⟨b1, b2, b3, b4, b5⟩ := goods_plain ds h.2
    exact ⟨by simp [plains, a1, b1], by simp [pys, PyData.canLayAll0, a2, b2], by simp [pys, PyData.showableAll, a3, b3], by simp [pys, PyData.hasDictAll, a4, b4], by simp only [pys, PyData.depthAll, deps, a5, b5]⟩
end
section
variable {K : PySem.W.Frag} {F H : Hp}
mutual
theorem Rep.dp (e : Same F H) : ∀ (d : Dt) (v : V), Rep K F v d → plain d = true → Dp K H v (py d)
  | .non, _, h, _ => by cases h; exact .non
  | .bl b, _, h, _ => by cases h; exact .bl b
  | .int i, _, h, _ => by cases h; exact .int i
  | .str x, _, h, _ => by cases h; exact .str x
  | .tup ds, _, h, p => by
    cases h with
    | tup h1 hp h2 => exact .tup (sqT_same e h1) (Reps.dp e ds _ h2 (by simpa only [plain] using p))
  | .lst ds, _, h, p => by
    cases h with
    | lst h1 h2 => exact .lst (SqL.of (e _ _ h1)) (Reps.dp e ds _ h2 (by simpa only [plain] using p))
  | .dct _, _, _, p => by simp only [plain] at p; exact absurd p Bool.false_ne_true
  | .ref _, _, _, p => by simp only [plain] at p; exact absurd p Bool.false_ne_true
  | .scr _, _, _, p => by simp only [plain] at p; exact absurd p Bool.false_ne_true
theorem Reps.dp (e : Same F H) : ∀ (ds : List Dt) (vs : List V), Reps K F vs ds → plains ds = true → DpAll K H vs (pys ds)
  | [], _, h, _ => by cases h; exact .nil
  | d :: ds, _, h, p => by
    cases h with
    | cons h1 h2 =>
      simp only [plains, Bool.and_eq_true] at p
      exact .cons (Rep.dp e d _ h1 p.1) (Reps.dp e ds _ h2 p.2)
end
theorem RepB.dp {ft : List Addr} {v : V} {d : Dt} (e : Same F H) (r : RepB K ft F H v d) (p : plain d = true) : Dp K H v (py d) := by
  rcases r with r | ⟨a, o, rfl, eo, r, _⟩
  · exact Rep.dp e d v r p
  · cases r with
    | lst r => exact .lst (SqL.of eo) (Reps.dp e _ _ r (by simpa only [plain] using p))
    | dct r => simp only [plain] at p; exact absurd p Bool.false_ne_true
theorem RepB.str {ft : List Addr} {v : V} {x : Str} (r : RepB K ft F H v (.str x)) : v = .str x := by
  rcases r with r | ⟨a, o, rfl, eo, r, _⟩
  · cases r; rfl
  · cases r
theorem RepB.int {ft : List Addr} {v : V} {x : Int} (r : RepB K ft F H v (.int x)) : v = .int x := by
  rcases r with r | ⟨a, o, rfl, eo, r, _⟩
  · cases r; rfl
  · cases r
theorem RepB.bl {ft : List Addr} {v : V} {x : Bool} (r : RepB K ft F H v (.bl x)) : v = .bl x := by
  rcases r with r | ⟨a, o, rfl, eo, r, _⟩
  · cases r; rfl
  · cases r
theorem RepB.non {ft : List Addr} {v : V} (r : RepB K ft F H v .non) : v = .non := by
  rcases r with r | ⟨a, o, rfl, eo, r, _⟩
  · cases r; rfl
  · cases r
theorem RepB.ref {ft : List Addr} {v : V} {a : Addr} (r : RepB K ft F H v (.ref a)) : v = .ref a := by
  rcases r with r | ⟨a, o, rfl, eo, r, _⟩
  · cases r; rfl
  · cases r
theorem RepB.lst {ft : List Addr} {v : V} {ds : List Dt} {s : Sto} (b : Bs K ft F H s) (r : RepB K ft F H v (.lst ds)) : ∃ a vs, v = .ref a ∧ H a = some (.lst vs) ∧ Reps K F vs ds := by
  rcases r with r | ⟨a, o, rfl, eo, r, _⟩
  · cases r with
    | lst h1 h2 => exact ⟨_, _, rfl, b.sub _ _ h1, h2⟩
  · cases r with
    | lst r => exact ⟨_, _, rfl, eo, r⟩
theorem RepB.dct {ft : List Addr} {v : V} {ds : List (Key × Dt)} {s : Sto} (b : Bs K ft F H s) (r : RepB K ft F H v (.dct ds)) : ∃ a vs, v = .ref a ∧ Rd H a (.dK vs) ∧ Repk K F vs ds := by
  rcases r with r | ⟨a, o, rfl, eo, r, _⟩
  · cases r with
    | dct h1 h2 => exact ⟨_, _, rfl, .inr ⟨_, b.sub _ _ h1⟩, h2⟩
  · cases r with
    | dct r => exact ⟨_, _, rfl, .inl eo, r⟩
theorem RepB.tup {ft : List Addr} {v : V} {ds : List Dt} {s : Sto} (b : Bs K ft F H s) (r : RepB K ft F H v (.tup ds)) : ∃ a vs, v = .ref a ∧ SqT K H a vs ∧ Reps K F vs ds := by
  rcases r with r | ⟨a, o, rfl, eo, r, _⟩
  · cases r with
    | tup h1 hp h2 => exact ⟨_, _, rfl, sqT_same b.sub h1, h2⟩
  · cases r
theorem RepB.scr {ft : List Addr} {v : V} {ns : List Int} {s : Sto} (b : Bs K ft F H s) (r : RepB K ft F H v (.scr ns)) : ∃ a, v = .ref a ∧ SqL K H a (ns.map V.int) := by
  rcases r with r | ⟨a, o, rfl, eo, r, _⟩
  · cases r with
    | scr h1 => exact ⟨_, rfl, b.sub.seq h1⟩
  · cases r
end

def addG (_ : Sto) : Dt → Dt → Option Dt
  | .int i, .int j => some (.int (i + j))
  | .str a, .str b => if a.length + b.length ≤ sizeLine then some (.str (a ++ b)) else none
  | .tup a, .tup b => if a.length + b.length ≤ sizeLine then some (.tup (a ++ b)) else none
  | _, _ => none
def catG (_ : Sto) : Dt → Dt → Option Dt
  | .lst a, .lst b => if a.length + b.length ≤ sizeLine then some (.lst (a ++ b)) else none
  | _, _ => none
def subG (_ : Sto) : Dt → Dt → Option Dt
  | .int i, .int j => some (.int (i - j))
  | _, _ => none
def mulG (_ : Sto) : Dt → Dt → Option Dt
  | .int i, .int j => if i.natAbs.log2 + j.natAbs.log2 < 1000000 then some (.int (i * j)) else none
  | _, _ => none
def modG (_ : Sto) : Dt → Dt → Option Dt
  | .int i, .int j => if 0 < j then some (.int (i % j)) else none
  | _, _ => none
def divG (_ : Sto) : Dt → Dt → Option Dt
  | .int i, .int j => if 0 < j ∧ j < 1073741824 then some (.int (i / j)) else none
  | _, _ => none
def powG (_ : Sto) : Dt → Dt → Option Dt
  | .int i, .int j => if 0 ≤ j ∧ j ≤ 1000000 ∧ i.natAbs < 2 ^ 64 then some (.int (i ^ j.toNat)) else none
  | _, _ => none

section
variable {X : Cx}
def rAddA (K : PySem.W.Frag) : R2 := fun x y H Q => (rI0 fun i j => .int (i + j)) x y H Q ∨ (∃ i j, x = .str i ∧ y = .str j ∧ i.length + j.length ≤ sizeLine ∧ Q (.str (i ++ j)) H) ∨ rCatF K x y H Q
theorem op_addA : OpR X (binaryOp .Add) (rAddA X.K) := op_add.or (op_add_str.or op_catF)
theorem opd_add {K : PySem.W.Frag} : OpD K (rAddA K) addG := by
  intro ft F H s v w x y z Q b rx ry hg k
  cases x <;> cases y <;> simp only [addG] at hg <;> try (cases hg; done)
  · cases hg
    exact .inl ⟨_, _, rx.int, ry.int, k _ F H Go.refl b (.int _)⟩
  · split at hg <;> cases hg
    rename_i hl
    exact .inr (.inl ⟨_, _, rx.str, ry.str, hl, k _ F H Go.refl b (.str _)⟩)
  · split at hg <;> cases hg
    rename_i xs ys hl
    obtain ⟨a1, v1, rfl, e1, r1⟩ := rx.tup b
    obtain ⟨a2, v2, rfl, e2, r2⟩ := ry.tup b
    refine .inr (.inr ⟨a1, a2, v1, v2, rfl, rfl, e1, e2, by rw [r1.length, r2.length]; exact hl, fun z => ?_, fun _ z => ?_, fun _ _ p o np ho => ?_⟩)
    · subst z
      cases r1
      rcases ry with r | ⟨_, _, _, _, r, _⟩
      · exact k _ F H Go.refl b r
      · cases r
    · subst z
      cases r2
      rw [List.append_nil] at k
      rcases rx with r | ⟨_, _, _, _, r, _⟩
      · exact k _ F H Go.refl b r
      · cases r
    · obtain ⟨x1, b1, r3⟩ := Go.layT b np ho (r1.append r2)
      exact k (.ref p) _ _ x1 b1 r3
theorem opn_cat {K : PySem.W.Frag} : OpN K rCat catG := by
  intro ft F H s v w x y z Q b rx ry hg k
  cases x <;> cases y <;> simp only [catG] at hg <;> try (cases hg; done)
  split at hg <;> cases hg
  rename_i xs ys hl
  obtain ⟨a1, v1, rfl, e1, r1⟩ := rx.lst b
  obtain ⟨a2, v2, rfl, e2, r2⟩ := ry.lst b
  exact ⟨a1, a2, v1, v2, rfl, rfl, e1, e2, by rw [r1.length, r2.length]; exact hl, fun p np => k p _ np (.lst (r1.append r2))⟩
theorem opd_int0 {K : PySem.W.Frag} {gg : Sto → Dt → Dt → Option Dt} {C : Int → Int → Prop} {f : Int → Int → V} {fd : Int → Int → Dt} (hf : ∀ F i j, Rep K F (f i j) (fd i j))
    (hgg : ∀ s x y z, gg s x y = some z → ∃ i j, x = .int i ∧ y = .int j ∧ C i j ∧ z = fd i j) : OpD K (rI C f) gg := by
  intro ft F H s v w x y z Q b rx ry hg k
  obtain ⟨i, j, rfl, rfl, c, rfl⟩ := hgg _ _ _ _ hg
  exact ⟨i, j, rx.int, ry.int, c, k _ F H Go.refl b (hf F i j)⟩
theorem opd_sub {K : PySem.W.Frag} : OpD K (rI0 fun i j => .int (i - j)) subG := by
  intro ft F H s v w x y z Q b rx ry hg k
  cases x <;> cases y <;> simp only [subG] at hg <;> try (cases hg; done)
  cases hg
  exact ⟨_, _, rx.int, ry.int, k _ F H Go.refl b (.int _)⟩
theorem opd_mul {K : PySem.W.Frag} : OpD K (rI CMulW fun i j => .int (i * j)) mulG := opd_int0 (fd := fun i j => .int (i * j)) (fun F i j => .int _) fun s x y z h => by
  cases x <;> cases y <;> simp only [mulG] at h <;> try (cases h; done)
  split at h <;> cases h
  rename_i c
  exact ⟨_, _, rfl, rfl, c, rfl⟩
theorem opd_mod {K : PySem.W.Frag} : OpD K (rI (fun _ j => 0 < j) fun i j => .int (i % j)) modG := opd_int0 (fd := fun i j => .int (i % j)) (fun F i j => .int _) fun s x y z h => by
  cases x <;> cases y <;> simp only [modG] at h <;> try (cases h; done)
  split at h <;> cases h
  rename_i c
  exact ⟨_, _, rfl, rfl, c, rfl⟩
theorem opd_div {K : PySem.W.Frag} : OpD K (rI CDiv fun i j => .int (i / j)) divG := opd_int0 (fd := fun i j => .int (i / j)) (fun F i j => .int _) fun s x y z h => by
  cases x <;> cases y <;> simp only [divG] at h <;> try (cases h; done)
  split at h <;> cases h
  rename_i c
  exact ⟨_, _, rfl, rfl, c, rfl⟩
theorem opd_pow {K : PySem.W.Frag} : OpD K (rI CPow fun i j => .int (i ^ j.toNat)) powG := opd_int0 (fd := fun i j => .int (i ^ j.toNat)) (fun F i j => .int _) fun s x y z h => by
  cases x <;> cases y <;> simp only [powG] at h <;> try (cases h; done)
  split at h <;> cases h
  rename_i c
  exact ⟨_, _, rfl, rfl, c, rfl⟩
variable {O : List Nat} {a b : Expr} {fa fb : Fe} {pos : Pos}
theorem d_bin {op : Operator} {r : R2} {gg : Sto → Dt → Dt → Option Dt} (ho : OpR X (binaryOp op) r) (hg : OpD X.K r gg) (ha : PE X a (tB X.K O fa)) (hb : PE X b (tB X.K O fb)) : PE X (.BinOp a op b pos) (tD X.K O (bind2 fa fb gg)) :=
  pe_imp (pe_op ho ha hb) (tOp_d hg)
theorem d_sub (ha : PE X a (tB X.K O fa)) (hb : PE X b (tB X.K O fb)) : PE X (.BinOp a .Sub b pos) (tD X.K O (bind2 fa fb subG)) := d_bin op_sub opd_sub ha hb
theorem d_mul (ha : PE X a (tB X.K O fa)) (hb : PE X b (tB X.K O fb)) : PE X (.BinOp a .Mult b pos) (tD X.K O (bind2 fa fb mulG)) := d_bin op_mulW opd_mul ha hb
theorem d_mod (ha : PE X a (tB X.K O fa)) (hb : PE X b (tB X.K O fb)) : PE X (.BinOp a .Mod b pos) (tD X.K O (bind2 fa fb modG)) := d_bin op_mod opd_mod ha hb
theorem d_div (ha : PE X a (tB X.K O fa)) (hb : PE X b (tB X.K O fb)) : PE X (.BinOp a .FloorDiv b pos) (tD X.K O (bind2 fa fb divG)) := d_bin op_fdiv opd_div ha hb
theorem d_pow (ha : PE X a (tB X.K O fa)) (hb : PE X b (tB X.K O fb)) : PE X (.BinOp a .Pow b pos) (tD X.K O (bind2 fa fb powG)) := d_bin op_pow opd_pow ha hb
theorem n_cat (ha : PE X a (tB X.K O fa)) (hb : PE X b (tB X.K O fb)) : PE X (.BinOp a .Add b pos) (tN X.K O (bind2 fa fb catG)) := pe_imp (pe_op op_cat ha hb) (tOp_n opn_cat)
def bind1 (fa : Fe) (g : Sto → Dt → Option Dt) : Fe := fun env s => do
  let (x, s1) ← fa env s
  let z ← g s1 x
  some (z, s1)
def negG (_ : Sto) : Dt → Option Dt
  | .int i => some (.int (-i))
  | _ => none
def OneD (K : PySem.W.Frag) (r : V → Hp → VK → Prop) (g : Sto → Dt → Option Dt) : Prop := ∀ (ft : List Addr) (F H : Hp) (s : Sto) (v : V) (x z : Dt) (Q : VK), Bs K ft F H s → RepB K ft F H v x → g s x = some z →
  (∀ u F' H', Go ft F H F' H' → Bs K ft F' H' s → Rep K F' u z → Q u H') → r v H Q
theorem bind1_some {f : Fe} {g : Sto → Dt → Option Dt} {env : Env} {s s' : Sto} {d : Dt} (h : bind1 f g env s = some (d, s')) : ∃ x, f env s = some (x, s') ∧ g s' x = some d := by
  unfold bind1 at h
  cases q : f env s with
  | none => rw [q] at h; cases h
  | some p =>
    obtain ⟨x, s1⟩ := p
    cases qg : g s1 x with
    | none => simp [q, qg] at h
    | some z =>
      simp [q, qg] at h
      obtain ⟨rfl, rfl⟩ := h
      exact ⟨x, rfl, qg⟩
theorem tUn_d {r : V → Hp → VK → Prop} {gg : Sto → Dt → Option Dt} {K : PySem.W.Frag} (hg : OneD K r gg) (σ : L2.St) (H : Hp) (Q : VK) (h : tD K O (bind1 fa gg) σ H Q) : tUn r (tB K O fa) σ H Q := by
  obtain ⟨g, F, env, s, d, s', st, hf, k⟩ := h
  obtain ⟨x, q1, q2⟩ := bind1_some hf
  exact ⟨g, F, env, s, x, s', st, q1, fun v F1 H1 x1 b1 r1 => hg g.ft F1 H1 s' v x d Q b1 r1 q2 fun u F2 H2 x2 b2 r2 => k u F2 H2 (x1.trans x2 b1) b2 r2⟩
theorem d_neg (ha : PE X a (tB X.K O fa)) : PE X (.UnaryOp .USub a pos) (tD X.K O (bind1 fa negG)) := pe_imp (pe_un un_neg ha) (tUn_d fun ft F H s v x z Q b rx hg k => by
  cases x <;> simp only [negG] at hg <;> try (cases hg; done)
  cases hg
  exact ⟨_, rx.int, k _ F H Go.refl b (.int _)⟩)
end

def eqG (_ : Sto) : Dt → Dt → Option Dt
  | .str a, .str b => some (.bl (decide (a = b)))
  | .int a, .int b => some (.bl (decide (a = b)))
  | x, y => if plain x = true ∧ plain y = true ∧ SeqAt.shaped (py x) = true ∧ SeqAt.shaped (py y) = true then some (.bl (PyData.eqv (py x) (py y))) else none
def neG (s : Sto) (x y : Dt) : Option Dt := match eqG s x y with
  | some (.bl b) => some (.bl (!b))
  | _ => none
def ltG (_ : Sto) : Dt → Dt → Option Dt
  | .int i, .int j => some (.bl (decide (i < j)))
  | .str a, .str b => some (.bl (decide (a.cps.toList < b.cps.toList)))
  | _, _ => none
def gtG (_ : Sto) : Dt → Dt → Option Dt
  | .int i, .int j => some (.bl (decide (j < i)))
  | .str a, .str b => some (.bl (decide (b.cps.toList < a.cps.toList)))
  | _, _ => none
def leG (_ : Sto) : Dt → Dt → Option Dt
  | .int i, .int j => some (.bl (decide (i ≤ j)))
  | .str a, .str b => some (.bl (!decide (b.cps.toList < a.cps.toList)))
  | _, _ => none
def geG (_ : Sto) : Dt → Dt → Option Dt
  | .int i, .int j => some (.bl (decide (j ≤ i)))
  | .str a, .str b => some (.bl (!decide (a.cps.toList < b.cps.toList)))
  | _, _ => none
section
variable {K : PySem.W.Frag}
theorem eq_cases {s : Sto} {x y z : Dt} (h : eqG s x y = some z) : (∃ a b, x = .str a ∧ y = .str b ∧ z = .bl (decide (a = b))) ∨ (∃ a b, x = .int a ∧ y = .int b ∧ z = .bl (decide (a = b))) ∨
    (plain x = true ∧ plain y = true ∧ SeqAt.shaped (py x) = true ∧ SeqAt.shaped (py y) = true ∧ z = .bl (PyData.eqv (py x) (py y))) := by
  unfold eqG at h
  split at h
  · cases h; exact .inl ⟨_, _, rfl, rfl, rfl⟩
  · cases h; exact .inr (.inl ⟨_, _, rfl, rfl, rfl⟩)
  · split at h
    · rename_i c
      cases h
      exact .inr (.inr ⟨c.1, c.2.1, c.2.2.1, c.2.2.2, rfl⟩)
    · cases h
def rEqA (K : PySem.W.Frag) : R2 := fun x y H Q => rEq x y H Q ∨ rEqD K x y H Q
def rNeA (K : PySem.W.Frag) : R2 := fun x y H Q => rNe x y H Q ∨ rNeD K x y H Q
theorem op_eqA {X : Cx} (hu : X.A.units + 64 < cLine) : OpR X (compareOp .Eq) (rEqA X.K) := op_eq.or (op_eqD hu)
theorem op_neA {X : Cx} (hu : X.A.units + 64 < cLine) : OpR X (compareOp .NotEq) (rNeA X.K) := op_ne.or (op_neD hu)
theorem dec_V_str {a b : Str} : decide (V.str a = V.str b) = decide (a = b) := by
  by_cases h : a = b
  · subst h; simp
  · rw [decide_eq_false h, decide_eq_false (fun q => h (V.str.inj q))]
theorem dec_V_int {a b : Int} : decide (V.int a = V.int b) = decide (a = b) := by
  by_cases h : a = b
  · subst h; simp
  · rw [decide_eq_false h, decide_eq_false (fun q => h (V.int.inj q))]
theorem opd_eq : OpD K (rEqA K) eqG := by
  intro ft F H s v w x y z Q b rx ry hg k
  rcases eq_cases hg with ⟨a, c, rfl, rfl, rfl⟩ | ⟨a, c, rfl, rfl, rfl⟩ | ⟨p1, p2, s1, s2, rfl⟩
  · obtain rfl := rx.str
    obtain rfl := ry.str
    exact .inl ⟨rfl, by rw [dec_V_str]; exact k _ F H Go.refl b (.bl _)⟩
  · obtain rfl := rx.int
    obtain rfl := ry.int
    exact .inl ⟨rfl, by rw [dec_V_int]; exact k _ F H Go.refl b (.bl _)⟩
  · exact .inr ⟨_, _, rx.dp b.sub p1, ry.dp b.sub p2, s1, s2, k _ F H Go.refl b (.bl _)⟩
theorem opd_ne : OpD K (rNeA K) neG := by
  intro ft F H s v w x y z Q b rx ry hg k
  unfold neG at hg
  split at hg
  · rename_i e hq
    cases hg
    rcases eq_cases hq with ⟨a, c, rfl, rfl, hz⟩ | ⟨a, c, rfl, rfl, hz⟩ | ⟨p1, p2, s1, s2, hz⟩
    · cases hz
      obtain rfl := rx.str
      obtain rfl := ry.str
      exact .inl ⟨rfl, by rw [dec_V_str]; exact k _ F H Go.refl b (.bl _)⟩
    · cases hz
      obtain rfl := rx.int
      obtain rfl := ry.int
      exact .inl ⟨rfl, by rw [dec_V_int]; exact k _ F H Go.refl b (.bl _)⟩
    · cases hz
      exact .inr ⟨_, _, rx.dp b.sub p1, ry.dp b.sub p2, s1, s2, k _ F H Go.refl b (.bl _)⟩
  · cases hg
def rLtA : R2 := fun x y H Q => (rI0 fun i j => .bl (decide (i < j))) x y H Q ∨ ∃ i j, x = .str i ∧ y = .str j ∧ Q (.bl (decide (i.cps.toList < j.cps.toList))) H
def rLeA : R2 := fun x y H Q => (rI0 fun i j => .bl (decide (i ≤ j))) x y H Q ∨ ∃ i j, x = .str i ∧ y = .str j ∧ Q (.bl (!decide (j.cps.toList < i.cps.toList))) H
def rGtA : R2 := fun x y H Q => (rI0 fun i j => .bl (decide (j < i))) x y H Q ∨ ∃ i j, x = .str i ∧ y = .str j ∧ Q (.bl (decide (j.cps.toList < i.cps.toList))) H
def rGeA : R2 := fun x y H Q => (rI0 fun i j => .bl (decide (j ≤ i))) x y H Q ∨ ∃ i j, x = .str i ∧ y = .str j ∧ Q (.bl (!decide (i.cps.toList < j.cps.toList))) H
theorem op_ltA {X : Cx} : OpR X (compareOp .Lt) rLtA := op_lt.or op_lt_str
theorem op_leA {X : Cx} : OpR X (compareOp .LtE) rLeA := op_le.or op_le_str
theorem op_gtA {X : Cx} : OpR X (compareOp .Gt) rGtA := op_gt.or op_gt_str
theorem op_geA {X : Cx} : OpR X (compareOp .GtE) rGeA := op_ge.or op_ge_str
theorem opd_lt : OpD K rLtA ltG := by
  intro ft F H s v w x y z Q b rx ry hg k
  cases x <;> cases y <;> simp only [ltG] at hg <;> try (cases hg; done)
  · cases hg; exact .inl ⟨_, _, rx.int, ry.int, k _ F H Go.refl b (.bl _)⟩
  · cases hg; exact .inr ⟨_, _, rx.str, ry.str, k _ F H Go.refl b (.bl _)⟩
theorem opd_le : OpD K rLeA leG := by
  intro ft F H s v w x y z Q b rx ry hg k
  cases x <;> cases y <;> simp only [leG] at hg <;> try (cases hg; done)
  · cases hg; exact .inl ⟨_, _, rx.int, ry.int, k _ F H Go.refl b (.bl _)⟩
  · cases hg; exact .inr ⟨_, _, rx.str, ry.str, k _ F H Go.refl b (.bl _)⟩
theorem opd_gt : OpD K rGtA gtG := by
  intro ft F H s v w x y z Q b rx ry hg k
  cases x <;> cases y <;> simp only [gtG] at hg <;> try (cases hg; done)
  · cases hg; exact .inl ⟨_, _, rx.int, ry.int, k _ F H Go.refl b (.bl _)⟩
  · cases hg; exact .inr ⟨_, _, rx.str, ry.str, k _ F H Go.refl b (.bl _)⟩
theorem opd_ge : OpD K rGeA geG := by
  intro ft F H s v w x y z Q b rx ry hg k
  cases x <;> cases y <;> simp only [geG] at hg <;> try (cases hg; done)
  · cases hg; exact .inl ⟨_, _, rx.int, ry.int, k _ F H Go.refl b (.bl _)⟩
  · cases hg; exact .inr ⟨_, _, rx.str, ry.str, k _ F H Go.refl b (.bl _)⟩
end

def flatD : Dt → Bool
  | .non => true
  | .bl _ => true
  | .int _ => true
  | .str _ => true
  | _ => false
def eqF : Dt → Dt → Bool
  | .non, .non => true
  | .bl a, .bl b => a == b
  | .bl a, .int b => (if a then 1 else 0) == b
  | .int a, .bl b => a == (if b then 1 else 0)
  | .int a, .int b => a == b
  | .str a, .str b => a == b
  | _, _ => false
def occ (j i : Str) : Bool := !(Builtin.Str.occurrences j i 0 j.length 1).isEmpty
def inB (_ : Sto) : Dt → Dt → Option Bool
  | .str i, .str j => some (occ j i)
  | x, .lst ys => if flatD x = true ∧ ys.all flatD = true then some (ys.any fun y => eqF y x) else none
  | x, .tup ys => if flatD x = true ∧ ys.all flatD = true then some (ys.any fun y => eqF y x) else none
  | _, _ => none
def inG (s : Sto) (x y : Dt) : Option Dt := (inB s x y).map Dt.bl
def notInG (s : Sto) (x y : Dt) : Option Dt := (inB s x y).map fun b => Dt.bl (!b)
section
variable {K : PySem.W.Frag}
theorem flat_V {F : Hp} {v : V} {x : Dt} (r : Rep K F v x) (h : flatD x = true) : flatV v = true := by
  cases r <;> first | rfl | (simp only [flatD] at h; exact absurd h Bool.false_ne_true)
theorem eqF_V {F : Hp} {v w : V} {x y : Dt} (r : Rep K F v x) (q : Rep K F w y) (h : flatD x = true) (h' : flatD y = true) : eqV v w = eqF x y := by
  cases r <;> cases q <;> first | rfl | (simp only [flatD] at h h'; first | exact absurd h Bool.false_ne_true | exact absurd h' Bool.false_ne_true)
theorem flats_V {F : Hp} : ∀ {vs : List V} {ds : List Dt}, Reps K F vs ds → ds.all flatD = true → vs.all flatV = true
  | [], [], _, _ => rfl
  | [], _ :: _, h, _ => by cases h
  | _ :: _, [], h, _ => by cases h
  | _ :: _, _ :: _, h, p => by
    cases h with
    | cons h1 h2 =>
      rw [List.all_cons, Bool.and_eq_true] at p ⊢
      exact ⟨flat_V h1 p.1, flats_V h2 p.2⟩
theorem inV_D {F : Hp} {v : V} {x : Dt} (r : Rep K F v x) (h : flatD x = true) : ∀ {vs : List V} {ds : List Dt}, Reps K F vs ds → ds.all flatD = true → inV v vs = ds.any fun y => eqF y x
  | [], [], _, _ => rfl
  | [], _ :: _, h, _ => by cases h
  | _ :: _, [], h, _ => by cases h
  | _ :: vs, _ :: ds, q, p => by
    cases q with
    | cons h1 h2 =>
      rw [List.all_cons, Bool.and_eq_true] at p
      have ih := inV_D r h h2 p.2
      unfold inV at ih ⊢
      rw [List.any_cons, List.any_cons, ih, eqF_V h1 r p.1 h]
theorem RepB.flat {ft : List Addr} {F H : Hp} {v : V} {d : Dt} (r : RepB K ft F H v d) (h : flatD d = true) : Rep K F v d := by
  rcases r with r | ⟨a, o, rfl, eo, r, _⟩
  · exact r
  · cases r <;> (simp only [flatD] at h; exact absurd h Bool.false_ne_true)
def rInA (K : PySem.W.Frag) (n : Bool) : R2 := fun x y H Q => (∃ i j, x = .str i ∧ y = .str j ∧ Q (.bl (if n then !occ j i else occ j i)) H) ∨ rIn K n x y H Q
theorem op_inA {X : Cx} : OpR X (compareOp .In) (rInA X.K false) := OpR.or op_in_str op_in_seq
theorem op_notInA {X : Cx} : OpR X (compareOp .NotIn) (rInA X.K true) := OpR.or op_notin_str op_notIn_seq
theorem opd_inA {n : Bool} : OpD K (rInA K n) (fun s x y => (inB s x y).map fun b => Dt.bl (if n then !b else b)) := by
  intro ft F H s v w x y z Q b rx ry hg k
  dsimp only at hg
  cases q : inB s x y with
  | none => rw [q] at hg; cases hg
  | some c =>
    rw [q] at hg
    cases hg
    have hk : Q (.bl (if n then !c else c)) H := k _ F H Go.refl b (.bl _)
    unfold inB at q
    split at q
    · cases q
      exact .inl ⟨_, _, rx.str, ry.str, hk⟩
    · split at q
      · rename_i c
        cases q
        obtain ⟨a, vs, rfl, e, r⟩ := ry.lst b
        have rx' := rx.flat c.1
        refine .inr ⟨a, vs, rfl, .inl (SqL.of e), flat_V rx' c.1, flats_V r c.2, ?_⟩
        rw [inV_D rx' c.1 r c.2]
        exact hk
      · cases q
    · split at q
      · rename_i c
        cases q
        obtain ⟨a, vs, rfl, e, r⟩ := ry.tup b
        have rx' := rx.flat c.1
        refine .inr ⟨a, vs, rfl, .inr e, flat_V rx' c.1, flats_V r c.2, ?_⟩
        rw [inV_D rx' c.1 r c.2]
        exact hk
      · cases q
    · cases q
theorem opd_in : OpD K (rInA K false) inG := fun ft F H s v w x y z Q b rx ry hg k => opd_inA (n := false) ft F H s v w x y z Q b rx ry hg k
theorem opd_notIn : OpD K (rInA K true) notInG := fun ft F H s v w x y z Q b rx ry hg k => opd_inA (n := true) ft F H s v w x y z Q b rx ry hg k
end

section
variable {X : Cx} {O : List Nat} {a b c : Expr} {fa fb fc : Fe} {pos : Pos}
theorem d_cmp {op : CmpOp} {r : R2} {gg : Sto → Dt → Dt → Option Dt} (ho : OpR X (compareOp op) r) (hg : OpD X.K r gg) (ha : PE X a (tB X.K O fa)) (hb : PE X b (tB X.K O fb))
    (hm : behindInMarks op b = false := by first | exact nobehind _ (by decide) (by decide) | rfl) : PE X (.Compare a [op] [b] pos) (tD X.K O (bind2 fa fb gg)) := pe_imp (pe_cmpR ho ha hb hm) (tOp_d hg)
theorem d_eq (hu : X.A.units + 64 < cLine) (ha : PE X a (tB X.K O fa)) (hb : PE X b (tB X.K O fb)) : PE X (.Compare a [.Eq] [b] pos) (tD X.K O (bind2 fa fb eqG)) := d_cmp (op_eqA hu) opd_eq ha hb
theorem d_ne (hu : X.A.units + 64 < cLine) (ha : PE X a (tB X.K O fa)) (hb : PE X b (tB X.K O fb)) : PE X (.Compare a [.NotEq] [b] pos) (tD X.K O (bind2 fa fb neG)) := d_cmp (op_neA hu) opd_ne ha hb
theorem d_in (ha : PE X a (tB X.K O fa)) (hb : PE X b (tB X.K O fb)) (hm : behindInMarks .In b = false := by rfl) : PE X (.Compare a [.In] [b] pos) (tD X.K O (bind2 fa fb inG)) := d_cmp op_inA opd_in ha hb hm
def chain3 (fa fb fc : Fe) (g g' : Sto → Dt → Dt → Option Dt) : Fe := fun env s => do
  let (x, s1) ← fa env s
  let (y, s2) ← fb env s1
  match g s2 x y with
  | some (.bl true) => do
    let (w, s3) ← fc env s2
    let z ← g' s3 y w
    some (z, s3)
  | some (.bl false) => some (.bl false, s2)
  | _ => none
theorem d_chain {op op' : CmpOp} {r r' : R2} {g g' : Sto → Dt → Dt → Option Dt} (ho : OpR X (compareOp op) r) (ho' : OpR X (compareOp op') r') (hg : OpD X.K r g) (hg' : OpD X.K r' g') (ha : PE X a (tB X.K O fa)) (hb : PE X b (tB X.K O fb)) (hc : PE X c (tB X.K O fc))
    (hm : lastMarks [op, op'] [b, c] = false := by with_unfolding_all rfl) : PE X (.Compare a [op, op'] [b, c] pos) (tD X.K O (chain3 fa fb fc g g')) := pe_imp (pe_chain ho ho' ha hb hc hm) fun σ H Q h => by
  obtain ⟨gd, F, env, s, d, s', st, hf, k⟩ := h
  unfold chain3 at hf
  cases qa : fa env s with
  | none => rw [qa] at hf; cases hf
  | some pa =>
    obtain ⟨x, s1⟩ := pa
    rw [qa] at hf
    cases qb : fb env s1 with
    | none => simp [qb] at hf
    | some pb =>
      obtain ⟨y, s2⟩ := pb
      simp only [qb, Option.bind_eq_bind, Option.bind_some] at hf
      refine ⟨gd, F, env, s, x, s1, st, qa, fun v F1 H1 x1 b1 r1 => ⟨gd, F1, env, s1, y, s2, st.step x1 b1, qb, fun w F2 H2 x2 b2 r2 => ?_⟩⟩
      have st2 := (st.step x1 b1).step x2 b2
      split at hf
      · rename_i qg
        cases qc : fc env s2 with
        | none => simp [qc] at hf
        | some pc =>
          obtain ⟨w', s3⟩ := pc
          cases qg' : g' s3 y w' with
          | none => simp [qc, qg'] at hf
          | some z =>
            simp [qc, qg'] at hf
            obtain ⟨rfl, rfl⟩ := hf
            refine hg gd.ft F2 H2 s2 v w x y _ _ b2 (r1.step x2) r2 qg fun u F3 H3 x3 b3 r3 => ?_
            cases r3
            refine ⟨true, rfl, ?_⟩
            rw [if_pos rfl]
            refine ⟨gd, F3, env, s2, w', s3, st2.step x3 b3, qc, fun u4 F4 H4 x4 b4 r4 => ?_⟩
            exact hg' gd.ft F4 H4 s3 w u4 y w' z Q b4 ((r2.step x3).step x4) r4 qg' fun u5 F5 H5 x5 b5 r5 => k u5 F5 H5 ((((x1.trans x2 b1).trans x3 b2).trans x4 b3).trans x5 b4) b5 r5
      · rename_i qg
        cases hf
        refine hg gd.ft F2 H2 _ v w x y _ _ b2 (r1.step x2) r2 qg fun u F3 H3 x3 b3 r3 => ?_
        cases r3
        refine ⟨false, rfl, ?_⟩
        rw [if_neg Bool.false_ne_true]
        exact k _ F3 H3 ((x1.trans x2 b1).trans x3 b2) b3 (.bl false)
      · cases hf
theorem d_le_le (ha : PE X a (tB X.K O fa)) (hb : PE X b (tB X.K O fb)) (hc : PE X c (tB X.K O fc)) (hm : lastMarks [.LtE, .LtE] [b, c] = false := by with_unfolding_all rfl) : PE X (.Compare a [.LtE, .LtE] [b, c] pos) (tD X.K O (chain3 fa fb fc leG leG)) :=
  d_chain op_leA op_leA opd_le opd_le ha hb hc hm
end
end DL

namespace DL
open PySem PySem.Spec PyProof.Rows L2

abbrev Ft := Env → Sto → Option (Bool × Sto)
def tT (K : PySem.W.Frag) (O : List Nat) (f : Ft) : TT := fun σ H Q => ∃ g F env s b s', Stt K g O F H σ env s ∧ f env s = some (b, s') ∧ ∀ F' H', Go g.ft F H F' H' → Bs K g.ft F' H' s' → Q b H'
def asB (f : Fe) : Ft := fun env s => match f env s with
  | some (.bl b, s') => some (b, s')
  | _ => none
theorem asB_some {f : Fe} {env : Env} {s s' : Sto} {b : Bool} (h : asB f env s = some (b, s')) : f env s = some (.bl b, s') := by
  unfold asB at h
  split at h
  · rename_i q; cases h; exact q
  · cases h
def truB (_ : Sto) : Dt → Option Bool
  | .non => some false
  | .bl b => some b
  | .int i => some (i != 0)
  | .str x => if x.length ≤ sizeLine then some ((x.length : Int) != 0) else none
  | .lst xs => some (!xs.isEmpty)
  | .tup xs => some (!xs.isEmpty)
  | _ => none
def truA (s : Sto) : Dt → Option Bool
  | .dct xs => some (!xs.isEmpty)
  | x => truB s x
def truF (f : Fe) : Ft := fun env s => do
  let (x, s1) ← f env s
  let b ← truA s1 x
  some (b, s1)
theorem truF_some {f : Fe} {env : Env} {s s' : Sto} {b : Bool} (h : truF f env s = some (b, s')) : ∃ x, f env s = some (x, s') ∧ truA s' x = some b := by
  unfold truF at h
  cases q : f env s with
  | none => rw [q] at h; cases h
  | some p =>
    obtain ⟨x, s1⟩ := p
    cases qg : truA s1 x with
    | none => simp [q, qg] at h
    | some z =>
      simp [q, qg] at h
      obtain ⟨rfl, rfl⟩ := h
      exact ⟨x, rfl, qg⟩
theorem Reps.emp {K : PySem.W.Frag} {F : Hp} {vs : List V} {ds : List Dt} (r : Reps K F vs ds) : vs.isEmpty = ds.isEmpty := by cases r <;> rfl
theorem Repk.emp {K : PySem.W.Frag} {F : Hp} {vs : List (Key × V)} {ds : List (Key × Dt)} (r : Repk K F vs ds) : vs.isEmpty = ds.isEmpty := by cases r <;> rfl
theorem tru_V {K : PySem.W.Frag} {ft : List Addr} {F H : Hp} {s : Sto} {v : V} {x : Dt} {b : Bool} (B : Bs K ft F H s) (r : RepB K ft F H v x) (h : truB s x = some b) : TruV K v H b := by
  cases x <;> simp only [truB] at h <;> try (cases h; done)
  · cases h; obtain rfl := r.non; exact rfl
  · cases h; obtain rfl := r.bl; exact rfl
  · cases h; obtain rfl := r.int; exact rfl
  · split at h <;> cases h
    obtain rfl := r.str
    exact ⟨by assumption, rfl⟩
  · cases h
    obtain ⟨a, vs, rfl, e, q⟩ := r.tup B
    exact .inr (.inl ⟨vs, e, by rw [q.emp]⟩)
  · cases h
    obtain ⟨a, vs, rfl, e, q⟩ := r.lst B
    exact .inl ⟨vs, SqL.of e, by rw [q.emp]⟩
section
variable {X : Cx} {O : List Nat} {a b c e : Expr} {rest : List Expr} {fa fb : Fe} {ta tb : Ft} {pos : Pos}
theorem pt_imp {t t' : TT} (h : PT X e t) (k : ∀ σ H Q, t' σ H Q → t σ H Q) : PT X e t' := ⟨fun pins s σ H Q I q => h.run pins s σ H Q I (k σ H Q q)⟩
theorem pw_imp {t t' : TT} (h : PW X e t) (k : ∀ σ H Q, t' σ H Q → t σ H Q) : PW X e t' := ⟨fun w pins s σ H Q I q => h.run w pins s σ H Q I (k σ H Q q)⟩
def rTruA (K : PySem.W.Frag) : V → Hp → (Bool → Hp → Prop) → Prop := fun x H Q => (∃ k, TruV K x H k ∧ Q k H) ∨ ∃ p kvs, x = .ref p ∧ Rd H p (.dK kvs) ∧ Q (!kvs.isEmpty) H
theorem tru_okA : TruR X (rTruA X.K) := by
  intro pins s σ H x v Q I rx h
  rcases h with h | ⟨p, kvs, rfl, e, q⟩
  · exact tru_ok pins s σ H x v Q I rx h
  · cases rx
    exact d_truth I e fun s' I' => ⟨H, I', q⟩
theorem tru_A {K : PySem.W.Frag} {ft : List Addr} {F H : Hp} {s : Sto} {v : V} {x : Dt} {b : Bool} (B : Bs K ft F H s) (r : RepB K ft F H v x) (h : truA s x = some b) {Q : Bool → Hp → Prop} (q : Q b H) : rTruA K v H Q := by
  unfold truA at h
  split at h
  · cases h
    obtain ⟨a, vs, rfl, e, z⟩ := r.dct B
    exact .inr ⟨a, vs, rfl, e, by rw [z.emp]; exact q⟩
  · exact .inl ⟨b, tru_V B r h, q⟩
theorem t_tru (ha : PE X a (tB X.K O fa)) (he : ∀ whole, isTrue a X.env whole = (do let v ← whole; standAt a.pos; holding [v] (truthy v)) := by intro _; rfl) : PT X a (tT X.K O (truF fa)) :=
  pt_imp (pt_truthR ha tru_okA he) fun σ H Q ⟨g, F, env, s, b, s', st, hf, k⟩ => by
    obtain ⟨x, q1, q2⟩ := truF_some hf
    exact ⟨g, F, env, s, x, s', st, q1, fun v F1 H1 x1 b1 r1 => tru_A b1 r1 q2 (k F1 H1 x1 b1)⟩
theorem tTest_t {K : PySem.W.Frag} {t : TE} {f : Fe} (h : ∀ σ H Q, tD K O f σ H Q → t σ H Q) (σ : L2.St) (H : Hp) (Q : Bool → Hp → Prop) (q : tT K O (asB f) σ H Q) : tTest t σ H Q := by
  obtain ⟨g, F, env, s, b, s', st, hf, k⟩ := q
  refine h σ H _ ⟨g, F, env, s, .bl b, s', st, asB_some hf, fun v F' H' x1 b1 r1 => ?_⟩
  cases r1
  exact ⟨b, rfl, k F' H' x1 b1⟩
theorem t_cmp {op : CmpOp} {r : R2} {gg : Sto → Dt → Dt → Option Dt} (ho : OpR X (compareOp op) r) (hg : OpD X.K r gg) (ha : PE X a (tB X.K O fa)) (hb : PE X b (tB X.K O fb))
    (hm : behindInMarks op b = false := by first | exact nobehind _ (by decide) (by decide) | rfl) : PT X (.Compare a [op] [b] pos) (tT X.K O (asB (bind2 fa fb gg))) := pt_imp (pt_cmpR ho ha hb hm) (tTest_t (tOp_d hg))
theorem t_eq (hu : X.A.units + 64 < cLine) (ha : PE X a (tB X.K O fa)) (hb : PE X b (tB X.K O fb)) : PT X (.Compare a [.Eq] [b] pos) (tT X.K O (asB (bind2 fa fb eqG))) := t_cmp (op_eqA hu) opd_eq ha hb
theorem t_ne (hu : X.A.units + 64 < cLine) (ha : PE X a (tB X.K O fa)) (hb : PE X b (tB X.K O fb)) : PT X (.Compare a [.NotEq] [b] pos) (tT X.K O (asB (bind2 fa fb neG))) := t_cmp (op_neA hu) opd_ne ha hb
theorem t_lt (ha : PE X a (tB X.K O fa)) (hb : PE X b (tB X.K O fb)) : PT X (.Compare a [.Lt] [b] pos) (tT X.K O (asB (bind2 fa fb ltG))) := t_cmp op_ltA opd_lt ha hb
theorem t_le (ha : PE X a (tB X.K O fa)) (hb : PE X b (tB X.K O fb)) : PT X (.Compare a [.LtE] [b] pos) (tT X.K O (asB (bind2 fa fb leG))) := t_cmp op_leA opd_le ha hb
theorem t_gt (ha : PE X a (tB X.K O fa)) (hb : PE X b (tB X.K O fb)) : PT X (.Compare a [.Gt] [b] pos) (tT X.K O (asB (bind2 fa fb gtG))) := t_cmp op_gtA opd_gt ha hb
theorem t_ge (ha : PE X a (tB X.K O fa)) (hb : PE X b (tB X.K O fb)) : PT X (.Compare a [.GtE] [b] pos) (tT X.K O (asB (bind2 fa fb geG))) := t_cmp op_geA opd_ge ha hb
theorem t_in (ha : PE X a (tB X.K O fa)) (hb : PE X b (tB X.K O fb)) (hm : behindInMarks .In b = false := by rfl) : PT X (.Compare a [.In] [b] pos) (tT X.K O (asB (bind2 fa fb inG))) := t_cmp op_inA opd_in ha hb hm
theorem t_notIn (ha : PE X a (tB X.K O fa)) (hb : PE X b (tB X.K O fb)) (hm : behindInMarks .NotIn b = false := by rfl) : PT X (.Compare a [.NotIn] [b] pos) (tT X.K O (asB (bind2 fa fb notInG))) := t_cmp op_notInA opd_notIn ha hb hm
def andT (f g : Ft) : Ft := fun env s => do
  let (b, s1) ← f env s
  if b then g env s1 else some (false, s1)
def orT (f g : Ft) : Ft := fun env s => do
  let (b, s1) ← f env s
  if b then some (true, s1) else g env s1
def notT (f : Ft) : Ft := fun env s => (f env s).map fun p => (!p.1, p.2)
theorem w_and1 (ha : PT X a (tT X.K O ta)) : PW X (.BoolOp .And [a] pos) (tT X.K O ta) := pw_and1 ha
theorem w_or1 (ha : PT X a (tT X.K O ta)) : PW X (.BoolOp .Or [a] pos) (tT X.K O ta) := pw_or1 ha
theorem w_and (ha : PT X a (tT X.K O ta)) (hb : PW X (.BoolOp .And (b :: rest) pos) (tT X.K O tb)) : PW X (.BoolOp .And (a :: b :: rest) pos) (tT X.K O (andT ta tb)) := pw_imp (pw_and ha hb) fun σ H Q ⟨g, F, env, s, z, s', st, hf, k⟩ => by
  unfold andT at hf
  cases q : ta env s with
  | none => rw [q] at hf; cases hf
  | some p =>
    obtain ⟨c, s1⟩ := p
    simp only [q, Option.bind_eq_bind, Option.bind_some] at hf
    refine ⟨g, F, env, s, c, s1, st, q, fun F1 H1 x1 b1 => ?_⟩
    cases c with
    | true =>
      rw [if_pos rfl] at hf ⊢
      exact ⟨g, F1, env, s1, z, s', st.step x1 b1, hf, fun F2 H2 x2 b2 => k F2 H2 (x1.trans x2 b1) b2⟩
    | false =>
      rw [if_neg Bool.false_ne_true] at hf ⊢
      cases hf
      exact k F1 H1 x1 b1
theorem w_or (ha : PT X a (tT X.K O ta)) (hb : PW X (.BoolOp .Or (b :: rest) pos) (tT X.K O tb)) : PW X (.BoolOp .Or (a :: b :: rest) pos) (tT X.K O (orT ta tb)) := pw_imp (pw_or ha hb) fun σ H Q ⟨g, F, env, s, z, s', st, hf, k⟩ => by
  unfold orT at hf
  cases q : ta env s with
  | none => rw [q] at hf; cases hf
  | some p =>
    obtain ⟨c, s1⟩ := p
    simp only [q, Option.bind_eq_bind, Option.bind_some] at hf
    refine ⟨g, F, env, s, c, s1, st, q, fun F1 H1 x1 b1 => ?_⟩
    cases c with
    | false =>
      rw [if_neg Bool.false_ne_true] at hf ⊢
      exact ⟨g, F1, env, s1, z, s', st.step x1 b1, hf, fun F2 H2 x2 b2 => k F2 H2 (x1.trans x2 b1) b2⟩
    | true =>
      rw [if_pos rfl] at hf ⊢
      cases hf
      exact k F1 H1 x1 b1
theorem t_not (ha : PT X a (tT X.K O ta)) : PT X (.UnaryOp .Not a pos) (tT X.K O (notT ta)) := pt_imp (pt_not ha) fun σ H Q ⟨g, F, env, s, z, s', st, hf, k⟩ => by
  unfold notT at hf
  cases q : ta env s with
  | none => rw [q] at hf; cases hf
  | some p =>
    obtain ⟨c, s1⟩ := p
    rw [q] at hf
    cases hf
    exact ⟨g, F, env, s, c, s1, st, q, k⟩
theorem t_bool {op : BoolOp} {vs : List Expr} {f : Ft} (h : PW X (.BoolOp op vs pos) (tT X.K O f)) : PT X (.BoolOp op vs pos) (tT X.K O f) := h.pt
def andV (f g : Fe) : Fe := fun env s => do
  let (x, s1) ← f env s
  let b ← truB s1 x
  if b then g env s1 else some (x, s1)
def orV (f g : Fe) : Fe := fun env s => do
  let (x, s1) ← f env s
  let b ← truB s1 x
  if b then some (x, s1) else g env s1
def notV (f : Fe) : Fe := bind1 f fun s x => (truB s x).map fun b => .bl (!b)
theorem d_one {op} {fa : Fe} (ha : PE X a (tD X.K O fa)) : PE X (.BoolOp op [a] pos) (tD X.K O fa) := pe_one ha
theorem d_and (ha : PE X a (tD X.K O fa)) (hb : PE X (.BoolOp .And (b :: rest) pos) (tD X.K O fb)) : PE X (.BoolOp .And (a :: b :: rest) pos) (tD X.K O (andV fa fb)) := pe_imp (pe_andT ha hb) fun σ H Q ⟨g, F, env, s, z, s', st, hf, k⟩ => by
  unfold andV at hf
  cases q : fa env s with
  | none => rw [q] at hf; cases hf
  | some p =>
    obtain ⟨x, s1⟩ := p
    cases qb : truB s1 x with
    | none => simp [q, qb] at hf
    | some c =>
      simp only [q, qb, Option.bind_eq_bind, Option.bind_some] at hf
      refine ⟨g, F, env, s, x, s1, st, q, fun v F1 H1 x1 b1 r1 => ⟨c, tru_V b1 (.inl r1) qb, ?_⟩⟩
      cases c with
      | true =>
        rw [if_pos rfl] at hf ⊢
        exact ⟨g, F1, env, s1, z, s', st.step x1 b1, hf, fun w F2 H2 x2 b2 r2 => k w F2 H2 (x1.trans x2 b1) b2 r2⟩
      | false =>
        rw [if_neg Bool.false_ne_true] at hf ⊢
        cases hf
        exact k v F1 H1 x1 b1 r1
theorem d_or (ha : PE X a (tD X.K O fa)) (hb : PE X (.BoolOp .Or (b :: rest) pos) (tD X.K O fb)) : PE X (.BoolOp .Or (a :: b :: rest) pos) (tD X.K O (orV fa fb)) := pe_imp (pe_orT ha hb) fun σ H Q ⟨g, F, env, s, z, s', st, hf, k⟩ => by
  unfold orV at hf
  cases q : fa env s with
  | none => rw [q] at hf; cases hf
  | some p =>
    obtain ⟨x, s1⟩ := p
    cases qb : truB s1 x with
    | none => simp [q, qb] at hf
    | some c =>
      simp only [q, qb, Option.bind_eq_bind, Option.bind_some] at hf
      refine ⟨g, F, env, s, x, s1, st, q, fun v F1 H1 x1 b1 r1 => ⟨c, tru_V b1 (.inl r1) qb, ?_⟩⟩
      cases c with
      | false =>
        rw [if_neg Bool.false_ne_true] at hf ⊢
        exact ⟨g, F1, env, s1, z, s', st.step x1 b1, hf, fun w F2 H2 x2 b2 r2 => k w F2 H2 (x1.trans x2 b1) b2 r2⟩
      | true =>
        rw [if_pos rfl] at hf ⊢
        cases hf
        exact k v F1 H1 x1 b1 r1
theorem d_not (ha : PE X a (tB X.K O fa)) : PE X (.UnaryOp .Not a pos) (tD X.K O (notV fa)) := pe_imp (pe_notT ha) fun σ H Q ⟨g, F, env, s, z, s', st, hf, k⟩ => by
  obtain ⟨x, q1, q2⟩ := bind1_some hf
  refine ⟨g, F, env, s, x, s', st, q1, fun v F1 H1 x1 b1 r1 => ?_⟩
  cases qb : truB s' x with
  | none => rw [qb] at q2; cases q2
  | some c =>
    rw [qb] at q2
    cases q2
    exact ⟨c, tru_V b1 r1 qb, k _ F1 H1 x1 b1 (.bl _)⟩
def ifV (c : Ft) (f g : Fe) : Fe := fun env s => do
  let (b, s1) ← c env s
  if b then f env s1 else g env s1
theorem if_some {c : Ft} {f g : Fe} {env : Env} {s s' : Sto} {z : Dt} (h : ifV c f g env s = some (z, s')) : ∃ b s1, c env s = some (b, s1) ∧ (if b = true then f env s1 else g env s1) = some (z, s') := by
  unfold ifV at h
  cases q : c env s with
  | none => rw [q] at h; cases h
  | some p =>
    obtain ⟨b, s1⟩ := p
    simp only [q, Option.bind_eq_bind, Option.bind_some] at h
    exact ⟨b, s1, rfl, h⟩
theorem d_if (hc : PT X c (tT X.K O ta)) (ha : PE X a (tD X.K O fa)) (hb : PE X b (tD X.K O fb)) : PE X (.IfExp c a b pos) (tD X.K O (ifV ta fa fb)) := pe_imp (pe_ifExp hc ha hb) fun σ H Q ⟨g, F, env, s, z, s', st, hf, k⟩ => by
  obtain ⟨b, s1, q, hf⟩ := if_some hf
  refine ⟨g, F, env, s, b, s1, st, q, fun F1 H1 x1 b1 => ?_⟩
  cases b with
  | true =>
    rw [if_pos rfl] at hf ⊢
    exact ⟨g, F1, env, s1, z, s', st.step x1 b1, hf, fun w F2 H2 x2 b2 r2 => k w F2 H2 (x1.trans x2 b1) b2 r2⟩
  | false =>
    rw [if_neg Bool.false_ne_true] at hf ⊢
    exact ⟨g, F1, env, s1, z, s', st.step x1 b1, hf, fun w F2 H2 x2 b2 r2 => k w F2 H2 (x1.trans x2 b1) b2 r2⟩
end

abbrev Fa := Env → Sto → Option (List Dt × Sto)
def tAB (K : PySem.W.Frag) (O : List Nat) (f : Fa) : TA := fun σ H Q => ∃ g F env s ds s', Stt K g O F H σ env s ∧ f env s = some (ds, s') ∧ ∀ vs F' H', Go g.ft F H F' H' → Bs K g.ft F' H' s' → Paired (RepB K g.ft F' H') vs ds → Q vs H'
def tAD (K : PySem.W.Frag) (O : List Nat) (f : Fa) : TA := fun σ H Q => ∃ g F env s ds s', Stt K g O F H σ env s ∧ f env s = some (ds, s') ∧ ∀ vs F' H', Go g.ft F H F' H' → Bs K g.ft F' H' s' → Reps K F' vs ds → Q vs H'
def aNil : Fa := fun _ s => some ([], s)
def aCons (f : Fe) (r : Fa) : Fa := fun env s => do
  let (x, s1) ← f env s
  let (xs, s2) ← r env s1
  some (x :: xs, s2)
theorem aCons_some {f : Fe} {r : Fa} {env : Env} {s s' : Sto} {ds : List Dt} (h : aCons f r env s = some (ds, s')) : ∃ x s1 xs, f env s = some (x, s1) ∧ r env s1 = some (xs, s') ∧ ds = x :: xs := by
  unfold aCons at h
  cases q : f env s with
  | none => rw [q] at h; cases h
  | some p =>
    obtain ⟨x, s1⟩ := p
    cases q2 : r env s1 with
    | none => simp [q, q2] at h
    | some p2 =>
      obtain ⟨xs, s2⟩ := p2
      simp [q, q2] at h
      obtain ⟨rfl, rfl⟩ := h
      exact ⟨x, s1, xs, rfl, q2, rfl⟩
section
variable {X : Cx} {O : List Nat} {e : Expr} {es : List Expr} {f : Fe} {r : Fa} {pos : Pos}
theorem pa_imp {t t' : TA} (h : PA X es t) (k : ∀ σ H Q, t' σ H Q → t σ H Q) : PA X es t' := ⟨fun pos pins s σ H Q I q => h.run pos pins s σ H Q I (k σ H Q q)⟩
theorem ab_nil : PA X [] (tAB X.K O aNil) := pa_imp pa_nil fun σ H Q ⟨g, F, env, s, ds, s', st, hf, k⟩ => by
  cases hf
  exact k [] F H Go.refl st.bs .nil
theorem ad_nil : PA X [] (tAD X.K O aNil) := pa_imp pa_nil fun σ H Q ⟨g, F, env, s, ds, s', st, hf, k⟩ => by
  cases hf
  exact k [] F H Go.refl st.bs .nil
theorem ab_cons (he : PE X e (tB X.K O f)) (hr : PA X es (tAB X.K O r)) (hs : starEach (e :: es) X.env = (false, eval e X.env) :: starEach es X.env := by rfl) : PA X (e :: es) (tAB X.K O (aCons f r)) :=
  pa_imp (pa_cons he hr hs) fun σ H Q ⟨g, F, env, s, ds, s', st, hf, k⟩ => by
    obtain ⟨x, s1, xs, q1, q2, rfl⟩ := aCons_some hf
    exact ⟨g, F, env, s, x, s1, st, q1, fun v F1 H1 x1 b1 r1 => ⟨g, F1, env, s1, xs, s', st.step x1 b1, q2, fun vs F2 H2 x2 b2 r2 => k (v :: vs) F2 H2 (x1.trans x2 b1) b2 (.cons (r1.step x2) r2)⟩⟩
theorem ad_cons (he : PE X e (tD X.K O f)) (hr : PA X es (tAD X.K O r)) (hs : starEach (e :: es) X.env = (false, eval e X.env) :: starEach es X.env := by rfl) : PA X (e :: es) (tAD X.K O (aCons f r)) :=
  pa_imp (pa_cons he hr hs) fun σ H Q ⟨g, F, env, s, ds, s', st, hf, k⟩ => by
    obtain ⟨x, s1, xs, q1, q2, rfl⟩ := aCons_some hf
    exact ⟨g, F, env, s, x, s1, st, q1, fun v F1 H1 x1 b1 r1 => ⟨g, F1, env, s1, xs, s', st.step x1 b1, q2, fun vs F2 H2 x2 b2 r2 => k (v :: vs) F2 H2 (x1.trans x2 b1) b2 (.cons (Rep.mono x2.sam _ _ r1) r2)⟩⟩
def bindA (r : Fa) (g : Sto → List Dt → Option Dt) : Fe := fun env s => do
  let (xs, s1) ← r env s
  let z ← g s1 xs
  some (z, s1)
theorem bindA_some {f : Fa} {g : Sto → List Dt → Option Dt} {env : Env} {s s' : Sto} {d : Dt} (h : bindA f g env s = some (d, s')) : ∃ x, f env s = some (x, s') ∧ g s' x = some d := by
  unfold bindA at h
  cases q : f env s with
  | none => rw [q] at h; cases h
  | some p =>
    obtain ⟨x, s1⟩ := p
    cases qg : g s1 x with
    | none => simp [q, qg] at h
    | some z =>
      simp [q, qg] at h
      obtain ⟨rfl, rfl⟩ := h
      exact ⟨x, rfl, qg⟩
def tupG (_ : Sto) (xs : List Dt) : Option Dt := if xs.length ≤ sizeLine then some (.tup xs) else none
def lstG (_ : Sto) (xs : List Dt) : Option Dt := if xs.length ≤ sizeLine then some (.lst xs) else none
theorem d_tup {x1} (h : PA X es (tAD X.K O r)) : PE X (.Tuple es x1 pos) (tD X.K O (bindA r tupG)) := pe_imp (pe_tupF h) fun σ H Q ⟨g, F, env, s, d, s', st, hf, k⟩ => by
  obtain ⟨xs, q1, q2⟩ := bindA_some hf
  unfold tupG at q2
  split at q2 <;> cases q2
  rename_i hl
  refine ⟨g, F, env, s, xs, s', st, q1, fun vs F1 H1 x1 b1 r1 => ⟨by rw [r1.length]; exact hl, fun p o np ho => ?_⟩⟩
  obtain ⟨x2, b2, r2⟩ := Go.layT b1 np ho r1
  exact k (.ref p) _ _ (x1.trans x2 b1) b2 r2
theorem n_lst (h : PA X es (tAD X.K O r)) : PE X (.List es pos) (tN X.K O (bindA r lstG)) := pe_imp (pe_lst h) fun σ H Q ⟨g, F, env, s, d, s', st, hf, k⟩ => by
  obtain ⟨xs, q1, q2⟩ := bindA_some hf
  unfold lstG at q2
  split at q2 <;> cases q2
  rename_i hl
  refine ⟨g, F, env, s, xs, s', st, q1, fun vs F1 H1 x1 b1 r1 => ⟨by rw [r1.length]; exact hl, fun p np => ?_⟩⟩
  obtain ⟨x2, b2, n2⟩ := Go.made (o := .lst vs) b1 np
  exact k p (.lst vs) F1 _ (x1.trans x2 b1) b2 (x1.free b1 np) n2 upd_same (.lst r1)
end

def CallD (K : PySem.W.Frag) (r : List V → Hp → VK → Prop) (g : Sto → List Dt → Option Dt) : Prop := ∀ (ft : List Addr) (F H : Hp) (s : Sto) (vs : List V) (xs : List Dt) (z : Dt) (Q : VK), Bs K ft F H s → Paired (RepB K ft F H) vs xs → g s xs = some z →
  (∀ u F' H', Go ft F H F' H' → Bs K ft F' H' s → Rep K F' u z → Q u H') → r vs H Q
def CallN (K : PySem.W.Frag) (r : List V → Hp → VK → Prop) (g : Sto → List Dt → Option Dt) : Prop := ∀ (ft : List Addr) (F H : Hp) (s : Sto) (vs : List V) (xs : List Dt) (z : Dt) (Q : VK), Bs K ft F H s → Paired (RepB K ft F H) vs xs → g s xs = some z →
  (∀ p o, H p = none → ObR K F o z → Q (.ref p) (upd H p o)) → r vs H Q
section
variable {X : Cx} {O : List Nat} {e : Expr} {es : List Expr} {fa : Fa} {pos p : Pos} {x : Str} {id T : String} {r : List V → Hp → VK → Prop} {gg : Sto → List Dt → Option Dt}
theorem tCB_d {K : PySem.W.Frag} (hg : CallD K r gg) (σ : L2.St) (H : Hp) (Q : VK) (h : tD K O (bindA fa gg) σ H Q) : tCB r (tAB K O fa) σ H Q := by
  obtain ⟨g, F, env, s, d, s', st, hf, k⟩ := h
  obtain ⟨xs, q1, q2⟩ := bindA_some hf
  exact ⟨g, F, env, s, xs, s', st, q1, fun vs F1 H1 x1 b1 r1 => hg g.ft F1 H1 s' vs xs d Q b1 r1 q2 fun u F2 H2 x2 b2 r2 => k u F2 H2 (x1.trans x2 b1) b2 r2⟩
theorem tCB_n {K : PySem.W.Frag} (hg : CallN K r gg) (σ : L2.St) (H : Hp) (Q : VK) (h : tN K O (bindA fa gg) σ H Q) : tCB r (tAB K O fa) σ H Q := by
  obtain ⟨g, F, env, s, d, s', st, hf, k⟩ := h
  obtain ⟨xs, q1, q2⟩ := bindA_some hf
  refine ⟨g, F, env, s, xs, s', st, q1, fun vs F1 H1 x1 b1 r1 => hg g.ft F1 H1 s' vs xs d Q b1 r1 q2 fun p o n q => ?_⟩
  obtain ⟨x2, b2, n2⟩ := Go.made (o := o) b1 n
  exact k p o F1 _ (x1.trans x2 b1) b2 (x1.free b1 n) n2 upd_same q
theorem d_callB (hc : CallR X (.builtin id) r) (hd : CallD X.K r gg) (hg : Gl X x) (hm : X.mg x = none) (hv : bootBuiltins x = some (.builtin id)) (ha : PA X (e :: es) (tAB X.K O fa)) (hn : x ≠ "__name__" := by decide)
    (hdb : (x == ("__debug__" : Str)) = false := by decide) (he : starEach (e :: es) X.env = (false, eval e X.env) :: starEach es X.env := by rfl) (hpl : (backTo pos (starEach es X.env)).any (·.1) = false := by rfl) : PE X (.Call (.Name x p) (e :: es) [] pos) (tD X.K O (bindA fa gg)) := pe_imp (pe_callB hc hg hm hv ha hn hdb he hpl) (tCB_d hd)
theorem d_callT (hc : CallR X (.type T) r) (hd : CallD X.K r gg) (hg : Gl X x) (hm : X.mg x = none) (hv : bootBuiltins x = some (.type T)) (ha : PA X (e :: es) (tAB X.K O fa)) (hn : x ≠ "__name__" := by decide)
    (hdb : (x == ("__debug__" : Str)) = false := by decide) (he : starEach (e :: es) X.env = (false, eval e X.env) :: starEach es X.env := by rfl) (hpl : (backTo pos (starEach es X.env)).any (·.1) = false := by rfl) : PE X (.Call (.Name x p) (e :: es) [] pos) (tD X.K O (bindA fa gg)) := pe_imp (pe_callTy hc hg hm hv ha hn hdb he hpl) (tCB_d hd)
theorem n_callB (hc : CallR X (.builtin id) r) (hd : CallN X.K r gg) (hg : Gl X x) (hm : X.mg x = none) (hv : bootBuiltins x = some (.builtin id)) (ha : PA X (e :: es) (tAB X.K O fa)) (hn : x ≠ "__name__" := by decide)
    (hdb : (x == ("__debug__" : Str)) = false := by decide) (he : starEach (e :: es) X.env = (false, eval e X.env) :: starEach es X.env := by rfl) (hpl : (backTo pos (starEach es X.env)).any (·.1) = false := by rfl) : PE X (.Call (.Name x p) (e :: es) [] pos) (tN X.K O (bindA fa gg)) := pe_imp (pe_callB hc hg hm hv ha hn hdb he hpl) (tCB_n hd)
theorem n_callT (hc : CallR X (.type T) r) (hd : CallN X.K r gg) (hg : Gl X x) (hm : X.mg x = none) (hv : bootBuiltins x = some (.type T)) (ha : PA X (e :: es) (tAB X.K O fa)) (hn : x ≠ "__name__" := by decide)
    (hdb : (x == ("__debug__" : Str)) = false := by decide) (he : starEach (e :: es) X.env = (false, eval e X.env) :: starEach es X.env := by rfl) (hpl : (backTo pos (starEach es X.env)).any (·.1) = false := by rfl) : PE X (.Call (.Name x p) (e :: es) [] pos) (tN X.K O (bindA fa gg)) := pe_imp (pe_callTy hc hg hm hv ha hn hdb he hpl) (tCB_n hd)
end
section
variable {K : PySem.W.Frag} {ft : List Addr} {F H : Hp}
theorem pair1 {vs : List V} {x : Dt} (h : Paired (RepB K ft F H) vs [x]) : ∃ v, vs = [v] ∧ RepB K ft F H v x := by
  cases h with
  | cons r t => cases t; exact ⟨_, rfl, r⟩
def lenG (_ : Sto) : List Dt → Option Dt
  | [.str x] => if x.length ≤ sizeLine then some (.int x.length) else none
  | [.lst xs] => some (.int xs.length)
  | [.tup xs] => some (.int xs.length)
  | [.dct xs] => some (.int xs.length)
  | _ => none
def rLenA (K : PySem.W.Frag) : List V → Hp → VK → Prop := fun xs H Q => (∃ x n, xs = [x] ∧ LenV K x H n ∧ Q (.int n) H) ∨ ∃ a kvs, xs = [V.ref a] ∧ Rd H a (.dK kvs) ∧ Q (.int kvs.length) H
theorem call_lenR {X : Cx} : CallR X (.builtin "len") (fun xs H Q => ∃ a kvs, xs = [V.ref a] ∧ Rd H a (.dK kvs) ∧ Q (.int kvs.length) H) := by
  intro pins s σ H xs us Q I r h
  obtain ⟨a, kvs, rfl, ha, q⟩ := h
  obtain ⟨u, rfl, ru⟩ := vals1 r
  cases ru
  exact d_len I ha fun t s' I' => ⟨.int kvs.length, H, I', ⟨t, rfl⟩, q⟩
theorem call_lenA {X : Cx} : CallR X (.builtin "len") (rLenA X.K) := CallR.or call_len call_lenR
theorem Repk.length : ∀ {vs : List (Key × V)} {ds : List (Key × Dt)}, Repk K F vs ds → vs.length = ds.length
  | [], [], _ => rfl
  | [], _ :: _, h => by cases h
  | _ :: _, [], h => by cases h
  | _ :: vs, _ :: ds, h => by
    cases h with
    | cons h1 h2 => rw [List.length_cons, List.length_cons, Repk.length h2]
theorem cd_len : CallD K (rLenA K) lenG := by
  intro ft F H s vs xs z Q b rx hg k
  unfold lenG at hg
  split at hg
  · split at hg <;> cases hg
    rename_i hl
    obtain ⟨v, rfl, r⟩ := pair1 rx
    obtain rfl := r.str
    exact .inl ⟨_, _, rfl, ⟨hl, rfl⟩, k _ F H Go.refl b (.int _)⟩
  · cases hg
    obtain ⟨v, rfl, r⟩ := pair1 rx
    obtain ⟨a, vs, rfl, e, q⟩ := r.lst b
    exact .inl ⟨_, _, rfl, .inl ⟨vs, SqL.of e, rfl⟩, by rw [q.length]; exact k _ F H Go.refl b (.int _)⟩
  · cases hg
    obtain ⟨v, rfl, r⟩ := pair1 rx
    obtain ⟨a, vs, rfl, e, q⟩ := r.tup b
    exact .inl ⟨_, _, rfl, .inr ⟨vs, e, rfl⟩, by rw [q.length]; exact k _ F H Go.refl b (.int _)⟩
  · cases hg
    obtain ⟨v, rfl, r⟩ := pair1 rx
    obtain ⟨a, vs, rfl, e, q⟩ := r.dct b
    exact .inr ⟨a, vs, rfl, e, by rw [q.length]; exact k _ F H Go.refl b (.int _)⟩
  · cases hg
def intG (_ : Sto) : List Dt → Option Dt
  | [.int i] => some (.int i)
  | [.str a] => match PySem.intText? a with
    | some n => if a.length ≤ 640 then some (.int n) else none
    | none => none
  | _ => none
def rIntA : List V → Hp → VK → Prop := fun xs H Q => ((∃ i, xs = [.int i] ∧ Q (.int i) H) ∨ ∃ k, xs = [.bl k] ∧ Q (.int (if k then 1 else 0)) H) ∨ ∃ a n, xs = [.str a] ∧ PySem.intText? a = some n ∧ a.length ≤ 640 ∧ Q (.int n) H
theorem call_intA {X : Cx} : CallR X (.type "int") rIntA := CallR.or call_int1 call_int_str
theorem cd_int : CallD K rIntA intG := by
  intro ft F H s vs xs z Q b rx hg k
  unfold intG at hg
  split at hg
  · cases hg
    obtain ⟨v, rfl, r⟩ := pair1 rx
    obtain rfl := r.int
    exact .inl (.inl ⟨_, rfl, k _ F H Go.refl b (.int _)⟩)
  · split at hg
    · rename_i q
      split at hg <;> cases hg
      obtain ⟨v, rfl, r⟩ := pair1 rx
      obtain rfl := r.str
      exact .inr ⟨_, _, rfl, q, by assumption, k _ F H Go.refl b (.int _)⟩
    · cases hg
  · cases hg
def bools : List Dt → Option (List Bool)
  | [] => some []
  | .bl b :: r => (bools r).map (b :: ·)
  | _ => none
theorem bools_map : ∀ {ds : List Dt} {bs : List Bool}, bools ds = some bs → ds = bs.map Dt.bl
  | [], _, h => by cases h; rfl
  | d :: r, bs, h => by
    cases d <;> simp only [bools] at h <;> try (cases h; done)
    rename_i b
    cases q : bools r with
    | none => rw [q] at h; cases h
    | some cs =>
      rw [q] at h
      cases h
      rw [bools_map q]
      rfl
def allG (_ : Sto) : List Dt → Option Dt
  | [.lst xs] => (bools xs).map fun bs => .bl (bs.all id)
  | _ => none
def anyG (_ : Sto) : List Dt → Option Dt
  | [.lst xs] => (bools xs).map fun bs => .bl (bs.any id)
  | _ => none
theorem cd_all : CallD K (rAll K) allG := by
  intro ft F H s vs xs z Q b rx hg k
  unfold allG at hg
  split at hg
  · rename_i ds
    cases q : bools ds with
    | none => rw [q] at hg; cases hg
    | some bs =>
      rw [q] at hg
      cases hg
      obtain ⟨v, rfl, r⟩ := pair1 rx
      obtain ⟨a, vs, rfl, e, rs⟩ := r.lst b
      rw [bools_map q] at rs
      rw [rs.of_bls] at e
      exact ⟨a, bs, rfl, SqL.of e, k _ F H Go.refl b (.bl _)⟩
  · cases hg
theorem cd_any : CallD K (rAny K) anyG := by
  intro ft F H s vs xs z Q b rx hg k
  unfold anyG at hg
  split at hg
  · rename_i ds
    cases q : bools ds with
    | none => rw [q] at hg; cases hg
    | some bs =>
      rw [q] at hg
      cases hg
      obtain ⟨v, rfl, r⟩ := pair1 rx
      obtain ⟨a, vs, rfl, e, rs⟩ := r.lst b
      rw [bools_map q] at rs
      rw [rs.of_bls] at e
      exact ⟨a, bs, rfl, SqL.of e, k _ F H Go.refl b (.bl _)⟩
  · cases hg
def toTupG (_ : Sto) : List Dt → Option Dt
  | [.lst xs] => some (.tup xs)
  | [.tup xs] => some (.tup xs)
  | _ => none
theorem cd_toTup : CallD K (rTupF K) toTupG := by
  intro ft F H s vs xs z Q b rx hg k
  unfold toTupG at hg
  split at hg
  · cases hg
    obtain ⟨v, rfl, r⟩ := pair1 rx
    obtain ⟨a, vs, rfl, e, q⟩ := r.lst b
    refine ⟨a, vs, rfl, .inl ⟨SqL.of e, fun l o nl ho => ?_⟩⟩
    obtain ⟨x1, b1, r1⟩ := Go.layT b nl ho q
    exact k (.ref l) _ _ x1 b1 r1
  · cases hg
    obtain ⟨v, rfl, r⟩ := pair1 rx
    obtain ⟨a, vs, rfl, e, q⟩ := r.tup b
    refine ⟨a, vs, rfl, .inr ⟨e, ?_⟩⟩
    rcases r with r | ⟨_, _, _, _, r, _⟩
    · exact k _ F H Go.refl b r
    · cases r
  · cases hg
def keyD : Key → Dt
  | .inl i => .int i
  | .inr x => .str x
theorem rep_key {F : Hp} (k : Key) : Rep K F (kV k) (keyD k) := by cases k <;> constructor
theorem reps_keys {F : Hp} : ∀ {vs : List (Key × V)} {ds : List (Key × Dt)}, Repk K F vs ds → Reps K F (vs.map fun kv => kV kv.1) (ds.map fun kv => keyD kv.1)
  | [], [], _ => .nil
  | [], _ :: _, h => by cases h
  | _ :: _, [], h => by cases h
  | (k, v) :: vs, (k', d) :: ds, h => by
    cases h with
    | cons h1 h2 => exact .cons (rep_key _) (reps_keys h2)
def toLstG (_ : Sto) : List Dt → Option Dt
  | [.lst xs] => some (.lst xs)
  | [.tup xs] => some (.lst xs)
  | [.dct xs] => some (.lst (xs.map fun kv => keyD kv.1))
  | _ => none
def rLstA (K : PySem.W.Frag) : List V → Hp → VK → Prop := fun xs H Q => (∃ p ys, xs = [.ref p] ∧ (SqL K H p ys ∨ SqT K H p ys) ∧ ∀ l, H l = none → Q (.ref l) (upd H l (.lst ys))) ∨
  ∃ (a : Addr) (kvs : List (Key × V)), xs = [.ref a] ∧ Rd H a (.dK kvs) ∧ ∀ p, H p = none → Q (.ref p) (upd H p (.lst (kvs.map fun kv => kV kv.1)))
theorem call_lstA {X : Cx} (hc : X.calm = true) : CallR X (.type "list") (rLstA X.K) := CallR.or call_list_of (call_listD hc)
theorem cn_toLst : CallN K (rLstA K) toLstG := by
  intro ft F H s vs xs z Q b rx hg k
  unfold toLstG at hg
  split at hg
  · cases hg
    obtain ⟨v, rfl, r⟩ := pair1 rx
    obtain ⟨a, vs, rfl, e, q⟩ := r.lst b
    exact .inl ⟨a, vs, rfl, .inl (SqL.of e), fun l nl => k l _ nl (.lst q)⟩
  · cases hg
    obtain ⟨v, rfl, r⟩ := pair1 rx
    obtain ⟨a, vs, rfl, e, q⟩ := r.tup b
    exact .inl ⟨a, vs, rfl, .inr e, fun l nl => k l _ nl (.lst q)⟩
  · cases hg
    obtain ⟨v, rfl, r⟩ := pair1 rx
    obtain ⟨a, vs, rfl, e, q⟩ := r.dct b
    exact .inr ⟨a, vs, rfl, e, fun l nl => k l _ nl (.lst (reps_keys q))⟩
  · cases hg
end
end DL

namespace DL
open PySem PySem.Spec PyProof.Rows L2

theorem lookup_mem : ∀ {l : List (Addr × Dt)} {a : Addr} {d : Dt}, l.lookup a = some d → (a, d) ∈ l
  | [], _, _, h => by simp at h
  | (b, e) :: l, a, d, h => by
    by_cases c : a = b
    · subst c
      rw [List.lookup_cons_self] at h
      cases h
      exact List.mem_cons_self
    · have c' : (a == b) = false := by simpa using c
      rw [List.lookup_cons, c'] at h
      exact List.mem_cons_of_mem _ (lookup_mem h)
def ixG (s : Sto) : Dt → Dt → Option Dt
  | .lst xs, .int i => atI xs i
  | .tup xs, .int i => atI xs i
  | .str z, .int i => if z.length ≤ sizeLine then (atI z.cps.toList i).map fun c => .str ⟨#[c]⟩ else none
  | .ref a, .int i => match s.lookup a with
    | some (.lst xs) => atI xs i
    | _ => none
  | _, _ => none
section
variable {K : PySem.W.Frag}
theorem Reps.at_ {F : Hp} {vs : List V} {ds : List Dt} {i : Int} {d : Dt} (r : Reps K F vs ds) (h : atI ds i = some d) : ∃ v, atI vs i = some v ∧ Rep K F v d := by
  unfold atI at h ⊢
  rw [r.length]
  cases q : ixN ds.length i with
  | none => rw [q] at h; cases h
  | some j =>
    rw [q] at h
    exact r.get h
theorem opd_ix : OpD K (rIx K) ixG := by
  intro ft F H s v w x y z Q b rx ry hg k
  unfold ixG at hg
  split at hg
  · obtain ⟨a, vs, rfl, e, r⟩ := rx.lst b
    obtain ⟨u, e1, r1⟩ := r.at_ hg
    exact .inl ⟨a, vs, _, u, rfl, ry.int, SqL.of e, e1, k u F H Go.refl b r1⟩
  · obtain ⟨a, vs, rfl, e, r⟩ := rx.tup b
    obtain ⟨u, e1, r1⟩ := r.at_ hg
    exact .inr (.inl ⟨a, vs, _, u, rfl, ry.int, e, e1, k u F H Go.refl b r1⟩)
  · split at hg
    · rename_i zz i hl
      cases q : atI zz.cps.toList i with
      | none => rw [q] at hg; cases hg
      | some c =>
        rw [q] at hg
        cases hg
        exact .inr (.inr ⟨zz, i, c, rx.str, ry.int, hl, q, k _ F H Go.refl b (.str _)⟩)
    · cases hg
  · rename_i a i
    split at hg
    · rename_i xs q
      obtain ⟨o, e, r⟩ := b.st _ _ (lookup_mem q)
      cases r with
      | lst r =>
        obtain ⟨u, e1, r1⟩ := r.at_ hg
        exact .inl ⟨a, _, _, u, rx.ref, ry.int, SqL.of e, e1, k u F H Go.refl b r1⟩
    · cases hg
  · cases hg
end
def keyOf : Dt → Option Key
  | .int i => some (.inl i)
  | .str x => some (.inr x)
  | _ => none
def valD (ks : List (Key × Dt)) (k : Key) : Option Dt := (ks.find? fun kv => decide (kv.1 = k)).map (·.2)
def putD (ks : List (Key × Dt)) (k : Key) (d : Dt) : List (Key × Dt) := if (ks.any fun kv => decide (kv.1 = k)) = true then ks.map (fun kv => if kv.1 = k then (kv.1, d) else kv) else ks ++ [(k, d)]
def dctOf (s : Sto) : Dt → Option (List (Key × Dt))
  | .dct ks => some ks
  | .ref a => match s.lookup a with
    | some (.dct ks) => some ks
    | _ => none
  | _ => none
def dgetG (s : Sto) (x y : Dt) : Option Dt := do
  let ks ← dctOf s x
  let k ← keyOf y
  valD ks k
def dinB (s : Sto) (y x : Dt) : Option Bool := do
  let ks ← dctOf s x
  let k ← keyOf y
  some (valD ks k).isSome
def dinG (s : Sto) (y x : Dt) : Option Dt := (dinB s y x).map Dt.bl
def dnotinG (s : Sto) (y x : Dt) : Option Dt := (dinB s y x).map fun b => Dt.bl (!b)
section
variable {K : PySem.W.Frag}
theorem keyOf_V {ft : List Addr} {F H : Hp} {v : V} {y : Dt} {k : Key} (r : RepB K ft F H v y) (h : keyOf y = some k) : v = kV k := by
  cases y <;> simp only [keyOf] at h <;> try (cases h; done)
  · cases h; exact r.int
  · cases h; exact r.str
theorem dget_rd {H : Hp} {a : Addr} {kvs : List (Key × V)} {k : Key} (e : Rd H a (.dK kvs)) : DGet H a (kV k) (valV kvs k) := .inl ⟨kvs, k, e, rfl, rfl⟩
theorem dctOf_V {ft : List Addr} {F H : Hp} {s : Sto} {v : V} {x : Dt} {ks : List (Key × Dt)} (b : Bs K ft F H s) (r : RepB K ft F H v x) (h : dctOf s x = some ks) : ∃ a vs, v = .ref a ∧ Rd H a (.dK vs) ∧ Repk K F vs ks := by
  unfold dctOf at h
  split at h
  · cases h
    exact r.dct b
  · split at h
    · rename_i q
      cases h
      obtain ⟨o, e, r'⟩ := b.st _ _ (lookup_mem q)
      cases r' with
      | dct r' => exact ⟨_, _, r.ref, .inl e, r'⟩
    · cases h
  · cases h
theorem Repk.val {F : Hp} : ∀ {vs : List (Key × V)} {ds : List (Key × Dt)} (k : Key), Repk K F vs ds → (∀ d, valD ds k = some d → ∃ v, valV vs k = some v ∧ Rep K F v d) ∧ (valV vs k).isSome = (valD ds k).isSome
  | [], [], k, _ => ⟨fun d h => by simp [valD] at h, rfl⟩
  | [], _ :: _, _, h => by cases h
  | _ :: _, [], _, h => by cases h
  | (j, v) :: vs, (j', d) :: ds, k, h => by
    cases h with
    | cons h1 h2 =>
      by_cases c : j = k
      · subst c
        refine ⟨fun d' e => ⟨v, valV_pos rfl, ?_⟩, ?_⟩
        · simp [valD, List.find?_cons] at e
          subst e
          exact h1
        · rw [valV_pos rfl]
          simp [valD, List.find?_cons]
      · obtain ⟨i1, i2⟩ := Repk.val k h2
        have e2 : valD ((j, d) :: ds) k = valD ds k := by simp [valD, List.find?_cons, c]
        rw [e2, valV_neg c]
        exact ⟨i1, i2⟩
theorem Repk.put {F : Hp} {v : V} {d : Dt} (k : Key) (r : Rep K F v d) {vs : List (Key × V)} {ds : List (Key × Dt)} (h : Repk K F vs ds) : Repk K F (putK vs k v) (putD ds k d) := by
  have hany : ∀ {vs : List (Key × V)} {ds : List (Key × Dt)}, Repk K F vs ds → (vs.any fun kv => decide (kv.1 = k)) = (ds.any fun kv => decide (kv.1 = k)) := by
    intro vs ds h
    induction ds generalizing vs with
    | nil => cases h; rfl
    | cons e ds ih =>
      cases h with
      | cons h1 h2 => rw [List.any_cons, List.any_cons, ih h2]
  have hmap : ∀ {vs : List (Key × V)} {ds : List (Key × Dt)}, Repk K F vs ds → Repk K F (vs.map fun kv => if kv.1 = k then (kv.1, v) else kv) (ds.map fun kv => if kv.1 = k then (kv.1, d) else kv) := by
    intro vs ds h
    induction ds generalizing vs with
    | nil => cases h; exact .nil
    | cons e ds ih =>
      cases h with
      | cons h1 h2 =>
        rename_i j v0 vs0 d0
        simp only [List.map_cons]
        by_cases c : j = k
        · rw [if_pos c, if_pos c]; exact .cons r (ih h2)
        · rw [if_neg c, if_neg c]; exact .cons h1 (ih h2)
  have happ : ∀ {vs : List (Key × V)} {ds : List (Key × Dt)}, Repk K F vs ds → Repk K F (vs ++ [(k, v)]) (ds ++ [(k, d)]) := by
    intro vs ds h
    induction ds generalizing vs with
    | nil => cases h; exact .cons r .nil
    | cons e ds ih =>
      cases h with
      | cons h1 h2 => exact .cons h1 (ih h2)
  unfold putK putD
  rw [hany h]
  split
  · exact hmap h
  · exact happ h
variable {X : Cx} {O : List Nat} {a i o : Expr} {fa fb : Fe} {pos : Pos}
theorem d_ix (ha : PE X a (tB X.K O fa)) (hb : PE X i (tB X.K O fb)) (hs : PlainIx i := by intro _ _; rfl) : PE X (.Subscript a i pos) (tD X.K O (bind2 fa fb ixG)) := pe_imp (pe_ix ix_seq ha hb hs) (tOp_d opd_ix)
theorem bind2_some {fa fb : Fe} {gg : Sto → Dt → Dt → Option Dt} {env : Env} {s s' : Sto} {d : Dt} (hf : bind2 fa fb gg env s = some (d, s')) : ∃ x s1 y, fa env s = some (x, s1) ∧ fb env s1 = some (y, s') ∧ gg s' x y = some d := by
  unfold bind2 at hf
  cases qa : fa env s with
  | none => rw [qa] at hf; cases hf
  | some pa =>
    obtain ⟨x, s1⟩ := pa
    rw [qa] at hf
    cases qb : fb env s1 with
    | none => simp [qb] at hf
    | some pb =>
      obtain ⟨y, s2⟩ := pb
      cases qg : gg s2 x y with
      | none => simp [qb, qg] at hf
      | some z =>
        simp [qb, qg] at hf
        obtain ⟨rfl, rfl⟩ := hf
        exact ⟨x, s1, y, rfl, qb, qg⟩
theorem d_dget (hu : X.A.units + 1 < cLine) (ha : PE X o (tB X.K O fa)) (hb : PE X i (tB X.K O fb)) (hs : NoSl i := by intro _ _; rfl) : PE X (.Subscript o i pos) (tD X.K O (bind2 fa fb dgetG)) := pe_imp (pe_dget hu ha hb hs) fun σ H Q ⟨g, F, env, s, d, s', st, hf, k⟩ => by
  obtain ⟨x, s1, y, q1, q2, q3⟩ := bind2_some hf
  refine ⟨g, F, env, s, x, s1, st, q1, fun v F1 H1 x1 b1 r1 => ⟨g, F1, env, s1, y, s', st.step x1 b1, q2, fun w F2 H2 x2 b2 r2 => ?_⟩⟩
  unfold dgetG at q3
  cases qd : dctOf s' x with
  | none => rw [qd] at q3; cases q3
  | some ks =>
    cases qk : keyOf y with
    | none => simp [qd, qk] at q3
    | some key =>
      simp only [qd, qk, Option.bind_eq_bind, Option.bind_some] at q3
      obtain ⟨a, vs, rfl, e, r⟩ := dctOf_V b2 (r1.step x2) qd
      obtain ⟨u, e1, r1'⟩ := (r.val key).1 d q3
      obtain rfl := keyOf_V r2 qk
      exact ⟨a, u, rfl, by rw [← e1]; exact dget_rd e, k u F2 H2 (x1.trans x2 b1) b2 r1'⟩
theorem tDIn_d {K : PySem.W.Frag} (n : Bool) (σ : L2.St) (H : Hp) (Q : VK) (h : tD K O (bind2 fb fa fun s y x => (dinB s y x).map fun b => Dt.bl (if n then !b else b)) σ H Q) : (if n then tDNotIn (tB K O fb) (tB K O fa) σ H Q else tDIn (tB K O fb) (tB K O fa) σ H Q) := by
  obtain ⟨g, F, env, s, d, s', st, hf, k⟩ := h
  obtain ⟨y, s1, x, q1, q2, q3⟩ := bind2_some hf
  cases qb : dinB s' y x with
  | none => simp [qb] at q3
  | some c =>
    simp only [qb, Option.map_some, Option.some.injEq] at q3
    subst q3
    unfold dinB at qb
    cases qd : dctOf s' x with
    | none => rw [qd] at qb; cases qb
    | some ks =>
      cases qk : keyOf y with
      | none => simp [qd, qk] at qb
      | some key =>
        simp only [qd, qk, Option.bind_eq_bind, Option.bind_some, Option.some.injEq] at qb
        subst qb
        have main : tB K O fb σ H fun y' H1 => tB K O fa σ H1 fun x' H2 => ∃ a o, x' = .ref a ∧ DGet H2 a y' o ∧ Q (.bl (if n then !o.isSome else o.isSome)) H2 :=
          ⟨g, F, env, s, y, s1, st, q1, fun w F1 H1 x1 b1 r1 => ⟨g, F1, env, s1, x, s', st.step x1 b1, q2, fun v F2 H2 x2 b2 r2 => by
            obtain ⟨a, vs, rfl, e, r⟩ := dctOf_V b2 r2 qd
            obtain rfl := keyOf_V r1 qk
            exact ⟨a, _, rfl, dget_rd e, by rw [(r.val key).2]; exact k _ F2 H2 (x1.trans x2 b1) b2 (.bl _)⟩⟩⟩
        cases n with
        | true => exact main
        | false => exact main
theorem d_din (hu : X.A.units + 1 < cLine) (hb : PE X i (tB X.K O fb)) (ha : PE X o (tB X.K O fa)) (hm : behindInMarks .In o = false := by rfl) : PE X (.Compare i [.In] [o] pos) (tD X.K O (bind2 fb fa dinG)) := pe_imp (pe_cmp (pc_din hu hb ha) hm) (tDIn_d false)
theorem t_din (hu : X.A.units + 1 < cLine) (hb : PE X i (tB X.K O fb)) (ha : PE X o (tB X.K O fa)) (hm : behindInMarks .In o = false := by rfl) : PT X (.Compare i [.In] [o] pos) (tT X.K O (asB (bind2 fb fa dinG))) := pt_imp (pt_cmp (pc_din hu hb ha) hm) (tTest_t (tDIn_d false))
theorem t_dnotin (hu : X.A.units + 1 < cLine) (hb : PE X i (tB X.K O fb)) (ha : PE X o (tB X.K O fa)) (hm : behindInMarks .NotIn o = false := by rfl) : PT X (.Compare i [.NotIn] [o] pos) (tT X.K O (asB (bind2 fb fa dnotinG))) := pt_imp (pt_cmp (pc_dnotin hu hb ha) hm) (tTest_t (tDIn_d true))
end

abbrev Fo := Env → Sto → Option (Option Int × Sto)
def tO (K : PySem.W.Frag) (O : List Nat) (f : Fo) : TO := fun σ H Q => ∃ g F env s o s', Stt K g O F H σ env s ∧ f env s = some (o, s') ∧ ∀ F' H', Go g.ft F H F' H' → Bs K g.ft F' H' s' → Q o H'
def oNone : Fo := fun _ s => some (none, s)
def oSome (f : Fe) : Fo := fun env s => match f env s with
  | some (.int i, s') => some (some i, s')
  | _ => none
def cutD {α : Type} (xs : List α) (lo hi : Option Int) : List α := (xs.drop (HT.sIx xs.length 0 lo)).take (HT.sIx xs.length xs.length hi - HT.sIx xs.length 0 lo)
def sliceG (_ : Sto) (x : Dt) (lo hi : Option Int) : Option Dt := match x with
  | .str z => if z.length ≤ sizeLine then some (.str (cutS z lo hi)) else none
  | .tup xs => some (.tup (cutD xs lo hi))
  | .lst xs => some (.lst (cutD xs lo hi))
  | .scr ns => some (.lst ((cutD ns lo hi).map .int))
  | _ => none
def bindS (f : Fe) (l h : Fo) (g : Sto → Dt → Option Int → Option Int → Option Dt) : Fe := fun env s => do
  let (x, s1) ← f env s
  let (lo, s2) ← l env s1
  let (hi, s3) ← h env s2
  let z ← g s3 x lo hi
  some (z, s3)
theorem bindS_some {f : Fe} {l h : Fo} {g : Sto → Dt → Option Int → Option Int → Option Dt} {env : Env} {s s' : Sto} {d : Dt} (hf : bindS f l h g env s = some (d, s')) :
    ∃ x s1 lo s2 hi, f env s = some (x, s1) ∧ l env s1 = some (lo, s2) ∧ h env s2 = some (hi, s') ∧ g s' x lo hi = some d := by
  unfold bindS at hf
  cases qa : f env s with
  | none => rw [qa] at hf; cases hf
  | some pa =>
    obtain ⟨x, s1⟩ := pa
    rw [qa] at hf
    cases qb : l env s1 with
    | none => simp [qb] at hf
    | some pb =>
      obtain ⟨lo, s2⟩ := pb
      cases qc : h env s2 with
      | none => simp [qb, qc] at hf
      | some pc =>
        obtain ⟨hi, s3⟩ := pc
        cases qg : g s3 x lo hi with
        | none => simp [qb, qc, qg] at hf
        | some z =>
          simp [qb, qc, qg] at hf
          obtain ⟨rfl, rfl⟩ := hf
          exact ⟨x, s1, lo, s2, hi, rfl, qb, qc, qg⟩
section
variable {X : Cx} {O : List Nat} {e : Expr} {lo hi : Option Expr} {f : Fe} {fl fh : Fo} {pos p2 : Pos}
theorem po_imp {t t' : TO} {x : Option Expr} (h : PO X x t) (k : ∀ σ H Q, t' σ H Q → t σ H Q) : PO X x t' := ⟨fun pins s σ H Q I q => h.run pins s σ H Q I (k σ H Q q)⟩
theorem o_none : PO X none (tO X.K O oNone) := po_imp po_none fun σ H Q ⟨g, F, env, s, o, s', st, hf, k⟩ => by
  cases hf
  exact k F H Go.refl st.bs
theorem o_some (he : PE X e (tB X.K O f)) : PO X (some e) (tO X.K O (oSome f)) := po_imp (po_some he) fun σ H Q ⟨g, F, env, s, o, s', st, hf, k⟩ => by
  unfold oSome at hf
  split at hf
  · rename_i i s1 q
    cases hf
    exact ⟨g, F, env, s, _, _, st, q, fun v F1 H1 x1 b1 r1 => ⟨i, r1.int, k F1 H1 x1 b1⟩⟩
  · cases hf
def rSlAll (K : PySem.W.Frag) : V → Option Int → Option Int → Hp → VK → Prop := fun x lo hi H Q => rSlS x lo hi H Q ∨ rSlF K x lo hi H Q ∨ rSlL K x lo hi H Q
theorem sl_all : SlR X (rSlAll X.K) := SlR.or sl_str (SlR.or sl_tupF sl_list)
theorem Reps.cut {K : PySem.W.Frag} {F : Hp} {vs : List V} {ds : List Dt} (r : Reps K F vs ds) (lo hi : Option Int) : Reps K F (cutV vs lo hi) (cutD ds lo hi) := by
  unfold cutV cutD
  rw [r.length]
  exact (r.drop _).take _
theorem cut_map {α β : Type} (f : α → β) (xs : List α) (lo hi : Option Int) : cutD (xs.map f) lo hi = (cutD xs lo hi).map f := by
  unfold cutD
  rw [List.length_map, List.map_take, List.map_drop]
theorem d_slice (he : PE X e (tB X.K O f)) (hl : PO X lo (tO X.K O fl)) (hh : PO X hi (tO X.K O fh)) : PE X (.Subscript e (.Slice lo hi none p2) pos) (tD X.K O (bindS f fl fh sliceG)) := pe_imp (pe_slice sl_all he hl hh) fun σ H Q ⟨g, F, env, s, d, s', st, hf, k⟩ => by
  obtain ⟨x, s1, lo, s2, hi, q1, q2, q3, q4⟩ := bindS_some hf
  refine ⟨g, F, env, s, x, s1, st, q1, fun v F1 H1 x1 b1 r1 => ⟨g, F1, env, s1, lo, s2, st.step x1 b1, q2, fun F2 H2 x2 b2 => ⟨g, F2, env, s2, hi, s', (st.step x1 b1).step x2 b2, q3, fun F3 H3 x3 b3 => ?_⟩⟩⟩
  have r := (r1.step x2).step x3
  have go := (x1.trans x2 b1).trans x3 b2
  have kl : ∀ vs ds, Reps X.K F3 vs ds → ∀ p, H3 p = none → d = .lst ds → Q (.ref p) (upd H3 p (.lst vs)) := fun vs ds rs p np e => by
    subst e
    obtain ⟨x4, b4⟩ := Go.lay (o := .lst vs) b3 np
    exact k (.ref p) _ _ (go.trans x4 b3) b4 ((ObR.lst rs).rep (Go.made (o := .lst vs) b3 np).2.2)
  cases x <;> simp only [sliceG] at q4 <;> try (cases q4; done)
  · split at q4 <;> cases q4
    exact .inl ⟨_, r.str, by assumption, k _ F3 H3 go b3 (.str _)⟩
  · cases q4
    rename_i xs0
    obtain ⟨a, vs, rfl, e, q⟩ := r.tup b3
    refine .inr (.inl ⟨a, vs, rfl, e, fun hw => ?_, fun _ p o np ho => ?_⟩)
    · have e1 : cutD xs0 lo hi = xs0 := by
        unfold cutD
        rw [← q.length, hw.1, hw.2, List.drop_zero, Nat.sub_zero, q.length, List.take_length]
      rw [e1] at k
      rcases r with r | ⟨_, _, _, _, r, _⟩
      · exact k _ F3 H3 go b3 r
      · cases r
    · obtain ⟨x4, b4, r4⟩ := Go.layT b3 np ho (q.cut lo hi)
      exact k (.ref p) _ _ (go.trans x4 b3) b4 r4
  · cases q4
    obtain ⟨a, vs, rfl, e, q⟩ := r.lst b3
    exact .inr (.inr ⟨a, vs, rfl, SqL.of e, fun p np => kl _ _ (q.cut lo hi) p np rfl⟩)
  · cases q4
    obtain ⟨a, rfl, e⟩ := r.scr b3
    refine .inr (.inr ⟨a, _, rfl, e, fun p np => kl _ _ ?_ p np rfl⟩)
    rw [← cut_map]
    exact (Reps.ints _).cut lo hi
def revG (_ : Sto) : Dt → Option Dt
  | .lst xs => some (.lst xs.reverse)
  | _ => none
theorem n_rev {k : Nat} {p1 p2 p3 : Pos} (he : PE X e (tB X.K O f)) : PE X (.Subscript e (.Slice none none (some (.UnaryOp .USub (.Constant (.int 1) k p1) p2)) p3) pos) (tN X.K O (bind1 f revG)) := pe_imp (pe_revL he) fun σ H Q ⟨g, F, env, s, d, s', st, hf, k⟩ => by
  obtain ⟨x, q1, q2⟩ := bind1_some hf
  refine ⟨g, F, env, s, x, s', st, q1, fun v F1 H1 x1 b1 r1 => ?_⟩
  cases x <;> simp only [revG] at q2 <;> try (cases q2; done)
  cases q2
  obtain ⟨a, vs, rfl, e, q⟩ := r1.lst b1
  refine ⟨a, vs, rfl, SqL.of e, fun p np => ?_⟩
  obtain ⟨x4, b4, n4⟩ := Go.made (o := .lst vs.reverse) b1 np
  exact k p _ _ _ (x1.trans x4 b1) b4 (x1.free b1 np) n4 upd_same (.lst q.reverse)

def rgD (a b : Int) : List Dt := (List.range (b - a).toNat).map fun i => Dt.int (a + (i : Nat))
theorem reps_rg {K : PySem.W.Frag} {F : Hp} (a b : Int) : Reps K F (rgV a b) (rgD a b) := by
  unfold rgV rgD
  have : ∀ l : List Nat, Reps K F (l.map fun i => V.int (a + (i : Nat))) (l.map fun i => Dt.int (a + (i : Nat))) := by
    intro l
    induction l with
    | nil => exact .nil
    | cons x l ih => exact .cons (.int _) ih
  exact this _
def rgOk (a b : Int) : Bool := decide (-(2 ^ 62) ≤ a ∧ a < 2 ^ 62 ∧ -(2 ^ 62) ≤ b ∧ b < 2 ^ 62 ∧ (b - a).toNat ≤ 2 ^ 24)
def rg1G (_ : Sto) : Dt → Option Dt
  | .int n => if rgOk 0 n = true then some (.lst (rgD 0 n)) else none
  | _ => none
def rg2G (_ : Sto) : Dt → Dt → Option Dt
  | .int a, .int b => if rgOk a b = true then some (.lst (rgD a b)) else none
  | _, _ => none
theorem n_range1 {a : Expr} {fa : Fe} {p p1 pos1 : Pos} (hc : X.calm = true) (hg : Gl X "list") (hm : X.mg "list" = none) (hg2 : Gl X "range") (hm2 : X.mg "range" = none) (ha : PE X a (tB X.K O fa))
    (na : starEach [a] X.env = (false, eval a X.env) :: starEach [] X.env := by rfl)
    (na2 : starEach [.Call (.Name "range" p1) [a] [] pos1] X.env = (false, eval (.Call (.Name "range" p1) [a] [] pos1) X.env) :: starEach [] X.env := by rfl) :
    PE X (.Call (.Name "list" p) [.Call (.Name "range" p1) [a] [] pos1] [] pos) (tN X.K O (bind1 fa rg1G)) := pe_imp (pe_listRg hc hg hm (prg_1 hg2 hm2 ha na) na2) fun σ H Q ⟨g, F, env, s, d, s', st, hf, k⟩ => by
  obtain ⟨x, q1, q2⟩ := bind1_some hf
  refine ⟨g, F, env, s, x, s', st, q1, fun v F1 H1 x1 b1 r1 => ?_⟩
  cases x <;> simp only [rg1G] at q2 <;> try (cases q2; done)
  split at q2 <;> cases q2
  rename_i n hr
  have hr' : RgOk 0 n := by
    have z := of_decide_eq_true hr
    exact z
  refine ⟨n, r1.int, hr', fun p np => ?_⟩
  obtain ⟨x4, b4, n4⟩ := Go.made (o := .lst (rgV 0 n)) b1 np
  exact k p _ _ _ (x1.trans x4 b1) b4 (x1.free b1 np) n4 upd_same (.lst (reps_rg 0 n))
theorem n_range2 {a b : Expr} {fa fb : Fe} {p p1 pos1 : Pos} (hc : X.calm = true) (hg : Gl X "list") (hm : X.mg "list" = none) (hg2 : Gl X "range") (hm2 : X.mg "range" = none) (ha : PE X a (tB X.K O fa)) (hb : PE X b (tB X.K O fb))
    (h2 : PRg X (.Call (.Name "range" p1) [a, b] [] pos1) (tRg2 (tB X.K O fa) (tB X.K O fb)))
    (na2 : starEach [.Call (.Name "range" p1) [a, b] [] pos1] X.env = (false, eval (.Call (.Name "range" p1) [a, b] [] pos1) X.env) :: starEach [] X.env := by rfl) :
    PE X (.Call (.Name "list" p) [.Call (.Name "range" p1) [a, b] [] pos1] [] pos) (tN X.K O (bind2 fa fb rg2G)) := pe_imp (pe_listRg hc hg hm h2 na2) fun σ H Q ⟨g, F, env, s, d, s', st, hf, k⟩ => by
  obtain ⟨x, s1, y, q1, q2, q3⟩ := bind2_some hf
  refine ⟨g, F, env, s, x, s1, st, q1, fun v F1 H1 x1 b1 r1 => ⟨g, F1, env, s1, y, s', st.step x1 b1, q2, fun w F2 H2 x2 b2 r2 => ?_⟩⟩
  cases x <;> cases y <;> simp only [rg2G] at q3 <;> try (cases q3; done)
  split at q3 <;> cases q3
  rename_i a' b' hr
  have hr' : RgOk a' b' := by
    have z := of_decide_eq_true hr
    exact z
  refine ⟨a', b', (r1.step x2).int, r2.int, hr', fun p np => ?_⟩
  obtain ⟨x4, b4, n4⟩ := Go.made (o := .lst (rgV a' b')) b2 np
  exact k p _ _ _ ((x1.trans x2 b1).trans x4 b2) b4 ((x1.trans x2 b1).free b2 np) n4 upd_same (.lst (reps_rg a' b'))
end

def strsOf : List Dt → Option (List Str)
  | [] => some []
  | .str x :: r => (strsOf r).map (x :: ·)
  | _ => none
theorem strs_map : ∀ {ds : List Dt} {bs : List Str}, strsOf ds = some bs → ds = bs.map Dt.str
  | [], _, h => by cases h; rfl
  | d :: r, bs, h => by
    cases d <;> simp only [strsOf] at h <;> try (cases h; done)
    rename_i b
    cases q : strsOf r with
    | none => rw [q] at h; cases h
    | some cs =>
      rw [q] at h
      cases h
      rw [strs_map q]
      rfl
def joinG (_ : Sto) : Dt → Dt → Option Dt
  | .str a, .lst xs => match strsOf xs with
    | some ys => if (ys.map (·.length)).sum + ys.length * a.length ≤ 16777216 then some (.str (Txt.join a ys)) else none
    | none => none
  | _, _ => none
def splitG (_ : Sto) : Dt → Dt → Option Dt
  | .str a, .str b => if (b.length == 0) = false ∧ a.length + 2 ≤ sizeLine then some (.lst ((Txt.split a b).map .str)) else none
  | _, _ => none
section
variable {X : Cx} {O : List Nat} {o e : Expr} {fa fb : Fe} {apos cpos : Pos}
def toStrOnly (f : Fe) : Fe := fun env s => match f env s with
  | some (.str z, s') => some (.str z, s')
  | _ => none
theorem toStr_some {f : Fe} {env : Env} {s s' : Sto} {d : Dt} (h : toStrOnly f env s = some (d, s')) : ∃ z, d = .str z ∧ f env s = some (.str z, s') := by
  unfold toStrOnly at h
  split at h
  · rename_i q; cases h; exact ⟨_, rfl, q⟩
  · cases h
theorem n_split (ha : PE X o (tB X.K O fa)) (hb : PE X e (tB X.K O fb))
    (hbase : attributeBase o "split" X.env (eval o X.env) = eval o X.env := by rfl)
    (hfew : ((backTo cpos (starEach [e] X.env)).all (fun x => !x.1) && (backToKw cpos (keywordEach [] X.env)).all (fun x => x.1.isSome)
      && decide ([e].length + ([] : List Keyword).length + (if ([] : List Keyword).isEmpty then 0 else 1) < 30)) = true := by rfl)
    (hline : (apos.endLine == cpos.line) = true := by rfl) (hs : starEach [e] X.env = (false, eval e X.env) :: starEach [] X.env := by rfl) (hplain : (backTo cpos (starEach [] X.env)).any (·.1) = false := by rfl) :
    PE X (.Call (.Attribute o "split" apos) [e] [] cpos) (tN X.K O (bind2 (toStrOnly fa) fb splitG)) :=
  pe_imp (pe_bm PySem.F.plainAttrs_str PySem.F.slot_str_split PySem.F.type_str_split mt_split ha (pa_cons hb pa_nil hs) hbase hfew hline hs hplain) fun σ H Q ⟨g, F, env, s, d, s', st, hf, k⟩ => by
  obtain ⟨x, s1, y, q1, q2, q3⟩ := bind2_some hf
  obtain ⟨z, rfl, qz⟩ := toStr_some q1
  refine ⟨g, F, env, s, _, s1, st, qz, fun v F1 H1 x1 b1 r1 => ?_⟩
  obtain rfl := r1.str
  refine ⟨rfl, g, F1, env, s1, y, s', st.step x1 b1, q2, fun w F2 H2 x2 b2 r2 => ?_⟩
  cases y <;> simp only [splitG] at q3 <;> try (cases q3; done)
  split at q3 <;> cases q3
  rename_i hl
  obtain rfl := r2.str
  refine ⟨_, _, rfl, rfl, hl.1, hl.2, fun p np => ?_⟩
  obtain ⟨x4, b4, n4⟩ := Go.made (o := .lst ((Txt.split z _).map V.str)) b2 np
  exact k p _ _ _ ((x1.trans x2 b1).trans x4 b2) b4 ((x1.trans x2 b1).free b2 np) n4 upd_same (.lst (Reps.strs _))
end
end DL

namespace DL
open PySem PySem.Spec PyProof.Rows L2

section
variable {K : PySem.W.Frag} {g : Gd} {O O' : List Nat} {F H : Hp} {σ : L2.St} {env : Env} {s : Sto}
theorem Stt.mem (h : Stt K g O F H σ env s) (e : ∀ i, i ∈ O' ↔ i ∈ O) : Stt K g O' F H σ env s :=
  ⟨h.bs, ⟨h.sl.len, fun i d hi => h.sl.pu i d fun z => hi ((e i).mpr z), fun i hi => h.sl.ow i ((e i).mp hi), fun i j p hi hj => h.sl.di i j p ((e i).mp hi) ((e j).mp hj)⟩, h.go⟩
theorem Stt.frost1 {i : Nat} (h : Stt K g (i :: O') F H σ env s) (hi : i ∉ O') {φ : Hp → Prop} (k : ∀ F' H', Same F F' → Stt K g O' F' H' σ env s → Lk φ H') : Lk φ H := by
  obtain ⟨p, o, d, e1, e2, e3, r, n, nf, nh⟩ := h.sl.ow i List.mem_cons_self
  have fin : ∀ (o' : HO) (H' : Hp), Go g.ft g.f0 g.he (upd F p o') H' → Bs K g.ft (upd F p o') H' s → Rep K (upd F p o') (.ref p) d → (∀ q, q ≠ p → H' q = H q) → Lk φ H' := fun o' H' x1 b1 rp hq => by
    have sF : Same F (upd F p o') := fun c u e => by rw [upd_ne (ne_of_none e n)]; exact e
    refine k (upd F p o') H' sF ⟨b1, ⟨h.sl.len, fun j d' hj e => ?_, fun j hj => ?_, fun a b q ha hb => h.sl.di a b q (List.mem_cons_of_mem _ ha) (List.mem_cons_of_mem _ hb)⟩, x1⟩
    · by_cases c : j = i
      · subst c
        rw [e2] at e; cases e
        exact ⟨_, e1, rp⟩
      · obtain ⟨v, e4, r4⟩ := h.sl.pu j d' (fun z => (List.mem_cons.mp z).elim c hj) e
        exact ⟨v, e4, Rep.mono sF _ _ r4⟩
    · obtain ⟨p', o2, d', f1, f2, f3, r', n', nf', nh'⟩ := h.sl.ow j (List.mem_cons_of_mem _ hj)
      have np : p' ≠ p := fun z => by
        subst z
        have := h.sl.di i j p' List.mem_cons_self (List.mem_cons_of_mem _ hj) e1 f1
        subst this
        exact hi hj
      exact ⟨p', o2, d', f1, f2, by rw [hq _ np]; exact f3, r'.mono sF, by rw [upd_ne np]; exact n', nf', nh'⟩
  cases r with
  | @lst vs ds q =>
    obtain ⟨x1, b1⟩ := h.go.frost h.bs nh n e3 nf
    exact fin _ H x1 b1 (ObR.rep (.lst q) n) fun _ _ => rfl
  | @dct vs ds q =>
    refine .lock e3 trivial fun od => ?_
    obtain ⟨x1, b1⟩ := h.go.frostL (o' := .frz od (.dK vs)) h.bs nh n e3 nf
    exact fin _ _ x1 b1 (ObR.repL (.dct q) n) fun q hq => upd_ne hq
theorem Stt.frosts {φ : Hp → Prop} : ∀ (L : List Nat) {F H : Hp}, Stt K g (L ++ O') F H σ env s → (∀ F' H', Same F F' → Stt K g O' F' H' σ env s → φ H') → Lk φ H
  | [], F, H, h, k => .done (k F H (Same.refl _) h)
  | i :: L, F, H, h, k => by
    by_cases c : i ∈ L ++ O'
    · exact Stt.frosts L (h.mem (O' := L ++ O') fun j => ⟨fun z => List.mem_cons_of_mem _ z, fun z => (List.mem_cons.mp z).elim (fun e => e ▸ c) fun z => z⟩) k
    · exact Stt.frost1 (O' := L ++ O') h c fun F1 H1 e1 h1 => Stt.frosts L h1 fun F2 H2 e2 h2 => k F2 H2 (e1.trans e2) h2
theorem Stt.weak {φ : Hp → Prop} (h : Stt K g O F H σ env s) (e : ∀ i, i ∈ O' → i ∈ O) (k : ∀ F' H', Same F F' → Stt K g O' F' H' σ env s → φ H') : Lk φ H :=
  Stt.frosts O (h.mem fun i => ⟨fun z => (List.mem_append.mp z).elim (fun z => z) fun z => e i z, fun z => List.mem_append_left _ z⟩) k
theorem Stt.setD {i : Nat} {v : V} {d : Dt} (h : Stt K g O F H σ env s) (r : Rep K F v d) (e : ∀ j, j ∈ O' → j ∈ O ∧ j ≠ i) (e' : ∀ j, j ∈ O → j ≠ i → j ∈ O') : Stt K g O' F H (σ.set i (some v)) (env.set i (some d)) s := by
  refine ⟨h.bs, ⟨by rw [List.length_set, List.length_set]; exact h.sl.len, fun j d' hj q => ?_, fun j hj => ?_, fun a b p ha hb qa qb => ?_⟩, h.go⟩
  · by_cases c : j = i
    · subst c
      have hl : j < env.length := by
        have := (List.getElem?_eq_some_iff.mp q).1
        rwa [List.length_set] at this
      rw [List.getElem?_set_self hl] at q
      cases q
      exact ⟨v, List.getElem?_set_self (by rw [h.sl.len]; exact hl), r⟩
    · rw [List.getElem?_set_ne (Ne.symm c)] at q
      obtain ⟨u, e1, r1⟩ := h.sl.pu j d' (fun z => hj (e' j z c)) q
      exact ⟨u, by rw [List.getElem?_set_ne (Ne.symm c)]; exact e1, r1⟩
  · obtain ⟨hO, c⟩ := e j hj
    rw [List.getElem?_set_ne (Ne.symm c), List.getElem?_set_ne (Ne.symm c)]
    exact h.sl.ow j hO
  · obtain ⟨hA, ca⟩ := e a ha
    obtain ⟨hB, cb⟩ := e b hb
    rw [List.getElem?_set_ne (Ne.symm ca)] at qa
    rw [List.getElem?_set_ne (Ne.symm cb)] at qb
    exact h.sl.di a b p hA hB qa qb
theorem Stt.setN {i : Nat} {p : Addr} {o : HO} {d : Dt} (h : Stt K g O F H σ env s) (hi : i < env.length) (eo : H p = some o) (r : ObR K F o d) (n : F p = none) (nf : p ∉ g.ft) (nh : g.he p = none) (hd : ∀ j, j ∈ O → j ≠ i → σ[j]? ≠ some (some (.ref p)))
    (e : ∀ j, j ∈ O' → j = i ∨ j ∈ O) (e' : ∀ j, j ∈ O → j ∈ O') (e2 : i ∈ O') : Stt K g O' F H (σ.set i (some (.ref p))) (env.set i (some d)) s := by
  refine ⟨h.bs, ⟨by rw [List.length_set, List.length_set]; exact h.sl.len, fun j d' hj q => ?_, fun j hj => ?_, fun a b q ha hb qa qb => ?_⟩, h.go⟩
  · have c : j ≠ i := fun z => hj (z ▸ e2)
    rw [List.getElem?_set_ne (Ne.symm c)] at q
    obtain ⟨u, e1, r1⟩ := h.sl.pu j d' (fun z => hj (e' j z)) q
    exact ⟨u, by rw [List.getElem?_set_ne (Ne.symm c)]; exact e1, r1⟩
  · by_cases c : j = i
    · subst c
      exact ⟨p, o, d, List.getElem?_set_self (by rw [h.sl.len]; exact hi), List.getElem?_set_self hi, eo, r, n, nf, nh⟩
    · rw [List.getElem?_set_ne (Ne.symm c), List.getElem?_set_ne (Ne.symm c)]
      exact h.sl.ow j ((e j hj).elim (fun z => absurd z c) fun z => z)
  · have key : ∀ j, j ∈ O' → (σ.set i (some (.ref p)))[j]? = some (some (.ref q)) → (j = i ∧ q = p) ∨ (j ≠ i ∧ j ∈ O ∧ σ[j]? = some (some (.ref q))) := fun j hj z => by
      by_cases c : j = i
      · subst c
        rw [List.getElem?_set_self (by rw [h.sl.len]; exact hi)] at z
        cases z
        exact .inl ⟨rfl, rfl⟩
      · rw [List.getElem?_set_ne (Ne.symm c)] at z
        exact .inr ⟨c, (e j hj).elim (fun z => absurd z c) fun z => z, z⟩
    rcases key a ha qa with ⟨rfl, rfl⟩ | ⟨ca, hA, za⟩
    · rcases key b hb qb with ⟨rfl, _⟩ | ⟨cb, hB, zb⟩
      · rfl
      · exact absurd zb (hd b hB cb)
    · rcases key b hb qb with ⟨rfl, rfl⟩ | ⟨cb, hB, zb⟩
      · exact absurd za (hd a hA ca)
      · exact h.sl.di a b q hA hB za zb
theorem Stt.change {i : Nat} {p : Addr} {o o' : HO} {d : Dt} (h : Stt K g O F H σ env s) (hi : i ∈ O) (es : σ[i]? = some (some (.ref p))) (eo : H p = some o) (r : ObR K F o' d) : Stt K g O F (upd H p o') σ (env.set i (some d)) s := by
  obtain ⟨p', o1, d1, f1, f2, f3, r', n', nf', nh'⟩ := h.sl.ow i hi
  rw [es] at f1
  cases f1
  have hl : i < env.length := (List.getElem?_eq_some_iff.mp f2).1
  refine ⟨⟨fun c u e => ?_, h.bs.ad, h.bs.nd, fun a d' hm => ?_, h.bs.fr⟩, ⟨by rw [List.length_set]; exact h.sl.len, fun j d' hj q => ?_, fun j hj => ?_, h.sl.di⟩, ⟨fun c u e nc => ?_, h.go.sam, h.go.new⟩⟩
  · rw [upd_ne (ne_of_none e n')]; exact h.bs.sub c u e
  · obtain ⟨ob, e, rr⟩ := h.bs.st a d' hm
    have na : a ≠ p := fun z => nf' (by rw [← z, ← h.bs.ad]; exact List.mem_map_of_mem hm)
    exact ⟨ob, by rw [upd_ne na]; exact e, rr⟩
  · have c : j ≠ i := fun z => hj (z ▸ hi)
    rw [List.getElem?_set_ne (Ne.symm c)] at q
    exact h.sl.pu j d' hj q
  · by_cases c : j = i
    · subst c
      exact ⟨p, o', d, es, List.getElem?_set_self hl, upd_same, r, n', nf', nh'⟩
    · obtain ⟨p2, o2, d2, g1, g2, g3, r2, n2, nf2, nh2⟩ := h.sl.ow j hj
      have np : p2 ≠ p := fun z => by
        subst z
        exact c (h.sl.di j i p2 hj hi g1 es)
      exact ⟨p2, o2, d2, g1, by rw [List.getElem?_set_ne (Ne.symm c)]; exact g2, by rw [upd_ne np]; exact g3, r2, n2, nf2, nh2⟩
  · have nc' : c ≠ p := fun z => by subst z; rw [nh'] at e; cases e
    rw [upd_ne nc']; exact h.go.ext c u e nc
theorem Bs.put {ft : List Addr} {a : Addr} {o' : HO} {d : Dt} (b : Bs K ft F H s) (ha : a ∈ ft) (r : ObR K F o' d) : Bs K ft F (upd H a o') (s.map fun q => if q.1 = a then (a, d) else q) := by
  have e1 : (s.map fun q => if q.1 = a then (a, d) else q).map (·.1) = s.map (·.1) := by
    rw [List.map_map]
    refine List.map_congr_left fun q _ => ?_
    show (if q.1 = a then (a, d) else q).1 = q.1
    split
    · rename_i c; exact c.symm
    · rfl
  refine ⟨fun c u e => ?_, by rw [e1]; exact b.ad, b.nd, fun c d' hm => ?_, b.fr⟩
  · rw [upd_ne (fun z => by subst z; rw [b.fr c ha] at e; cases e)]; exact b.sub c u e
  · obtain ⟨q, hq, e⟩ := List.mem_map.mp hm
    by_cases c' : q.1 = a
    · rw [if_pos c'] at e
      cases e
      exact ⟨o', upd_same, r⟩
    · rw [if_neg c'] at e
      subst e
      obtain ⟨ob, e, rr⟩ := b.st _ _ hq
      exact ⟨ob, by rw [upd_ne c']; exact e, rr⟩
theorem Stt.put {a : Addr} {o' : HO} {d : Dt} (h : Stt K g O F H σ env s) (ha : a ∈ g.ft) (r : ObR K F o' d) : Stt K g O F (upd H a o') σ env (s.map fun q => if q.1 = a then (a, d) else q) := by
  refine ⟨h.bs.put ha r, ⟨h.sl.len, h.sl.pu, fun j hj => ?_, h.sl.di⟩, ⟨fun c u e nc => ?_, h.go.sam, h.go.new⟩⟩
  · obtain ⟨p, o, d', e1, e2, e3, rr, n, nf, nh⟩ := h.sl.ow j hj
    exact ⟨p, o, d', e1, e2, by rw [upd_ne (fun (z : p = a) => nf (z ▸ ha))]; exact e3, rr, n, nf, nh⟩
  · rw [upd_ne (fun (z : c = a) => nc (z ▸ ha))]; exact h.go.ext c u e nc
end

inductive Out where
  | nx (env : Env) | rt (d : Dt) | bk (env : Env) | ct (env : Env)
abbrev Fs := Env → Sto → Option (Out × Sto)
def post (K : PySem.W.Frag) (g : Gd) (L O' : List Nat) (D : Ends) (F : Hp) (s' : Sto) : Out → Prop
  | .nx env' => ∀ σ' H' F', Same F F' → Stt K g O' F' H' σ' env' s' → D.nx σ' H'
  | .rt d => ∀ v H' F', Bs K g.ft F' H' s' → Go g.ft g.f0 g.he F' H' → Rep K F' v d → D.rt v H'
  | .bk env' => ∀ σ' H' F', Same F F' → Stt K g L F' H' σ' env' s' → D.bk σ' H'
  | .ct env' => ∀ σ' H' F', Same F F' → Stt K g L F' H' σ' env' s' → D.ct σ' H'
theorem post.mono {K : PySem.W.Frag} {g : Gd} {L O' : List Nat} {D : Ends} {F F1 : Hp} {s' : Sto} {o : Out} (e : Same F F1) (h : post K g L O' D F s' o) : post K g L O' D F1 s' o := by
  cases o with
  | nx env' => exact fun σ' H' F' e' st => h σ' H' F' (e.trans e') st
  | rt d => exact h
  | bk env' => exact fun σ' H' F' e' st => h σ' H' F' (e.trans e') st
  | ct env' => exact fun σ' H' F' e' st => h σ' H' F' (e.trans e') st
def tS (K : PySem.W.Frag) (L O O' : List Nat) (f : Fs) : TS := fun D σ H => ∃ g F env s out s', Stt K g O F H σ env s ∧ f env s = some (out, s') ∧ post K g L O' D F s' out
section
variable {X : Cx} {L O O' O'' : List Nat} {e : Expr} {st : Stmt} {sts : List Stmt} {f : Fe} {F1 F2 : Fs} {pos : Pos}
theorem ps_imp {t t' : TS} (h : PS X st t) (k : ∀ D σ H, t' D σ H → t D σ H) : PS X st t' := ⟨fun pins s σ H D I q => h.run pins s σ H D I (k D σ H q)⟩
theorem pss_imp {t t' : TS} (h : PSs X sts t) (k : ∀ D σ H, t' D σ H → t D σ H) : PSs X sts t' := ⟨fun pins s σ H D I q => h.run pins s σ H D I (k D σ H q)⟩
theorem ps_lkin {t : TS} (h : PS X st t) : PS X st (fun D σ H => Lk (t D σ) H) := ⟨fun pins s σ H D I l => by
  obtain ⟨H1, I1, q⟩ := l.inv I
  exact h.run pins s σ H1 D I1 q⟩
theorem pss_lkout {t : TS} (h : PSs X sts t) : PSs X sts (fun D σ H => t ⟨fun σ' H' => Lk (D.nx σ') H', D.rt, D.bk, D.ct⟩ σ H) := by
  refine ⟨fun pins s σ H D I hw => thn (h.run pins s σ H _ I hw) fun f s1 q => ?_⟩
  cases f with
  | next =>
    obtain ⟨σ', H', I2, q⟩ := q
    obtain ⟨H2, I3, q2⟩ := q.inv I2
    exact ⟨σ', H2, I3, q2⟩
  | brk => exact q
  | cont => exact q
  | ret v => exact q
theorem ps_lkout {t : TS} (h : PS X st t) : PS X st (fun D σ H => t ⟨fun σ' H' => Lk (D.nx σ') H', D.rt, D.bk, D.ct⟩ σ H) := by
  refine ⟨fun pins s σ H D I hw => thn (h.run pins s σ H _ I hw) fun f s1 q => ?_⟩
  cases f with
  | next =>
    obtain ⟨σ', H', I2, q⟩ := q
    obtain ⟨H2, I3, q2⟩ := q.inv I2
    exact ⟨σ', H2, I3, q2⟩
  | brk => exact q
  | cont => exact q
  | ret v => exact q
theorem s_weak (h : PS X st (tS X.K L O O' F1)) (e : ∀ i, i ∈ O → i ∈ O'' := by decide) : PS X st (tS X.K L O'' O' F1) := ps_imp (ps_lkin h) fun D σ H ⟨g, F, env, s, out, s', st, hf, k⟩ =>
  st.weak e fun F' H' sm st' => ⟨g, F', env, s, out, s', st', hf, k.mono sm⟩
theorem ss_end (h : PSs X sts (tS X.K L O O' F1)) (e : ∀ i, i ∈ O'' → i ∈ O' := by decide) : PSs X sts (tS X.K L O O'' F1) := pss_imp (pss_lkout h) fun D σ H ⟨g, F, env, s, out, s', st, hf, k⟩ => by
  refine ⟨g, F, env, s, out, s', st, hf, ?_⟩
  cases out with
  | nx env' => exact fun σ' H' F' e' st' => st'.weak e fun F2 H2 sm st2 => k σ' H2 F2 (e'.trans sm) st2
  | rt d => exact k
  | bk env' => exact k
  | ct env' => exact k
def seqS (a b : Fs) : Fs := fun env s => match a env s with
  | some (.nx env', s') => b env' s'
  | r => r
def skipS : Fs := fun env s => some (.nx env, s)
theorem ss_nil : PSs X [] (tS X.K L O O skipS) := pss_imp pss_nil fun D σ H ⟨g, F, env, s, out, s', st, hf, k⟩ => by
  cases hf
  exact k σ H F (Same.refl _) st
theorem ss_one (h : PS X st (tS X.K L O O' F1)) : PSs X [st] (tS X.K L O O' F1) := pss_one h
theorem ss_cons (h : PS X st (tS X.K L O O' F1)) (h' : PSs X sts (tS X.K L O' O'' F2)) : PSs X (st :: sts) (tS X.K L O O'' (seqS F1 F2)) := pss_imp (pss_cons h h') fun D σ H ⟨g, F, env, s, out, s', st, hf, k⟩ => by
  unfold seqS at hf
  cases q : F1 env s with
  | none => rw [q] at hf; cases hf
  | some p =>
    obtain ⟨o1, s1⟩ := p
    rw [q] at hf
    refine ⟨g, F, env, s, o1, s1, st, q, ?_⟩
    cases o1 with
    | nx env' => exact fun σ' H' F' e' st' => ⟨g, F', env', s1, out, s', st', hf, k.mono e'⟩
    | rt d => cases hf; exact k
    | bk env' => cases hf; exact k
    | ct env' => cases hf; exact k
def neverS : Fs := fun _ _ => none
theorem s_never : PS X st (tS X.K L O O' neverS) := ps_imp ps_never fun D σ H ⟨g, F, env, s, out, s', st, hf, k⟩ => by cases hf
def retS (f : Fe) : Fs := fun env s => (f env s).map fun p => (.rt p.1, p.2)
theorem s_ret (he : PE X e (tD X.K O f)) : PS X (.Return (some e) pos) (tS X.K L O O' (retS f)) := ps_imp (ps_ret he) fun D σ H ⟨g, F, env, s, out, s', st, hf, k⟩ => by
  unfold retS at hf
  cases q : f env s with
  | none => rw [q] at hf; cases hf
  | some p =>
    obtain ⟨d, s1⟩ := p
    rw [q] at hf
    cases hf
    exact ⟨g, F, env, s, d, _, st, q, fun v F' H' x b r => k v H' F' b (st.go.trans x st.bs) r⟩
theorem s_retO (he : PE X e (tD X.K [] f)) : PS X (.Return (some e) pos) (tS X.K L O O' (retS f)) := s_weak (s_ret he) (fun i z => absurd z (List.not_mem_nil))
def dropS (f : Fe) : Fs := fun env s => (f env s).map fun p => (.nx env, p.2)
theorem s_expr (he : PE X e (tB X.K O f)) (hs : swapsWith e none pos.line X.env = pure false := by rfl) : PS X (.Expr e pos) (tS X.K L O O (dropS f)) := ps_imp (ps_expr he hs) fun D σ H ⟨g, F, env, s, out, s', st, hf, k⟩ => by
  unfold dropS at hf
  cases q : f env s with
  | none => rw [q] at hf; cases hf
  | some p =>
    obtain ⟨d, s1⟩ := p
    rw [q] at hf
    cases hf
    exact ⟨g, F, env, s, d, _, st, q, fun v F' H' x b r => k σ H' F' x.sam (st.step x b)⟩
def ifS (c : Ft) (a b : Fs) : Fs := fun env s => match c env s with
  | some (t, s') => if t then a env s' else b env s'
  | none => none
theorem s_if {c : Expr} {A B : List Stmt} {fc : Ft} (hc : PT X c (tT X.K O fc)) (ha : PSs X A (tS X.K L O O' F1)) (hb : PSs X B (tS X.K L O O' F2)) : PS X (.If c A B pos) (tS X.K L O O' (ifS fc F1 F2)) := ps_imp (ps_if hc ha hb) fun D σ H ⟨g, F, env, s, out, s', st, hf, k⟩ => by
  unfold ifS at hf
  cases q : fc env s with
  | none => rw [q] at hf; cases hf
  | some p =>
    obtain ⟨b, s1⟩ := p
    rw [q] at hf
    refine ⟨g, F, env, s, b, s1, st, q, fun F' H' x bb => ?_⟩
    cases b with
    | true => exact ⟨g, F', env, s1, out, s', st.step x bb, hf, k.mono x.sam⟩
    | false => exact ⟨g, F', env, s1, out, s', st.step x bb, hf, k.mono x.sam⟩
def setS (i : Nat) (f : Fe) : Fs := fun env s => (f env s).map fun p => (.nx (env.set i (some p.1)), p.2)
def setNS (i : Nat) (f : Fe) : Fs := fun env s => if i < env.length then (f env s).map fun p => (.nx (env.set i (some p.1)), p.2) else none
theorem asg_imp {tg : Expr} {te te' : TE} {gg : TG} (h : PS X (.Assign [tg] e pos) (tAsg te gg)) (k : ∀ σ H Q, te' σ H Q → te σ H Q) : PS X (.Assign [tg] e pos) (tAsg te' gg) := ps_imp h fun D σ H q => k σ H _ q
theorem s_set {i : Nat} {x : Str} {pos' : Pos} (h : PS X (.Assign [.Name x pos'] e pos) (tAsg (tD X.K O f) (gName i)))
    (h1 : ∀ j, j ∈ O' → j ∈ O ∧ j ≠ i := by decide) (h2 : ∀ j, j ∈ O → j ≠ i → j ∈ O' := by decide) : PS X (.Assign [.Name x pos'] e pos) (tS X.K L O O' (setS i f)) := ps_imp h fun D σ H ⟨g, F, env, s, out, s', st, hf, k⟩ => by
  unfold setS at hf
  cases q : f env s with
  | none => rw [q] at hf; cases hf
  | some p =>
    obtain ⟨d, s1⟩ := p
    rw [q] at hf
    cases hf
    exact ⟨g, F, env, s, d, _, st, q, fun v F' H' x b r => k _ H' F' x.sam ((st.step x b).setD r h1 h2)⟩
theorem s_setN {i : Nat} {x : Str} {pos' : Pos} (h : PS X (.Assign [.Name x pos'] e pos) (tAsg (tN X.K O f) (gName i)))
    (h1 : ∀ j, j ∈ O' → j = i ∨ j ∈ O := by decide) (h2 : ∀ j, j ∈ O → j ∈ O' := by decide) (h3 : i ∈ O' := by decide) : PS X (.Assign [.Name x pos'] e pos) (tS X.K L O O' (setNS i f)) := ps_imp h fun D σ H ⟨g, F, env, s, out, s', st, hf, k⟩ => by
  unfold setNS at hf
  split at hf
  · rename_i hl
    cases q : f env s with
    | none => rw [q] at hf; cases hf
    | some p =>
      obtain ⟨d, s1⟩ := p
      rw [q] at hf
      cases hf
      refine ⟨g, F, env, s, d, _, st, q, fun p o F' H' x b n n' eo r => k _ H' F' x.sam ((st.step x b).setN hl eo r n' (st.bs.nofree n) ?_ (fun j hj _ ej => ?_) h1 h2 h3)⟩
      · exact st.go.free st.bs n
      · obtain ⟨p2, o2, d2, g1, g2, g3, _⟩ := st.sl.ow j hj
        rw [ej] at g1
        cases g1
        rw [n] at g3; cases g3
  · cases hf
end
end DL

namespace DL
open PySem PySem.Spec PyProof.Rows L2

abbrev Tg := Env → Dt → Option Env
def tG (K : PySem.W.Frag) (O : List Nat) (st : Tg) : TG := fun v σ H Q => ∃ g F env s d env', Stt K g O F H σ env s ∧ Rep K F v d ∧ st env d = some env' ∧ ∀ σ', Stt K g O F H σ' env' s → (∀ j, j ∈ O → σ'[j]? = σ[j]?) → Q σ' H
def tgN (i : Nat) : Tg := fun env d => some (env.set i (some d))
def tgP (a b : Tg) : Tg := fun env d => match d with
  | .tup [x, y] => do
    let e1 ← a env x
    b e1 y
  | _ => none
section
variable {X : Cx} {O : List Nat} {pos : Pos}
theorem pg_imp {e : Expr} {t t' : TG} (h : PG X e t) (k : ∀ v σ H Q, t' v σ H Q → t v σ H Q) : PG X e t' := ⟨fun pins s σ H v u Q I r q => h.run pins s σ H v u Q I r (k v σ H Q q)⟩
theorem g_name {i : Nat} {x : Str} (h : PG X (.Name x pos) (gName i)) (hi : i ∉ O := by decide) : PG X (.Name x pos) (tG X.K O (tgN i)) := pg_imp h fun v σ H Q ⟨g, F, env, s, d, env', st, r, hs, k⟩ => by
  cases hs
  exact k _ (st.setD r (fun j hj => ⟨hj, fun z => hi (z ▸ hj)⟩) fun j hj _ => hj) fun j hj => List.getElem?_set_ne fun (z : i = j) => hi (z ▸ hj)
theorem g_pair {e1 e2 : Expr} {k0 : Nat} {a b : Tg} (hc : X.calm = true) (hn : (assignEach [e1, e2] X.env).length = 2 := by rfl) (hst : (assignEach [e1, e2] X.env).findIdx? (·.1) = none := by rfl)
    (hp : PGs X [e1, e2] (gCons (tG X.K O a) (gCons (tG X.K O b) gNil))) :
    PG X (.Tuple [e1, e2] k0 pos) (tG X.K O (tgP a b)) := pg_imp (pg_tup hc hp hn hst) fun v σ H Q ⟨g, F, env, s, d, env', st, r, hs, k⟩ => by
  unfold tgP at hs
  split at hs
  · rename_i x y
    cases r with
    | tup h1 hp h2 =>
      cases h2 with
      | cons r1 t1 =>
        cases t1 with
        | cons r2 t2 =>
          cases t2
          cases q1 : a env x with
          | none => simp [q1] at hs
          | some e1 =>
            simp only [q1, Option.bind_eq_bind, Option.bind_some] at hs
            exact ⟨_, _, rfl, sqT_same st.bs.sub h1, rfl, _, _, rfl, g, F, env, s, x, e1, st, r1, q1, fun σ' st' eo => ⟨_, _, rfl, g, F, e1, s, y, env', st', r2, hs, fun σ2 st2 eo2 => ⟨rfl, k σ2 st2 fun j hj => (eo2 j hj).trans (eo j hj)⟩⟩⟩
  · cases hs
end

abbrev Fi := Env → Sto → Option (List Dt × Sto)
def WalkJ (K : PySem.W.Frag) (ft : List Addr) (F1 : Hp) (J : It) (ds : List Dt) : Prop := ∀ F H s i, Same F1 F → Bs K ft F H s → (ds.length ≤ i → J.stop i H) ∧
  ∀ d, ds[i]? = some d → J.go i H ∧ ∀ x H3, J.yld i H x H3 → ∃ F3, Go ft F H F3 H3 ∧ Bs K ft F3 H3 s ∧ Rep K F3 x d
def tI (K : PySem.W.Frag) (O : List Nat) (f : Fi) : TI := fun σ H R => ∃ g F env s ds s', Stt K g O F H σ env s ∧ f env s = some (ds, s') ∧ ∀ J F' H', Go g.ft F H F' H' → Bs K g.ft F' H' s' → WalkJ K g.ft F' J ds → R J H'
def seqOf : Dt → Option (List Dt)
  | .lst xs => some xs
  | .tup xs => some xs
  | .str z => some (z.cps.toList.map fun c => .str ⟨#[c]⟩)
  | .scr ns => some (ns.map .int)
  | .dct ks => some (ks.map fun kv => keyD kv.1)
  | _ => none
def seqF (f : Fe) : Fi := fun env s => do
  let (x, s1) ← f env s
  let xs ← seqOf x
  some (xs, s1)
section
variable {X : Cx} {O : List Nat} {tg e : Expr} {f : Fe} {pos p : Pos}
theorem pi_imp {t t' : TI} (h : PI X tg e t) (k : ∀ σ H Q, t' σ H Q → t σ H Q) : PI X tg e t' := ⟨fun pins s σ H Q I q => h.run pins s σ H Q I (k σ H Q q)⟩
theorem pi_or {t t' : TI} (h : PI X tg e t) (h' : PI X tg e t') : PI X tg e (fun σ H R => t σ H R ∨ t' σ H R) := ⟨fun pins s σ H Q I q => q.elim (h.run pins s σ H Q I) (h'.run pins s σ H Q I)⟩
theorem walk_list {K : PySem.W.Frag} {ft : List Addr} {F1 : Hp} {a : Addr} {vs : List V} {ds : List Dt} (h : ∀ F H, Same F1 F → Same F H → SqL K H a vs) (r : Reps K F1 vs ds) : WalkJ K ft F1 (Itl K a) ds := fun F H s i e b => by
  have q := h F H e b.sub
  refine ⟨fun hl => ⟨vs, q, by rw [r.length]; exact hl⟩, fun d hd => ?_⟩
  obtain ⟨v, e1, r1⟩ := r.get hd
  refine ⟨⟨vs, v, q, e1⟩, fun x H3 y => ?_⟩
  obtain ⟨rfl, y⟩ := y
  have e2 := y vs q
  rw [e1] at e2
  cases e2
  exact ⟨F, Go.refl, b, Rep.mono e _ _ r1⟩
theorem walk_tup {K : PySem.W.Frag} {ft : List Addr} {F1 : Hp} {a : Addr} {vs : List V} {ds : List Dt} (h : SqT K F1 a vs) (r : Reps K F1 vs ds) : WalkJ K ft F1 (Itt K a) ds := fun F H s i e b => by
  have q : SqT K H a vs := sqT_same b.sub (sqT_same e h)
  refine ⟨fun hl => ⟨vs, q, by rw [r.length]; exact hl⟩, fun d hd => ?_⟩
  obtain ⟨v, e1, r1⟩ := r.get hd
  refine ⟨⟨vs, v, q, e1⟩, fun x H3 y => ?_⟩
  obtain ⟨rfl, y⟩ := y
  have e2 := y vs q
  rw [e1] at e2
  cases e2
  exact ⟨F, Go.refl, b, Rep.mono e _ _ r1⟩
theorem walk_str {K : PySem.W.Frag} {ft : List Addr} {F1 : Hp} (z : Str) : WalkJ K ft F1 (Its z) (z.cps.toList.map fun c => .str ⟨#[c]⟩) := fun F H s i e b => by
  refine ⟨fun hl => by rw [List.length_map, Array.length_toList] at hl; exact hl, fun d hd => ?_⟩
  rw [List.getElem?_map, Array.getElem?_toList] at hd
  cases q : z.cps[i]? with
  | none => rw [q] at hd; cases hd
  | some c =>
    rw [q] at hd
    cases hd
    refine ⟨(Array.getElem?_eq_some_iff.mp q).1, fun x H3 y => ?_⟩
    obtain ⟨rfl, c', e1, rfl⟩ := y
    rw [q] at e1
    cases e1
    exact ⟨F, Go.refl, b, .str _⟩
theorem walk_rng {K : PySem.W.Frag} {ft : List Addr} {F1 : Hp} (lo : Int) (n : Nat) : WalkJ K ft F1 (Itr lo n) ((List.range n).map fun i => .int (lo + (i : Nat))) := fun F H s i e b => by
  refine ⟨fun hl => by rw [List.length_map, List.length_range] at hl; exact hl, fun d hd => ?_⟩
  rw [List.getElem?_map] at hd
  by_cases hi : i < n
  · rw [List.getElem?_range hi] at hd
    cases hd
    refine ⟨hi, fun x H3 y => ?_⟩
    obtain ⟨rfl, rfl⟩ := y
    exact ⟨F, Go.refl, b, .int _⟩
  · rw [List.getElem?_eq_none (by rw [List.length_range]; omega)] at hd
    cases hd
theorem Repk.get {K : PySem.W.Frag} {F : Hp} : ∀ {vs : List (Key × V)} {ds : List (Key × Dt)} {i : Nat} {kd : Key × Dt}, Repk K F vs ds → ds[i]? = some kd → ∃ v, vs[i]? = some (kd.1, v) ∧ Rep K F v kd.2
  | [], [], _, _, _, e => by simp at e
  | [], _ :: _, _, _, h, _ => by cases h
  | _ :: _, [], _, _, h, _ => by cases h
  | (k, v) :: vs, (_, d) :: ds, 0, kd, h, e => by
    cases h with
    | cons h1 h2 =>
      have e' : (k, d) = kd := by simpa using e
      subst e'
      exact ⟨v, rfl, h1⟩
  | _ :: vs, _ :: ds, i + 1, kd, h, e => by
    cases h with
    | cons h1 h2 =>
      obtain ⟨u, e1, r⟩ := Repk.get (i := i) h2 (by simpa using e)
      exact ⟨u, by simpa using e1, r⟩
theorem walk_keys {K : PySem.W.Frag} {ft : List Addr} {F1 : Hp} {p : Addr} {od : Obj} {kvs : List (Key × V)} {ks : List (Key × Dt)} (hp : F1 p = some (.frz od (.dK kvs))) (r : Repk K F1 kvs ks) : WalkJ K ft F1 (Itk p od kvs) (ks.map fun kv => keyD kv.1) := fun F H s i e b => by
  have ep : H p = some (.frz od (.dK kvs)) := b.sub p _ (e p _ hp)
  have hl := r.length
  refine ⟨fun h => ⟨ep, by rw [List.length_map] at h; omega⟩, fun d hd => ?_⟩
  rw [List.getElem?_map] at hd
  cases q : ks[i]? with
  | none => rw [q] at hd; cases hd
  | some kd =>
    rw [q] at hd
    cases hd
    obtain ⟨v, e1, r1⟩ := r.get q
    have hlt : i < kvs.length := (List.getElem?_eq_some_iff.mp e1).1
    refine ⟨⟨ep, hlt⟩, fun x H3 ⟨e3, k2, v2, f1, f2⟩ => ?_⟩
    subst e3
    rw [e1] at f1; cases f1
    subst f2
    exact ⟨F, Go.refl, b, rep_key _⟩
theorem i_seq (he : PE X e (tD X.K O f)) (hl : PI X tg e (iList X.K (tD X.K O f))) (ht : PI X tg e (iTup X.K (tD X.K O f))) (hs : PI X tg e (iStr (tD X.K O f))) (hk : PI X tg e (iKeys (tD X.K O f))) : PI X tg e (tI X.K O (seqF f)) := pi_imp (pi_or hl (pi_or ht (pi_or hs hk))) fun σ H R ⟨g, F, env, s, ds, s', st, hf, k⟩ => by
  unfold seqF at hf
  cases q : f env s with
  | none => rw [q] at hf; cases hf
  | some p =>
    obtain ⟨x, s1⟩ := p
    cases q2 : seqOf x with
    | none => simp [q, q2] at hf
    | some xs =>
      simp [q, q2] at hf
      obtain ⟨rfl, rfl⟩ := hf
      cases x <;> simp only [seqOf] at q2 <;> try (cases q2; done)
      · cases q2
        refine .inr (.inr (.inl ⟨g, F, env, s, _, s1, st, q, fun v F' H' x b r => ?_⟩))
        cases r
        exact ⟨_, rfl, k _ F' H' x b (walk_str _)⟩
      · cases q2
        refine .inr (.inl ⟨g, F, env, s, _, s1, st, q, fun v F' H' x b r => ?_⟩)
        cases r with
        | tup h1 hp h2 => exact ⟨_, rfl, ⟨_, sqT_same b.sub h1⟩, k _ F' H' x b (walk_tup h1 h2)⟩
      · cases q2
        refine .inl ⟨g, F, env, s, _, s1, st, q, fun v F' H' x b r => ?_⟩
        cases r with
        | lst h1 h2 => exact ⟨_, rfl, ⟨_, SqL.of (b.sub _ _ h1)⟩, k _ F' H' x b (walk_list (fun F2 H2 e1 e2 => SqL.of (e2 _ _ (e1 _ _ h1))) h2)⟩
      · cases q2
        refine .inr (.inr (.inr ⟨g, F, env, s, _, s1, st, q, fun v F' H' x b r => ?_⟩))
        cases r with
        | dct h1 h2 => exact ⟨_, _, rfl, .inl ⟨_, b.sub _ _ h1, k _ F' H' x b (walk_keys h1 h2)⟩⟩
      · cases q2
        refine .inl ⟨g, F, env, s, _, s1, st, q, fun v F' H' x b r => ?_⟩
        cases r with
        | scr h1 => exact ⟨_, rfl, ⟨_, b.sub.seq h1⟩, k _ F' H' x b (walk_list (fun F2 H2 e1 e2 => e2.seq (e1.seq h1)) (Reps.ints _))⟩
def rngF1 (f : Fe) : Fi := fun env s => match f env s with
  | some (.int j, s') => if -(2 ^ 62) ≤ j ∧ j < 2 ^ 62 then some ((List.range j.toNat).map fun i => .int (0 + (i : Nat)), s') else none
  | _ => none
theorem i_range1 {a : Expr} (hg : Gl X "range") (hm : X.mg "range" = none) (ha : PE X a (tB X.K O f)) (hs : starEach [a] X.env = [(false, eval a X.env)] := by rfl) : PI X tg (.Call (.Name "range" p) [a] [] pos) (tI X.K O (rngF1 f)) :=
  pi_imp (pi_range1 hg hm (pa_cons ha pa_nil (by rw [hs]; rfl)) hs) fun σ H R ⟨g, F, env, s, ds, s', st, hf, k⟩ => by
    unfold rngF1 at hf
    split at hf
    · rename_i j s1 q
      split at hf <;> cases hf
      rename_i c
      exact ⟨g, F, env, s, _, _, st, q, fun v F' H' x b r => ⟨j, by rw [r.int], c.1, c.2, k _ F' H' x b (walk_rng 0 _)⟩⟩
    · cases hf
end

def loopF (st : Tg) (F : Fs) : List Dt → Env → Sto → Option (Out × Sto)
  | [], env, s => some (.nx env, s)
  | d :: ds, env, s => match st env d with
    | none => none
    | some e1 => match F e1 s with
      | some (.nx e2, s2) => loopF st F ds e2 s2
      | some (.ct e2, s2) => loopF st F ds e2 s2
      | some (.bk e2, s2) => some (.nx e2, s2)
      | some (.rt d, s2) => some (.rt d, s2)
      | none => none
def forF (fi : Fi) (st : Tg) (F : Fs) : Fs := fun env s => match fi env s with
  | some (ds, s1) => loopF st F ds env s1
  | none => none
section
variable {X : Cx} {L O : List Nat} {tg iter c : Expr} {body : List Stmt} {fi : Fi} {t : Tg} {F : Fs} {pos : Pos}
theorem s_for (hp : PassesOwn (model X.prog X.w) X.A X.env X.xe) (hc : X.calm = true) (hi : PI X tg iter (tI X.K O fi)) (hg : PG X tg (tG X.K O t)) (hb : PSs X body (tS X.K O O O F))
    (hs : ∀ x, foldedSetIterable iter X.env x = pure x := by intro _; rfl) : PS X (.For tg iter body [] pos) (tS X.K L O O (forF fi t F)) := ps_imp (ps_for hp hc hi hg hb hs) fun D σ H ⟨g, F0, env, s, out, s', st, hf, k⟩ => by
  unfold forF at hf
  split at hf
  · rename_i ds s1 q
    refine ⟨g, F0, env, s, ds, s1, st, q, fun J F1 H1 x1 b1 wk => ?_⟩
    refine ⟨fun i m σ2 H2 => m = ds.length - i ∧ ∃ F2 env2 s2, Stt X.K g O F2 H2 σ2 env2 s2 ∧ Same F1 F2 ∧ loopF t F (ds.drop i) env2 s2 = some (out, s'), ⟨_, rfl, F1, env, s1, st.step x1 b1, Same.refl _, hf⟩, ?_⟩
    rintro i m σ2 H2 ⟨rfl, F2, env2, s2, st2, sm, hl⟩
    obtain ⟨w1, w2⟩ := wk F2 H2 s2 i sm st2.bs
    cases qd : ds[i]? with
    | none =>
      have hge : ds.length ≤ i := List.getElem?_eq_none_iff.mp qd
      rw [List.drop_eq_nil_of_le hge] at hl
      unfold loopF at hl
      cases hl
      exact .inl ⟨w1 hge, k σ2 H2 F2 (x1.sam.trans sm) st2⟩
    | some d =>
      have hlt : i < ds.length := (List.getElem?_eq_some_iff.mp qd).1
      have ed : ds.drop i = d :: ds.drop (i + 1) := by
        rw [List.drop_eq_getElem_cons hlt]
        have := (List.getElem?_eq_some_iff.mp qd).2
        rw [this]
      rw [ed] at hl
      unfold loopF at hl
      obtain ⟨g1, g2⟩ := w2 d qd
      refine .inr ⟨g1, fun σ3 H3 => ∃ F3 env3 s3, Stt X.K g O F3 H3 σ3 env3 s3 ∧ Same F1 F3 ∧ loopF t F (ds.drop (i + 1)) env3 s3 = some (out, s'), fun σ3 H3 ⟨F3, env3, s3, st3, sm3, hl3⟩ => ⟨ds.length - (i + 1), by omega, rfl, F3, env3, s3, st3, sm3, hl3⟩, fun x H3 y => ?_⟩
      obtain ⟨F3, x3, b3, r3⟩ := g2 x H3 y
      have st3 := st2.step x3 b3
      split at hl
      · cases hl
      · rename_i e1 q1
        refine ⟨g, F3, env2, s2, d, e1, st3, r3, q1, fun σ4 st4 _ => ?_⟩
        split at hl
        · rename_i e2 s5 q5
          exact ⟨g, F3, e1, s2, .nx e2, s5, st4, q5, fun σ6 H6 F6 e6 st6 => ⟨F6, e2, s5, st6, (sm.trans x3.sam).trans e6, hl⟩⟩
        · rename_i e2 s5 q5
          exact ⟨g, F3, e1, s2, .ct e2, s5, st4, q5, fun σ6 H6 F6 e6 st6 => ⟨F6, e2, s5, st6, (sm.trans x3.sam).trans e6, hl⟩⟩
        · rename_i e2 s5 q5
          cases hl
          exact ⟨g, F3, e1, s2, .bk e2, _, st4, q5, fun σ6 H6 F6 e6 st6 => k σ6 H6 F6 (((x1.sam.trans sm).trans x3.sam).trans e6) st6⟩
        · rename_i d5 s5 q5
          cases hl
          exact ⟨g, F3, e1, s2, .rt d5, _, st4, q5, k⟩
        · cases hl
  · cases hf
end
end DL

namespace DL
open PySem PySem.Spec PyProof.Rows L2

def whileL (c : Ft) (F : Fs) : Nat → Env → Sto → Option (Out × Sto)
  | 0, _, _ => none
  | n + 1, env, s => match c env s with
    | some (true, s1) => match F env s1 with
      | some (.nx e, s2) => whileL c F n e s2
      | some (.ct e, s2) => whileL c F n e s2
      | some (.bk e, s2) => some (.nx e, s2)
      | some (.rt d, s2) => some (.rt d, s2)
      | none => none
    | some (false, s1) => some (.nx env, s1)
    | none => none
def whileS (c : Ft) (F : Fs) (fuel : Nat) : Fs := fun env s => whileL c F fuel env s
section
variable {X : Cx} {L O : List Nat} {c : Expr} {body : List Stmt} {fc : Ft} {F : Fs} {pos : Pos}
theorem s_while (fuel : Nat) (hp : PassesOwn (model X.prog X.w) X.A X.env X.xe) (hc : PT X c (tT X.K O fc)) (hb : PSs X body (tS X.K O O O F)) : PS X (.While c body [] pos) (tS X.K L O O (whileS fc F fuel)) := ps_imp (ps_while hp hc hb) fun D σ H ⟨g, F0, env, s, out, s', st, hf, k⟩ => by
  refine ⟨fun n σ2 H2 => ∃ F2 env2 s2, Stt X.K g O F2 H2 σ2 env2 s2 ∧ Same F0 F2 ∧ whileL fc F n env2 s2 = some (out, s'), ⟨fuel, F0, env, s, st, Same.refl _, hf⟩, ?_⟩
  rintro n σ2 H2 ⟨F2, env2, s2, st2, sm, hl⟩
  cases n with
  | zero => cases hl
  | succ n =>
    unfold whileL at hl
    split at hl
    · rename_i s3 q
      refine ⟨g, F2, env2, s2, true, s3, st2, q, fun F3 H3 x3 b3 => ?_⟩
      refine iteT ⟨fun σ4 H4 => ∃ F4 env4 s4, Stt X.K g O F4 H4 σ4 env4 s4 ∧ Same F0 F4 ∧ whileL fc F n env4 s4 = some (out, s'), fun σ4 H4 h4 => ⟨n, Nat.lt_succ_self n, h4⟩, ?_⟩
      have st3 := st2.step x3 b3
      split at hl
      · rename_i e2 s5 q5
        exact ⟨g, F3, env2, s3, .nx e2, s5, st3, q5, fun σ6 H6 F6 e6 st6 => ⟨F6, e2, s5, st6, (sm.trans x3.sam).trans e6, hl⟩⟩
      · rename_i e2 s5 q5
        exact ⟨g, F3, env2, s3, .ct e2, s5, st3, q5, fun σ6 H6 F6 e6 st6 => ⟨F6, e2, s5, st6, (sm.trans x3.sam).trans e6, hl⟩⟩
      · rename_i e2 s5 q5
        cases hl
        exact ⟨g, F3, env2, s3, .bk e2, _, st3, q5, fun σ6 H6 F6 e6 st6 => k σ6 H6 F6 ((sm.trans x3.sam).trans e6) st6⟩
      · rename_i d5 s5 q5
        cases hl
        exact ⟨g, F3, env2, s3, .rt d5, _, st3, q5, k⟩
      · cases hl
    · rename_i s3 q
      cases hl
      refine ⟨g, F2, env2, s2, false, _, st2, q, fun F3 H3 x3 b3 => ?_⟩
      refine iteF ?_
      exact k σ2 H3 F3 (sm.trans x3.sam) (st2.step x3 b3)
    · cases hl
end

def wipeE (env : Env) : List Nat → Env
  | [] => env
  | v :: vs => (wipeE env vs).set v none
theorem Stt.wipe {K : PySem.W.Frag} {g : Gd} {O : List Nat} {F H : Hp} {σ : L2.St} {env : Env} {s : Sto} (h : Stt K g O F H σ env s) : ∀ (vs : List Nat), (∀ i, i ∈ vs → i ∉ O) → Stt K g O F H (L2.wipe σ vs) (wipeE env vs) s
  | [], _ => h
  | v :: vs, e => by
    have ih := Stt.wipe h vs fun i hi => e i (List.mem_cons_of_mem _ hi)
    have hv := e v List.mem_cons_self
    refine ⟨ih.bs, ⟨?_, fun i d hi q => ?_, fun i hi => ?_, fun a b p ha hb qa qb => ?_⟩, ih.go⟩
    · show ((L2.wipe σ vs).set v none).length = ((wipeE env vs).set v none).length
      rw [List.length_set, List.length_set]; exact ih.sl.len
    · have q' : ((wipeE env vs).set v none)[i]? = some (some d) := q
      have c : v ≠ i := fun z => by
        subst z
        by_cases hl : v < (wipeE env vs).length
        · rw [List.getElem?_set_self hl] at q'; cases q'
        · rw [List.getElem?_eq_none (by rw [List.length_set]; omega)] at q'; cases q'
      rw [List.getElem?_set_ne c] at q'
      obtain ⟨u, e1, r⟩ := ih.sl.pu i d hi q'
      exact ⟨u, by show ((L2.wipe σ vs).set v none)[i]? = _; rw [List.getElem?_set_ne c]; exact e1, r⟩
    · have c : v ≠ i := fun z => hv (z ▸ hi)
      obtain ⟨p, o, d, e1, e2, r⟩ := ih.sl.ow i hi
      exact ⟨p, o, d, by show ((L2.wipe σ vs).set v none)[i]? = _; rw [List.getElem?_set_ne c]; exact e1, by show ((wipeE env vs).set v none)[i]? = _; rw [List.getElem?_set_ne c]; exact e2, r⟩
    · have ca : v ≠ a := fun z => hv (z ▸ ha)
      have cb : v ≠ b := fun z => hv (z ▸ hb)
      have qa' : ((L2.wipe σ vs).set v none)[a]? = some (some (.ref p)) := qa
      have qb' : ((L2.wipe σ vs).set v none)[b]? = some (some (.ref p)) := qb
      rw [List.getElem?_set_ne ca] at qa'
      rw [List.getElem?_set_ne cb] at qb'
      exact ih.sl.di a b p ha hb qa' qb'
theorem Stt.apart {K : PySem.W.Frag} {g : Gd} {O : List Nat} {F H : Hp} {σ : L2.St} {env : Env} {s : Sto} {D : Addr} {o : HO} (h : Stt K g O F H σ env s) (n : F D = none) (nf : D ∉ g.ft) (nh : g.he D = none) (no : ∀ j, j ∈ O → σ[j]? ≠ some (some (.ref D))) : Stt K g O F (upd H D o) σ env s := by
  refine ⟨⟨fun c u e => by rw [upd_ne (ne_of_none e n)]; exact h.bs.sub c u e, h.bs.ad, h.bs.nd, fun a d hm => ?_, h.bs.fr⟩, ⟨h.sl.len, h.sl.pu, fun j hj => ?_, h.sl.di⟩, ⟨fun c u e nc => by rw [upd_ne (ne_of_none e nh)]; exact h.go.ext c u e nc, h.go.sam, h.go.new⟩⟩
  · obtain ⟨ob, e, r⟩ := h.bs.st a d hm
    exact ⟨ob, by rw [upd_ne (fun (z : a = D) => nf (by rw [← z, ← h.bs.ad]; exact List.mem_map_of_mem hm))]; exact e, r⟩
  · obtain ⟨p, o', d, e1, e2, e3, r⟩ := h.sl.ow j hj
    exact ⟨p, o', d, e1, e2, by rw [upd_ne (fun (z : p = D) => no j hj (z ▸ e1))]; exact e3, r⟩
def yesT : Ft := fun _ s => some (true, s)
def lcL (st : Tg) (tt : Ft) (te : Fe) (w : Env) : List Dt → Sto → Option (List Dt × Sto)
  | [], s => some ([], s)
  | d :: ds, s => match st w d with
    | none => none
    | some e1 => match tt e1 s with
      | some (true, s1) => match te e1 s1 with
        | some (y, s2) => match lcL st tt te w ds s2 with
          | some (r, s3) => some (y :: r, s3)
          | none => none
        | none => none
      | some (false, s1) => lcL st tt te w ds s1
      | none => none
def lcF (fi : Fi) (st : Tg) (tt : Ft) (te : Fe) (vs : List Nat) : Fe := fun env s => match fi env s with
  | some (ds, s1) => match lcL st tt te (wipeE env vs) ds s1 with
    | some (ys, s2) => if ys.length ≤ sizeLine then some (.lst ys, s2) else none
    | none => none
  | none => none
theorem yes_t {K : PySem.W.Frag} {O : List Nat} (σ : L2.St) (H : Hp) (Q : Bool → Hp → Prop) (h : tT K O yesT σ H Q) : tYes σ H Q := by
  obtain ⟨g, F, env, s, b, s', st, hf, k⟩ := h
  cases hf
  exact k F H Go.refl st.bs
def Only (vs : List Nat) (st : Tg) : Prop := ∀ (env env' : Env) (d : Dt), st env d = some env' → wipeE env' vs = wipeE env vs
section
variable {K : PySem.W.Frag} {O : List Nat} {fi : Fi} {st : Tg} {tt : Ft} {te : Fe} {vs : List Nat}
theorem lc_n {gT : TG} {t1 : TT} (hv : ∀ i, i ∈ vs → i ∉ O) (hT : ∀ v σ H Q, tG K O st v σ H Q → gT v σ H Q) (hw : ∀ v σ H Q, gT v (L2.wipe σ vs) H Q → gT v (L2.wipe σ vs) H fun σ' H' => L2.wipe σ' vs = L2.wipe σ vs ∧ Q σ' H') (hY : ∀ σ H Q, tT K O tt σ H Q → t1 σ H Q)
    (σ : L2.St) (H : Hp) (Q : VK) (h : tN K O (lcF fi st tt te vs) σ H Q) : tLc (tI K O fi) gT t1 (tD K O te) vs σ H Q := by
  obtain ⟨g, F, env, s, d, s', stt, hf, k⟩ := h
  unfold lcF at hf
  split at hf
  · rename_i ds s1 q
    split at hf
    · rename_i ys s2 ql
      split at hf <;> cases hf
      rename_i hz
      refine ⟨g, F, env, s, ds, s1, stt, q, fun J F1 H1 x1 b1 wk D nD => ?_⟩
      have st1 := stt.step x1 b1
      have stw := Stt.wipe st1 vs hv
      have nF1 : F1 D = none := (Go.made (o := .lst []) b1 nD).2.2
      have nft : D ∉ g.ft := b1.nofree nD
      have nH : H D = none := x1.free b1 nD
      have nhe : g.he D = none := st1.go.free st1.bs nD
      have nO : ∀ j, j ∈ O → (L2.wipe σ vs)[j]? ≠ some (some (.ref D)) := fun j hj e => by
        obtain ⟨p, o, d', e1, _, e3, _⟩ := stw.sl.ow j hj
        rw [e] at e1; cases e1
        rw [nD] at e3; cases e3
      refine ⟨fun i m H2 => m = ds.length - i ∧ ∃ F2 s3 acc accD rest, Stt K g O F2 H2 (L2.wipe σ vs) (wipeE env vs) s3 ∧ Go g.ft F H F2 H2 ∧ Same F1 F2 ∧ F2 D = none ∧ H2 D = some (.lst acc) ∧ Reps K F2 acc accD ∧ lcL st tt te (wipeE env vs) (ds.drop i) s3 = some (rest, s') ∧ accD ++ rest = ys,
        ⟨_, rfl, F1, s1, [], [], ys, stw.apart nF1 nft nhe nO, ?_, Same.refl _, nF1, upd_same, .nil, ql, rfl⟩, ?_⟩
      · exact x1.trans ⟨fun c u e _ => by rw [upd_ne (ne_of_none e nD)]; exact e, Same.refl _, fun c u e => .inl e⟩ b1
      rintro i m H2 ⟨rfl, F2, s3, acc, accD, rest, st2, go2, sm2, n2, e2, r2, hl, ha⟩
      obtain ⟨w1, w2⟩ := wk F2 H2 s3 i sm2 st2.bs
      cases qd : ds[i]? with
      | none =>
        have hge : ds.length ≤ i := List.getElem?_eq_none_iff.mp qd
        rw [List.drop_eq_nil_of_le hge] at hl
        unfold lcL at hl
        cases hl
        rw [List.append_nil] at ha
        subst ha
        exact .inl ⟨w1 hge, k D _ F2 H2 go2 st2.bs nH n2 e2 (.lst r2)⟩
      | some d =>
        have hlt : i < ds.length := (List.getElem?_eq_some_iff.mp qd).1
        have ed : ds.drop i = d :: ds.drop (i + 1) := by
          rw [List.drop_eq_getElem_cons hlt]
          have := (List.getElem?_eq_some_iff.mp qd).2
          rw [this]
        rw [ed] at hl
        unfold lcL at hl
        obtain ⟨g1, g2⟩ := w2 d qd
        refine .inr ⟨g1, fun H3 => ∃ F3 s4 acc3 accD3 rest3, Stt K g O F3 H3 (L2.wipe σ vs) (wipeE env vs) s4 ∧ Go g.ft F H F3 H3 ∧ Same F1 F3 ∧ F3 D = none ∧ H3 D = some (.lst acc3) ∧ Reps K F3 acc3 accD3 ∧ lcL st tt te (wipeE env vs) (ds.drop (i + 1)) s4 = some (rest3, s') ∧ accD3 ++ rest3 = ys,
          fun H3 h3 => ⟨ds.length - (i + 1), by omega, rfl, h3⟩, fun x H3 y => ?_⟩
        obtain ⟨F3, x3, b3, r3⟩ := g2 x H3 y
        have st3 := st2.step x3 b3
        split at hl
        · cases hl
        · rename_i en q1
          refine hw _ _ _ _ (hT _ _ _ _ ⟨g, F3, wipeE env vs, s3, d, en, st3, r3, q1, fun σ4 st4 _ => ?_⟩)
          have n3 : F3 D = none := by
            cases z : F3 D with
            | none => rfl
            | some u =>
              rcases x3.new D u z with z1 | z1
              · rw [n2] at z1; cases z1
              · rw [e2] at z1; cases z1
          have e3 : H3 D = some (.lst acc) := x3.ext D _ e2 nft
          have go3 : Go g.ft F H F3 H3 := go2.trans x3 st2.bs
          split at hl
          · rename_i s5 q5
            refine hY _ _ _ ⟨g, F3, en, s3, true, s5, st4, q5, fun F5 H5 x5 b5 => ?_⟩
            refine iteT ?_
            split at hl
            · rename_i yv s6 q6
              split at hl
              · rename_i rr s7 q7
                cases hl
                refine ⟨g, F5, en, s5, yv, s6, st4.step x5 b5, q6, fun v F6 H6 x6 b6 r6 => ?_⟩
                have x56 := x5.trans x6 b5
                have e6 : H6 D = some (.lst acc) := x56.ext D _ e3 nft
                have n6 : F6 D = none := by
                  cases z : F6 D with
                  | none => rfl
                  | some u =>
                    rcases x56.new D u z with z1 | z1
                    · rw [n3] at z1; cases z1
                    · rw [e3] at z1; cases z1
                have st6 := st3.step x56 b6
                have nO6 : ∀ j, j ∈ O → (L2.wipe σ vs)[j]? ≠ some (some (.ref D)) := nO
                have lz : acc.length < sizeLine := by
                  rw [r2.length]
                  have : (accD ++ yv :: rr).length ≤ sizeLine := by rw [ha]; exact hz
                  rw [List.length_append, List.length_cons] at this
                  omega
                refine ⟨acc, e6, lz, F6, s6, acc ++ [v], accD ++ [yv], rr, st6.apart n6 nft nhe nO6, ?_, (sm2.trans x3.sam).trans x56.sam, n6, upd_same, ?_, q7, by rw [← ha, List.append_assoc]; rfl⟩
                · have go6 : Go g.ft F H F6 H6 := go3.trans x56 st3.bs
                  exact ⟨fun c u e nc => by rw [upd_ne (ne_of_none e nH)]; exact go6.ext c u e nc, go6.sam, go6.new⟩
                · exact (Reps.mono (x3.sam.trans x56.sam) _ _ r2).snoc r6
              · cases hl
            · cases hl
          · rename_i s5 q5
            refine hY _ _ _ ⟨g, F3, en, s3, false, s5, st4, q5, fun F5 H5 x5 b5 => ?_⟩
            refine iteF ?_
            have e5 : H5 D = some (.lst acc) := x5.ext D _ e3 nft
            have n5 : F5 D = none := by
              cases z : F5 D with
              | none => rfl
              | some u =>
                rcases x5.new D u z with z1 | z1
                · rw [n3] at z1; cases z1
                · rw [e3] at z1; cases z1
            exact ⟨F5, s5, acc, accD, rest, st3.step x5 b5, go3.trans x5 st3.bs, (sm2.trans x3.sam).trans x5.sam, n5, e5, Reps.mono (x3.sam.trans x5.sam) _ _ r2, hl, ha⟩
          · cases hl
    · cases hf
  · cases hf
end
theorem wipe_get (σ : L2.St) (k : Nat) : ∀ vs : List Nat, (L2.wipe σ vs)[k]? = if k ∈ vs then (if k < σ.length then some none else none) else σ[k]?
  | [] => by simp [L2.wipe]
  | v :: vs => by
    show ((L2.wipe σ vs).set v none)[k]? = _
    by_cases c : v = k
    · subst c
      rw [if_pos List.mem_cons_self]
      by_cases hl : v < σ.length
      · rw [if_pos hl, List.getElem?_set_self (by rw [wipe_length]; exact hl)]
      · rw [if_neg hl, List.getElem?_eq_none (by rw [List.length_set, wipe_length]; omega)]
    · rw [List.getElem?_set_ne c, wipe_get σ k vs]
      have : k ∈ v :: vs ↔ k ∈ vs := by simp [Ne.symm c]
      simp only [this]
theorem wipe_set (σ : L2.St) {i : Nat} {vs : List Nat} (x : Option V) (h : i ∈ vs) {τ : L2.St} (e : L2.wipe τ vs = L2.wipe σ vs) : L2.wipe (τ.set i x) vs = L2.wipe σ vs := by
  rw [← e]
  refine List.ext_getElem? fun k => ?_
  rw [wipe_get, wipe_get, List.length_set]
  split
  · rfl
  · rename_i c
    rw [List.getElem?_set_ne (fun (z : i = k) => c (z ▸ h))]
theorem wipe_wipe (σ : L2.St) (vs : List Nat) : L2.wipe (L2.wipe σ vs) vs = L2.wipe σ vs := by
  refine List.ext_getElem? fun k => ?_
  rw [wipe_get, wipe_get, wipe_length]
  split <;> rfl
section
variable {X : Cx} {O : List Nat} {elt tg iter kx vx c : Expr} {ifs : List Expr} {scope : Scope} {own : List (Str × Nat)} {pos : Pos} {fi : Fi} {tt : Ft} {te tk : Fe}
theorem ts_nil : PTs X [] (tT X.K O yesT) := ⟨fun pins s σ H Q I h => pts_nil.run pins s σ H Q I (yes_t σ H Q h)⟩
theorem ts_one (h : PT X c (tT X.K O tt)) : PTs X [c] (tT X.K O tt) := pts_one h
theorem nameT {K : PySem.W.Frag} {i : Nat} (hi : i ∉ O) (v : V) (σ : L2.St) (H : Hp) (Q : L2.St → Hp → Prop) (h : tG K O (tgN i) v σ H Q) : gName i v σ H Q := by
  obtain ⟨g, F, env, s, d, env', st, r, hs, k⟩ := h
  cases hs
  exact k _ (st.setD r (fun j hj => ⟨hj, fun z => hi (z ▸ hj)⟩) fun j hj _ => hj) fun j hj => List.getElem?_set_ne fun (z : i = j) => hi (z ▸ hj)
theorem n_lc {i : Nat} (hc : X.calm = true) (hN : X.N.Nodup) (hi : PI X tg iter (tI X.K O fi)) (ok : BlkOk X.N X.env.scope scope own)
    (hg : ∀ (s : Shared) (H : Hp) (C : Addr) (cl : List (Str × Addr)) (fp : List Addr), PG (X.blk s H scope (compEnvC scope cl C X.env) fp) tg (gName i))
    (ht : ∀ (s : Shared) (H : Hp) (C : Addr) (cl : List (Str × Addr)) (fp : List Addr), PTs (X.blk s H scope (compEnvC scope cl C X.env) fp) ifs (tT X.K O tt))
    (he : ∀ (s : Shared) (H : Hp) (C : Addr) (cl : List (Str × Addr)) (fp : List Addr), PE (X.blk s H scope (compEnvC scope cl C X.env) fp) elt (tD X.K O te))
    (hv : ∀ j, j ∈ own.map (·.2) → j ∉ O := by decide) (hm : i ∈ own.map (·.2) := by decide) (hs : ∀ x, foldedSetIterable iter X.env x = pure x := by intro _; rfl) :
    PE X (.ListComp elt [⟨tg, iter, ifs, 0⟩] scope pos) (tN X.K O (lcF fi (tgN i) tt te (own.map (·.2)))) :=
  pe_imp (pe_lc hc hN hi ok hg ht he hs) (lc_n hv (nameT (hv i hm)) (fun v σ H Q h => ⟨wipe_set _ _ hm (wipe_wipe _ _), h⟩) fun _ _ _ h => h)
theorem pairT {K : PySem.W.Frag} {i j : Nat} (hi : i ∉ O) (hj : j ∉ O) (v : V) (σ : L2.St) (H : Hp) (Q : L2.St → Hp → Prop) (h : tG K O (tgP (tgN i) (tgN j)) v σ H Q) : gTup K 2 (gCons (gName i) (gCons (gName j) gNil)) v σ H Q := by
  obtain ⟨g, F, env, s, d, env', st, r, hs, k⟩ := h
  unfold tgP at hs
  split at hs
  · rename_i x y
    cases r with
    | tup h1 hp h2 =>
      cases h2 with
      | cons r1 t1 =>
        cases t1 with
        | cons r2 t2 =>
          cases t2
          simp [tgN] at hs
          subst hs
          have st1 := st.setD (O' := O) (i := i) r1 (fun a ha => ⟨ha, fun (z : a = i) => hi (z ▸ ha)⟩) fun a ha _ => ha
          have st2 := st1.setD (O' := O) (i := j) r2 (fun a ha => ⟨ha, fun (z : a = j) => hj (z ▸ ha)⟩) fun a ha _ => ha
          exact ⟨_, _, rfl, sqT_same st.bs.sub h1, rfl, _, _, rfl, _, _, rfl, rfl, k _ st2 fun a ha => (List.getElem?_set_ne fun (z : j = a) => hj (z ▸ ha)).trans (List.getElem?_set_ne fun (z : i = a) => hi (z ▸ ha))⟩
  · cases hs
theorem n_lcP {i j : Nat} (hc : X.calm = true) (hN : X.N.Nodup) (hi : PI X tg iter (tI X.K O fi)) (ok : BlkOk X.N X.env.scope scope own)
    (hg : ∀ (s : Shared) (H : Hp) (C : Addr) (cl : List (Str × Addr)) (fp : List Addr), PG (X.blk s H scope (compEnvC scope cl C X.env) fp) tg (gTup X.K 2 (gCons (gName i) (gCons (gName j) gNil))))
    (ht : ∀ (s : Shared) (H : Hp) (C : Addr) (cl : List (Str × Addr)) (fp : List Addr), PTs (X.blk s H scope (compEnvC scope cl C X.env) fp) ifs (tT X.K O tt))
    (he : ∀ (s : Shared) (H : Hp) (C : Addr) (cl : List (Str × Addr)) (fp : List Addr), PE (X.blk s H scope (compEnvC scope cl C X.env) fp) elt (tD X.K O te))
    (hv : ∀ j, j ∈ own.map (·.2) → j ∉ O := by decide) (hm : i ∈ own.map (·.2) := by decide) (hm2 : j ∈ own.map (·.2) := by decide) (hs : ∀ x, foldedSetIterable iter X.env x = pure x := by intro _; rfl) :
    PE X (.ListComp elt [⟨tg, iter, ifs, 0⟩] scope pos) (tN X.K O (lcF fi (tgP (tgN i) (tgN j)) tt te (own.map (·.2)))) :=
  pe_imp (pe_lc hc hN hi ok hg ht he hs) (lc_n hv (pairT (hv i hm) (hv j hm2)) (fun v σ H Q ⟨a, xs, e1, e2, e3, v1, r1, e4, v2, r2, e5, e6, q⟩ => ⟨a, xs, e1, e2, e3, v1, r1, e4, v2, r2, e5, e6, wipe_set _ _ hm2 (wipe_set _ _ hm (wipe_wipe _ _)), q⟩) fun _ _ _ h => h)
end
end DL

namespace DL
open PySem PySem.Spec PyProof.Rows L2

def lc2I (st : Tg) (tt : Ft) (te : Fe) (e : Env) : List Dt → Sto → Option (List Dt × Sto)
  | [], s => some ([], s)
  | d :: ds, s => match st e d with
    | none => none
    | some e1 => match tt e1 s with
      | some (true, s1) => match te e1 s1 with
        | some (y, s2) => match lc2I st tt te e ds s2 with
          | some (r, s3) => some (y :: r, s3)
          | none => none
        | none => none
      | some (false, s1) => lc2I st tt te e ds s1
      | none => none
def lc2L (st : Tg) (fi1 : Fi) (st1 : Tg) (tt1 : Ft) (te : Fe) (vs1 : List Nat) (w : Env) : List Dt → Sto → Option (List Dt × Sto)
  | [], s => some ([], s)
  | d :: ds, s => match st w d with
    | none => none
    | some e1 => match fi1 e1 s with
      | some (ds1, s1) => match lc2I st1 tt1 te (wipeE e1 vs1) ds1 s1 with
        | some (ys, s2) => match lc2L st fi1 st1 tt1 te vs1 w ds s2 with
          | some (r, s3) => some (ys ++ r, s3)
          | none => none
        | none => none
      | none => none
def lc2F (fi : Fi) (st : Tg) (fi1 : Fi) (st1 : Tg) (tt1 : Ft) (te : Fe) (vs vs1 : List Nat) : Fe := fun env s => match fi env s with
  | some (ds, s1) => match lc2L st fi1 st1 tt1 te vs1 (wipeE env vs) ds s1 with
    | some (ys, s2) => if ys.length ≤ sizeLine then some (.lst ys, s2) else none
    | none => none
  | none => none
section
variable {K : PySem.W.Frag} {O : List Nat} {fi fi1 : Fi} {st st1 : Tg} {tt1 : Ft} {te : Fe} {vs vs1 : List Nat}
theorem keepsD {ft : List Addr} {F H F' H' : Hp} {D : Addr} {o : HO} (x : Go ft F H F' H') (n : F D = none) (e : H D = some o) : F' D = none := by
  cases z : F' D with
  | none => rfl
  | some u =>
    rcases x.new D u z with z1 | z1
    · rw [n] at z1; cases z1
    · rw [e] at z1; cases z1
theorem lc2_n {gT gT1 : TG} (hv : ∀ i, i ∈ vs → i ∉ O) (hv1 : ∀ i, i ∈ vs1 → i ∈ vs) (hT : ∀ v σ H Q, tG K O st v σ H Q → gT v σ H Q) (hw : ∀ v σ H Q, gT v (L2.wipe σ vs) H Q → gT v (L2.wipe σ vs) H fun σ' H' => L2.wipe σ' vs = L2.wipe σ vs ∧ Q σ' H')
    (hT1 : ∀ v σ H Q, tG K O st1 v σ H Q → gT1 v σ H Q) (hw1 : ∀ v σ H Q, gT1 v (L2.wipe σ vs1) H Q → gT1 v (L2.wipe σ vs1) H fun σ' H' => L2.wipe σ' vs1 = L2.wipe σ vs1 ∧ Q σ' H')
    (σ : L2.St) (H : Hp) (Q : VK) (h : tN K O (lc2F fi st fi1 st1 tt1 te vs vs1) σ H Q) : tLc2 (tI K O fi) gT tYes (tI K O fi1) gT1 (tT K O tt1) (tD K O te) vs vs1 σ H Q := by
  obtain ⟨g, F, env, s, d, s', stt, hf, k⟩ := h
  unfold lc2F at hf
  split at hf
  · rename_i ds s1 q
    split at hf
    · rename_i ys s2 ql
      split at hf <;> cases hf
      rename_i hz
      refine ⟨g, F, env, s, ds, s1, stt, q, fun J F1 H1 x1 b1 wk D nD => ?_⟩
      have st0 := stt.step x1 b1
      have stw := Stt.wipe st0 vs hv
      have nF1 : F1 D = none := (Go.made (o := .lst []) b1 nD).2.2
      have nft : D ∉ g.ft := b1.nofree nD
      have nH : H D = none := x1.free b1 nD
      have nhe : g.he D = none := st0.go.free st0.bs nD
      have nO0 : ∀ j, j ∈ O → σ[j]? ≠ some (some (.ref D)) := fun j hj e => by
        obtain ⟨p, o, d', e1, _, e3, _⟩ := st0.sl.ow j hj
        rw [e] at e1; cases e1
        rw [nD] at e3; cases e3
      have nO : ∀ j, j ∈ O → (L2.wipe σ vs)[j]? ≠ some (some (.ref D)) := fun j hj e => by
        rw [wipe_get, if_neg (fun z => hv j z hj)] at e
        exact nO0 j hj e
      refine ⟨fun i m H2 => m = ds.length - i ∧ ∃ F2 s3 acc accD rest, Stt K g O F2 H2 (L2.wipe σ vs) (wipeE env vs) s3 ∧ Go g.ft F H F2 H2 ∧ Same F1 F2 ∧ F2 D = none ∧ H2 D = some (.lst acc) ∧ Reps K F2 acc accD ∧ lc2L st fi1 st1 tt1 te vs1 (wipeE env vs) (ds.drop i) s3 = some (rest, s') ∧ accD ++ rest = ys,
        ⟨_, rfl, F1, s1, [], [], ys, stw.apart nF1 nft nhe nO, ?_, Same.refl _, nF1, upd_same, .nil, ql, rfl⟩, ?_⟩
      · exact x1.trans ⟨fun c u e _ => by rw [upd_ne (ne_of_none e nD)]; exact e, Same.refl _, fun c u e => .inl e⟩ b1
      rintro i m H2 ⟨rfl, F2, s3, acc, accD, rest, st2, go2, sm2, n2, e2, r2, hl, ha⟩
      obtain ⟨w1, w2⟩ := wk F2 H2 s3 i sm2 st2.bs
      cases qd : ds[i]? with
      | none =>
        have hge : ds.length ≤ i := List.getElem?_eq_none_iff.mp qd
        rw [List.drop_eq_nil_of_le hge] at hl
        unfold lc2L at hl
        cases hl
        rw [List.append_nil] at ha
        subst ha
        exact .inl ⟨w1 hge, k D _ F2 H2 go2 st2.bs nH n2 e2 (.lst r2)⟩
      | some d =>
        have hlt : i < ds.length := (List.getElem?_eq_some_iff.mp qd).1
        have ed : ds.drop i = d :: ds.drop (i + 1) := by
          rw [List.drop_eq_getElem_cons hlt]
          have := (List.getElem?_eq_some_iff.mp qd).2
          rw [this]
        rw [ed] at hl
        unfold lc2L at hl
        obtain ⟨g1, g2⟩ := w2 d qd
        refine .inr ⟨g1, fun H3 => ∃ F3 s4 acc3 accD3 rest3, Stt K g O F3 H3 (L2.wipe σ vs) (wipeE env vs) s4 ∧ Go g.ft F H F3 H3 ∧ Same F1 F3 ∧ F3 D = none ∧ H3 D = some (.lst acc3) ∧ Reps K F3 acc3 accD3 ∧ lc2L st fi1 st1 tt1 te vs1 (wipeE env vs) (ds.drop (i + 1)) s4 = some (rest3, s') ∧ accD3 ++ rest3 = ys,
          fun H3 h3 => ⟨ds.length - (i + 1), by omega, rfl, h3⟩, fun x H3 y => ?_⟩
        obtain ⟨F3, x3, b3, r3⟩ := g2 x H3 y
        have st3 := st2.step x3 b3
        split at hl
        · cases hl
        · rename_i en q1
          refine hw _ _ _ _ (hT _ _ _ _ ⟨g, F3, wipeE env vs, s3, d, en, st3, r3, q1, fun σ4 st4 eo4 => ?_⟩)
          refine yes_t _ _ _ ⟨g, F3, en, s3, true, s3, st4, rfl, fun F4 H4 x4 b4 => ?_⟩
          refine iteT ?_
          have n3 : F3 D = none := keepsD x3 n2 e2
          have e3 : H3 D = some (.lst acc) := x3.ext D _ e2 nft
          have go3 : Go g.ft F H F3 H3 := go2.trans x3 st2.bs
          have st4' := st4.step x4 b4
          have st3' := st3.step x4 b4
          have n4 : F4 D = none := keepsD x4 n3 e3
          have e4 : H4 D = some (.lst acc) := x4.ext D _ e3 nft
          have go4 : Go g.ft F H F4 H4 := go3.trans x4 st3.bs
          split at hl
          · rename_i ds1 s5 q5
            split at hl
            · rename_i yi s6 q6
              split at hl
              · rename_i rr s7 q7
                cases hl
                refine ⟨g, F4, en, s3, ds1, s5, st4', q5, fun J1 F5 H5 x5 b5 wk1 => ?_⟩
                have hv1' : ∀ i, i ∈ vs1 → i ∉ O := fun i hi => hv i (hv1 i hi)
                have stw1 := Stt.wipe (st4'.step x5 b5) vs1 hv1'
                have stz := st3'.step x5 b5
                have e5 : H5 D = some (.lst acc) := x5.ext D _ e4 nft
                have n5 : F5 D = none := keepsD x5 n4 e4
                have go5 : Go g.ft F H F5 H5 := go4.trans x5 st3'.bs
                have nO4 : ∀ j, j ∈ O → (L2.wipe σ4 vs1)[j]? ≠ some (some (.ref D)) := fun j hj e => by
                  rw [wipe_get, if_neg (fun z => hv1' j z hj), eo4 j hj] at e
                  exact nO j hj e
                refine ⟨fun a b H6 => b = ds1.length - a ∧ ∃ F6 s8 acc6 accD6 rest6, Stt K g O F6 H6 (L2.wipe σ4 vs1) (wipeE en vs1) s8 ∧ Stt K g O F6 H6 (L2.wipe σ vs) (wipeE env vs) s8 ∧ Go g.ft F H F6 H6 ∧ Same F5 F6 ∧ F6 D = none ∧ H6 D = some (.lst acc6) ∧ Reps K F6 acc6 accD6 ∧
                    lc2I st1 tt1 te (wipeE en vs1) (ds1.drop a) s8 = some (rest6, s6) ∧ accD6 ++ rest6 = accD ++ yi, ⟨_, rfl, F5, s5, acc, accD, yi, stw1, stz, go5, Same.refl _, n5, e5, Reps.mono ((x3.sam.trans x4.sam).trans x5.sam) _ _ r2, q6, rfl⟩, ?_⟩
                rintro a b H6 ⟨rfl, F6, s8, acc6, accD6, rest6, st6, sz6, go6, sm6, n6, e6, r6, hl6, ha6⟩
                obtain ⟨w3, w4⟩ := wk1 F6 H6 s8 a sm6 st6.bs
                cases qe : ds1[a]? with
                | none =>
                  have hge : ds1.length ≤ a := List.getElem?_eq_none_iff.mp qe
                  rw [List.drop_eq_nil_of_le hge] at hl6
                  unfold lc2I at hl6
                  cases hl6
                  rw [List.append_nil] at ha6
                  subst ha6
                  exact .inl ⟨w3 hge, F6, s6, acc6, _, rr, sz6, go6, ((sm2.trans x3.sam).trans (x4.sam.trans x5.sam)).trans sm6, n6, e6, r6, q7, by rw [List.append_assoc]; exact ha⟩
                | some d1 =>
                  have hlt1 : a < ds1.length := (List.getElem?_eq_some_iff.mp qe).1
                  have ed1 : ds1.drop a = d1 :: ds1.drop (a + 1) := by
                    rw [List.drop_eq_getElem_cons hlt1]
                    have := (List.getElem?_eq_some_iff.mp qe).2
                    rw [this]
                  rw [ed1] at hl6
                  unfold lc2I at hl6
                  obtain ⟨g3, g4⟩ := w4 d1 qe
                  refine .inr ⟨g3, fun H7 => ∃ F7 s9 acc7 accD7 rest7, Stt K g O F7 H7 (L2.wipe σ4 vs1) (wipeE en vs1) s9 ∧ Stt K g O F7 H7 (L2.wipe σ vs) (wipeE env vs) s9 ∧ Go g.ft F H F7 H7 ∧ Same F5 F7 ∧ F7 D = none ∧ H7 D = some (.lst acc7) ∧ Reps K F7 acc7 accD7 ∧
                    lc2I st1 tt1 te (wipeE en vs1) (ds1.drop (a + 1)) s9 = some (rest7, s6) ∧ accD7 ++ rest7 = accD ++ yi, fun H7 h7 => ⟨ds1.length - (a + 1), by omega, rfl, h7⟩, fun x7 H7 y7 => ?_⟩
                  obtain ⟨F7, x7', b7, r7⟩ := g4 x7 H7 y7
                  have st7 := st6.step x7' b7
                  have sz7 := sz6.step x7' b7
                  have n7 : F7 D = none := keepsD x7' n6 e6
                  have e7 : H7 D = some (.lst acc6) := x7'.ext D _ e6 nft
                  have go7 : Go g.ft F H F7 H7 := go6.trans x7' st6.bs
                  split at hl6
                  · cases hl6
                  · rename_i en1 q8
                    refine hw1 _ _ _ _ (hT1 _ _ _ _ ⟨g, F7, wipeE en vs1, s8, d1, en1, st7, r7, q8, fun σ8 st8 _ => ?_⟩)
                    split at hl6
                    · rename_i s10 q10
                      refine ⟨g, F7, en1, s8, true, s10, st8, q10, fun F9 H9 x9 b9 => ?_⟩
                      refine iteT ?_
                      split at hl6
                      · rename_i yv s11 q11
                        split at hl6
                        · rename_i r12 s12 q12
                          cases hl6
                          refine ⟨g, F9, en1, s10, yv, s11, st8.step x9 b9, q11, fun v F10 H10 x10 b10 r10 => ?_⟩
                          have x910 := x9.trans x10 b9
                          have e10 : H10 D = some (.lst acc6) := x910.ext D _ e7 nft
                          have n10 : F10 D = none := keepsD x910 n7 e7
                          have lz : acc6.length < sizeLine := by
                            rw [r6.length]
                            have z1 : (accD6 ++ yv :: r12).length ≤ sizeLine := by
                              rw [ha6]
                              have z2 : (accD ++ (yi ++ rr)).length ≤ sizeLine := by rw [ha]; exact hz
                              rw [List.length_append, List.length_append] at z2
                              rw [List.length_append]
                              omega
                            rw [List.length_append, List.length_cons] at z1
                            omega
                          refine ⟨acc6, e10, lz, F10, s11, acc6 ++ [v], accD6 ++ [yv], r12, (st7.step x910 b10).apart n10 nft nhe nO4, (sz7.step x910 b10).apart n10 nft nhe nO, ?_, (sm6.trans x7'.sam).trans x910.sam, n10, upd_same, ?_, q12, by rw [← ha6, List.append_assoc]; rfl⟩
                          · have go10 : Go g.ft F H F10 H10 := go7.trans x910 st7.bs
                            exact ⟨fun c u e nc => by rw [upd_ne (ne_of_none e nH)]; exact go10.ext c u e nc, go10.sam, go10.new⟩
                          · exact (Reps.mono (x7'.sam.trans x910.sam) _ _ r6).snoc r10
                        · cases hl6
                      · cases hl6
                    · rename_i s10 q10
                      refine ⟨g, F7, en1, s8, false, s10, st8, q10, fun F9 H9 x9 b9 => ?_⟩
                      refine iteF ?_
                      exact ⟨F9, s10, acc6, accD6, rest6, st7.step x9 b9, sz7.step x9 b9, go7.trans x9 st7.bs, (sm6.trans x7'.sam).trans x9.sam, keepsD x9 n7 e7, x9.ext D _ e7 nft, Reps.mono (x7'.sam.trans x9.sam) _ _ r6, hl6, ha6⟩
                    · cases hl6
              · cases hl
            · cases hl
          · cases hl
    · cases hf
  · cases hf
end
end DL

namespace DL
open PySem PySem.Spec PyProof.Rows L2

section
variable {X : Cx} {O : List Nat} {elt tg iter tg1 iter1 : Expr} {ifs1 : List Expr} {scope : Scope} {own : List (Str × Nat)} {pos : Pos} {fi fi1 : Fi} {tt1 : Ft} {te : Fe}
theorem n_lc2 {i i1 : Nat} (hc : X.calm = true) (hN : X.N.Nodup) (hi : PI X tg iter (tI X.K O fi)) (ok : BlkOk X.N X.env.scope scope own)
    (hg : ∀ (s : Shared) (H : Hp) (C : Addr) (cl : List (Str × Addr)) (fp : List Addr), PG (X.blk s H scope (compEnvC scope cl C X.env) fp) tg (gName i))
    (hi1 : ∀ (s : Shared) (H : Hp) (C : Addr) (cl : List (Str × Addr)) (fp : List Addr), PI (X.blk s H scope (compEnvC scope cl C X.env) fp) tg1 iter1 (tI X.K O fi1))
    (hg1 : ∀ (s : Shared) (H : Hp) (C : Addr) (cl : List (Str × Addr)) (fp : List Addr), PG (X.blk s H scope (compEnvC scope cl C X.env) fp) tg1 (gName i1))
    (ht1 : ∀ (s : Shared) (H : Hp) (C : Addr) (cl : List (Str × Addr)) (fp : List Addr), PTs (X.blk s H scope (compEnvC scope cl C X.env) fp) ifs1 (tT X.K O tt1))
    (he : ∀ (s : Shared) (H : Hp) (C : Addr) (cl : List (Str × Addr)) (fp : List Addr), PE (X.blk s H scope (compEnvC scope cl C X.env) fp) elt (tD X.K O te))
    (hv : ∀ j, j ∈ own.map (·.2) → j ∉ O := by decide) (hm : i ∈ own.map (·.2) := by decide) (hm1 : i1 ∈ own.map (·.2) := by decide)
    (hs : ∀ x, foldedSetIterable iter X.env x = pure x := by intro _; rfl) (hs1 : ∀ env x, foldedSetIterable iter1 env x = pure x := by intro _ _; rfl) :
    PE X (.ListComp elt [⟨tg, iter, [], 0⟩, ⟨tg1, iter1, ifs1, 0⟩] scope pos) (tN X.K O (lc2F fi (tgN i) fi1 (tgN i1) tt1 te (own.map (·.2)) [i1])) :=
  pe_imp (pe_lc2 (vs1 := [i1]) hc hN hi ok (fun j hj => by rw [List.mem_singleton.mp hj]; exact hm1) hg (fun _ _ _ _ _ => pts_nil) hi1 hg1 ht1 he hs hs1)
    (lc2_n hv (fun j hj => by rw [List.mem_singleton.mp hj]; exact hm1) (nameT (hv i hm)) (fun v σ H Q h => ⟨wipe_set _ _ hm (wipe_wipe _ _), h⟩) (nameT (hv i1 hm1)) (fun v σ H Q h => ⟨wipe_set _ _ List.mem_cons_self (wipe_wipe _ _), h⟩))
end

def lstAt (env : Env) (i : Nat) : Option (List Dt) := match env[i]? with
  | some (some (.lst ds)) => some ds
  | _ => none
def dctAt (env : Env) (i : Nat) : Option (List (Key × Dt)) := match env[i]? with
  | some (some (.dct ds)) => some ds
  | _ => none
theorem lstAt_some {env : Env} {i : Nat} {ds : List Dt} (h : lstAt env i = some ds) : env[i]? = some (some (.lst ds)) := by
  unfold lstAt at h
  split at h
  · rename_i q; cases h; exact q
  · cases h
theorem dctAt_some {env : Env} {i : Nat} {ds : List (Key × Dt)} (h : dctAt env i = some ds) : env[i]? = some (some (.dct ds)) := by
  unfold dctAt at h
  split at h
  · rename_i q; cases h; exact q
  · cases h
def appS (i : Nat) (f : Fe) : Fs := fun env s => match f env s, lstAt env i with
  | some (d, s'), some ds => if ds.length < sizeLine then some (.nx (env.set i (some (.lst (ds ++ [d])))), s') else none
  | _, _ => none
def extS (i : Nat) (f : Fe) : Fs := fun env s => match f env s, lstAt env i with
  | some (.lst es, s'), some ds => if ds.length + es.length ≤ sizeLine then some (.nx (env.set i (some (.lst (ds ++ es)))), s') else none
  | _, _ => none
def popS (i j : Nat) : Fs := fun env s => match lstAt env i with
  | some ds => match ds[ds.length - 1]? with
    | some d => some (.nx ((env.set i (some (.lst ds.dropLast))).set j (some d)), s)
    | none => none
  | none => none
def dputS (i : Nat) (fk fv : Fe) : Fs := fun env s => match fv env s with
  | some (v, s1) => match fk env s1, dctAt env i with
    | some (k, s2), some ks => match keyOf k with
      | some key => if ks.length < sizeLine then some (.nx (env.set i (some (.dct (putD ks key v)))), s2) else none
      | none => none
    | _, _ => none
  | none => none
def hputS (i : Nat) (fk fv : Fe) : Fs := fun env s => match fv env s with
  | some (v, s1) => match fk env s1, env[i]? with
    | some (k, s2), some (some (.ref a)) => match keyOf k, s2.lookup a with
      | some key, some (.dct ks) => if ks.length < sizeLine then some (.nx env, s2.map fun q => if q.1 = a then (a, .dct (putD ks key v)) else q) else none
      | _, _ => none
    | _, _ => none
  | none => none
section
variable {X : Cx} {L O : List Nat} {call e : Expr} {i j : Nat} {f fk fv : Fe} {pos : Pos}
theorem s_app (h : PE X call (tBM X.K "list" rAppend (tVar i) (tCons (tD X.K O f) tNil))) (hi : i ∈ O := by decide) (hs : swapsWith call none pos.line X.env = pure false := by rfl) : PS X (.Expr call pos) (tS X.K L O O (appS i f)) := ps_imp (ps_expr h hs) fun D σ H ⟨g, F, env, s, out, s', st, hf, k⟩ => by
  unfold appS at hf
  split at hf
  · rename_i d s1 ds q1 q2
    split at hf <;> cases hf
    rename_i hl
    obtain ⟨p, o, d0, e1, e2, e3, r, n, nf, nh⟩ := st.sl.ow i hi
    rw [lstAt_some q2] at e2
    cases e2
    cases r with
    | lst r =>
      rename_i vs
      refine ⟨.ref p, e1, .inl ⟨rfl, vs, SqL.of e3⟩, g, F, env, s, d, _, st, q1, fun v F1 H1 x1 b1 r1 => ?_⟩
      have st1 := st.step x1 b1
      have e4 : H1 p = some (.lst vs) := x1.ext p _ e3 nf
      refine ⟨p, vs, v, rfl, rfl, e4, by rw [r.length]; exact hl, ?_⟩
      exact k σ _ F1 x1.sam (st1.change hi e1 e4 (.lst ((Reps.mono x1.sam _ _ r).snoc r1)))
  · cases hf
theorem s_ext (h : PE X call (tBM X.K "list" rExtend (tVar i) (tCons (tB X.K O f) tNil))) (hi : i ∈ O := by decide) (hs : swapsWith call none pos.line X.env = pure false := by rfl) : PS X (.Expr call pos) (tS X.K L O O (extS i f)) := ps_imp (ps_expr h hs) fun D σ H ⟨g, F, env, s, out, s', st, hf, k⟩ => by
  unfold extS at hf
  split at hf
  · rename_i es s1 ds q1 q2
    split at hf <;> cases hf
    rename_i hl
    obtain ⟨p, o, d0, e1, e2, e3, r, n, nf, nh⟩ := st.sl.ow i hi
    rw [lstAt_some q2] at e2
    cases e2
    cases r with
    | lst r =>
      rename_i vs
      refine ⟨.ref p, e1, .inl ⟨rfl, vs, SqL.of e3⟩, g, F, env, s, _, _, st, q1, fun v F1 H1 x1 b1 r1 => ?_⟩
      have st1 := st.step x1 b1
      have e4 : H1 p = some (.lst vs) := x1.ext p _ e3 nf
      obtain ⟨a, us, rfl, e5, r5⟩ := r1.lst b1
      refine ⟨p, a, vs, us, rfl, rfl, e4, e5, by rw [r.length, r5.length]; exact hl, ?_⟩
      exact k σ _ F1 x1.sam (st1.change hi e1 e4 (.lst ((Reps.mono x1.sam _ _ r).append r5)))
  · cases hf
theorem s_pop {O' : List Nat} {x : Str} {pos' : Pos} (h : PS X (.Assign [.Name x pos'] e pos) (tAsg (tBM0 X.K "list" rPop (tVar i)) (gName j))) (hi : i ∈ O := by decide) (hj : j ≠ i := by decide)
    (h1 : ∀ a, a ∈ O' → a ∈ O ∧ a ≠ j := by decide) (h2 : ∀ a, a ∈ O → a ≠ j → a ∈ O' := by decide) : PS X (.Assign [.Name x pos'] e pos) (tS X.K L O O' (popS i j)) := ps_imp h fun D σ H ⟨g, F, env, s, out, s', st, hf, k⟩ => by
  unfold popS at hf
  split at hf
  · rename_i ds q2
    split at hf
    · rename_i d q3
      cases hf
      obtain ⟨p, o, d0, e1, e2, e3, r, n, nf, nh⟩ := st.sl.ow i hi
      rw [lstAt_some q2] at e2
      cases e2
      cases r with
      | lst r =>
        rename_i vs
        obtain ⟨v, e5, r5⟩ := r.get q3
        refine ⟨.ref p, e1, .inl ⟨rfl, vs, SqL.of e3⟩, p, vs, v, rfl, rfl, e3, by rw [r.length]; exact e5, ?_⟩
        have rd : Reps X.K F vs.dropLast ds.dropLast := by
          rw [List.dropLast_eq_take, List.dropLast_eq_take, r.length]
          exact r.take _
        exact k _ _ F (Same.refl _) ((st.change hi e1 e3 (.lst rd)).setD r5 h1 h2)
    · cases hf
  · cases hf
theorem s_dput {o : Expr} {ix : Expr} {pos' : Pos} (h : PS X (.Assign [.Subscript o ix pos'] e pos) (sDPut (tVar i) (tB X.K O fk) (tD X.K O fv))) (hi : i ∈ O := by decide) : PS X (.Assign [.Subscript o ix pos'] e pos) (tS X.K L O O (dputS i fk fv)) := ps_imp h fun D σ H ⟨g, F, env, s, out, s', st, hf, k⟩ => by
  unfold dputS at hf
  split at hf
  · rename_i v s1 q1
    split at hf
    · rename_i kd s2 ks q2 q3
      split at hf
      · rename_i key q4
        split at hf <;> cases hf
        rename_i hl
        refine ⟨g, F, env, s, v, s1, st, q1, fun u F1 H1 x1 b1 r1 => ?_⟩
        have st1 := st.step x1 b1
        obtain ⟨p, o, d0, e1, e2, e3, r, n, nf, nh⟩ := st1.sl.ow i hi
        rw [dctAt_some q3] at e2
        cases e2
        cases r with
        | dct r =>
          rename_i vs
          refine ⟨.ref p, e1, g, F1, env, s1, kd, _, st1, q2, fun w F2 H2 x2 b2 r2 => ?_⟩
          have st2 := st1.step x2 b2
          have e4 : H2 p = some (.dK vs) := x2.ext p _ e3 nf
          obtain rfl := keyOf_V r2 q4
          refine ⟨p, _, rfl, DPut.k e4 (by rw [r.length]; exact hl), ?_⟩
          exact k σ _ F2 (x1.sam.trans x2.sam) (st2.change hi e1 e4 (.dct (Repk.put key (Rep.mono x2.sam _ _ r1) (Repk.mono x2.sam _ _ r))))
      · cases hf
    · cases hf
  · cases hf
theorem lookup_ft {K : PySem.W.Frag} {ft : List Addr} {F H : Hp} {s : Sto} {a : Addr} {d : Dt} (b : Bs K ft F H s) (h : s.lookup a = some d) : a ∈ ft := by
  rw [← b.ad]
  exact List.mem_map_of_mem (lookup_mem h)
theorem s_hput {o : Expr} {ix : Expr} {pos' : Pos} (h : PS X (.Assign [.Subscript o ix pos'] e pos) (sDPut (tVar i) (tB X.K O fk) (tD X.K O fv))) (hi : i ∉ O := by decide) : PS X (.Assign [.Subscript o ix pos'] e pos) (tS X.K L O O (hputS i fk fv)) := ps_imp h fun D σ H ⟨g, F, env, s, out, s', st, hf, k⟩ => by
  unfold hputS at hf
  split at hf
  · rename_i v s1 q1
    split at hf
    · rename_i kd s2 a q2 q3
      split at hf
      · rename_i key ks q4 q5
        split at hf <;> cases hf
        rename_i hl
        refine ⟨g, F, env, s, v, s1, st, q1, fun u F1 H1 x1 b1 r1 => ?_⟩
        have st1 := st.step x1 b1
        obtain ⟨va, e1, ra⟩ := st1.sl.pu i _ hi q3
        cases ra
        refine ⟨.ref a, e1, g, F1, env, s1, kd, s2, st1, q2, fun w F2 H2 x2 b2 r2 => ?_⟩
        have st2 := st1.step x2 b2
        obtain ⟨ob, e4, r4⟩ := b2.st _ _ (lookup_mem q5)
        cases r4 with
        | dct r4 =>
          obtain rfl := keyOf_V r2 q4
          refine ⟨a, _, rfl, DPut.k e4 (by rw [r4.length]; exact hl), ?_⟩
          exact k σ _ F2 (x1.sam.trans x2.sam) (st2.put (lookup_ft b2 q5) (.dct (Repk.put key (Rep.mono x2.sam _ _ r1) r4)))
      · cases hf
    · cases hf
  · cases hf
end

def tX (m : Bool) (K : PySem.W.Frag) (O : List Nat) (f : Fe) : TE := if m then tN K O f else tD K O f
def ownX (m : Bool) (O : List Nat) (i : Nat) : List Nat := if m then i :: O else O.filter fun j => decide (j ≠ i)
def Hand (K : PySem.W.Frag) (g : Gd) (O : List Nat) (F H : Hp) (σ : L2.St) (m : Bool) (v : V) (d : Dt) : Prop := if m then ∃ p o, v = .ref p ∧ H p = some o ∧ ObR K F o d ∧ F p = none ∧ p ∉ g.ft ∧ g.he p = none ∧ ∀ j, j ∈ O → σ[j]? ≠ some (some (.ref p)) else Rep K F v d
theorem Stt.setX {K : PySem.W.Frag} {g : Gd} {O : List Nat} {F H : Hp} {σ : L2.St} {env : Env} {s : Sto} {i : Nat} {m : Bool} {v : V} {d : Dt} (h : Stt K g O F H σ env s) (r : Hand K g O F H σ m v d) (hl : i < env.length) : Stt K g (ownX m O i) F H (σ.set i (some v)) (env.set i (some d)) s := by
  cases m with
  | false =>
    refine h.setD (show Rep K F v d from r) (fun j hj => ?_) fun j hj c => ?_
    · have := List.mem_filter.mp (show j ∈ O.filter fun j => decide (j ≠ i) from hj)
      exact ⟨this.1, of_decide_eq_true this.2⟩
    · exact List.mem_filter.mpr ⟨hj, decide_eq_true c⟩
  | true =>
    obtain ⟨p, o, rfl, e, r, n, nf, nh, no⟩ := (show ∃ p o, v = .ref p ∧ H p = some o ∧ ObR K F o d ∧ F p = none ∧ p ∉ g.ft ∧ g.he p = none ∧ ∀ j, j ∈ O → σ[j]? ≠ some (some (.ref p)) from r)
    exact h.setN hl e r n nf nh (fun j hj _ => no j hj) (fun j hj => List.mem_cons.mp hj) (fun j hj => List.mem_cons_of_mem _ hj) List.mem_cons_self
theorem Hand.step {K : PySem.W.Frag} {g : Gd} {O : List Nat} {F H F' H' : Hp} {σ : L2.St} {m : Bool} {v : V} {d : Dt} (h : Hand K g O F H σ m v d) (x : Go g.ft F H F' H') : Hand K g O F' H' σ m v d := by
  cases m with
  | false => exact Rep.mono x.sam _ _ (show Rep K F v d from h)
  | true =>
    obtain ⟨p, o, rfl, e, r, n, nf, nh, no⟩ := (show ∃ p o, v = .ref p ∧ H p = some o ∧ ObR K F o d ∧ F p = none ∧ p ∉ g.ft ∧ g.he p = none ∧ ∀ j, j ∈ O → σ[j]? ≠ some (some (.ref p)) from h)
    exact ⟨p, o, rfl, x.ext p o e nf, r.mono x.sam, keepsD x n e, nf, nh, no⟩
theorem tX_hand {K : PySem.W.Frag} {g : Gd} {O : List Nat} {F H : Hp} {σ : L2.St} {env : Env} {s s' : Sto} {m : Bool} {f : Fe} {d : Dt} {Q : VK} (st : Stt K g O F H σ env s) (hf : f env s = some (d, s'))
    (k : ∀ v F' H', Go g.ft F H F' H' → Bs K g.ft F' H' s' → Hand K g O F' H' σ m v d → (m = true → ∃ p, v = .ref p ∧ H p = none) → Q v H') : tX m K O f σ H Q := by
  cases m with
  | false => exact ⟨g, F, env, s, d, s', st, hf, fun v F' H' x b r => k v F' H' x b r fun z => nomatch z⟩
  | true =>
    refine ⟨g, F, env, s, d, s', st, hf, fun p o F' H' x b n n' e r => k (.ref p) F' H' x b ⟨p, o, rfl, e, r, n', st.bs.nofree n, st.go.free st.bs n, fun j hj ej => ?_⟩ fun _ => ⟨p, rfl, n⟩⟩
    obtain ⟨p2, o2, d2, g1, _, g3, _⟩ := st.sl.ow j hj
    rw [ej] at g1; cases g1
    rw [n] at g3; cases g3
theorem Hand.beside {K : PySem.W.Frag} {g : Gd} {O : List Nat} {F H : Hp} {σ : L2.St} {m m' : Bool} {v w : V} {e : Dt} {i : Nat} (h : Hand K g O F H σ m w e) (hne : m = true → m' = true → v ≠ w) (hi : i < σ.length) :
    Hand K g (ownX m' O i) F H (σ.set i (some v)) m w e := by
  cases m with
  | false => exact h
  | true =>
    obtain ⟨p, o, rfl, eo, r, n, nf, nh, no⟩ := (show ∃ p o, w = .ref p ∧ H p = some o ∧ ObR K F o e ∧ F p = none ∧ p ∉ g.ft ∧ g.he p = none ∧ ∀ j, j ∈ O → σ[j]? ≠ some (some (.ref p)) from h)
    refine ⟨p, o, rfl, eo, r, n, nf, nh, fun j hj ej => ?_⟩
    cases m' with
    | false =>
      have hj' := List.mem_filter.mp (show j ∈ O.filter fun j => decide (j ≠ i) from hj)
      have c : j ≠ i := of_decide_eq_true hj'.2
      rw [List.getElem?_set_ne (Ne.symm c)] at ej
      exact no j hj'.1 ej
    | true =>
      by_cases c : j = i
      · subst c
        rw [List.getElem?_set_self hi] at ej
        cases ej
        exact hne rfl rfl rfl
      · rw [List.getElem?_set_ne (Ne.symm c)] at ej
        exact no j ((List.mem_cons.mp hj).elim (fun z => absurd z c) fun z => z) ej
def par2S (i j : Nat) (f1 f2 : Fe) : Fs := fun env s => if i < env.length ∧ j < env.length then match f1 env s with
  | some (x, s1) => match f2 env s1 with
    | some (y, s2) => some (.nx ((env.set i (some x)).set j (some y)), s2)
    | none => none
  | none => none
  else none
theorem s_par2 {X : Cx} {L O : List Nat} {st : Stmt} {i j : Nat} {f1 f2 : Fe} (m1 m2 : Bool) (h : PS X st (tPar i j (tCons (tX m1 X.K O f1) (tCons (tX m2 X.K O f2) tNil)))) (O' : List Nat)
    (h1 : ∀ a, a ∈ O' → a ∈ ownX m2 (ownX m1 O i) j := by decide) : PS X st (tS X.K L O O' (par2S i j f1 f2)) := ps_imp (ps_lkout h) fun D σ H ⟨g, F, env, s, out, s', stt, hf, k⟩ => by
  unfold par2S at hf
  split at hf
  · rename_i hl
    split at hf
    · rename_i x s1 q1
      split at hf
      · rename_i y s2 q2
        cases hf
        refine tX_hand stt q1 fun v F1 H1 x1 b1 r1 z1 => ?_
        have st1 := stt.step x1 b1
        refine tX_hand st1 q2 fun w F2 H2 x2 b2 r2 z2 => ⟨v, w, rfl, ?_⟩
        have st2 := st1.step x2 b2
        have r1' := r1.step x2
        have a1 := st2.setX r1' hl.1
        have hi : i < σ.length := by rw [stt.sl.len]; exact hl.1
        have r2' : Hand X.K g (ownX m1 O i) F2 H2 (σ.set i (some v)) m2 w y := r2.beside (fun e2 e1 => by
          obtain ⟨p2, rfl, n2⟩ := z2 e2
          subst e1
          obtain ⟨p1, o1, rfl, e1, _⟩ := (show ∃ p o, v = .ref p ∧ H1 p = some o ∧ ObR X.K F1 o x ∧ F1 p = none ∧ p ∉ g.ft ∧ g.he p = none ∧ ∀ j, j ∈ O → σ[j]? ≠ some (some (.ref p)) from r1)
          intro z
          cases z
          rw [n2] at e1; cases e1) hi
        have a2 := a1.setX r2' (by rw [List.length_set]; exact hl.2)
        exact a2.weak h1 fun F3 H3 sm st3 => k _ H3 F3 ((x1.sam.trans x2.sam).trans sm) st3
      · cases hf
    · cases hf
  · cases hf
def unpS (i j : Nat) (f : Fe) : Fs := fun env s => match f env s with
  | some (.lst [x, y], s') => some (.nx ((env.set i (some x)).set j (some y)), s')
  | some (.tup [x, y], s') => some (.nx ((env.set i (some x)).set j (some y)), s')
  | _ => none
section
variable {X : Cx} {L O O' : List Nat} {e : Expr} {tg : Expr} {i j : Nat} {f : Fe} {pos : Pos}
theorem ps_or {st : Stmt} {t t' : TS} (h : PS X st t) (h' : PS X st t') : PS X st (fun D σ H => t D σ H ∨ t' D σ H) := ⟨fun pins s σ H D I q => q.elim (h.run pins s σ H D I) (h'.run pins s σ H D I)⟩
theorem s_unp (h : PS X (.Assign [tg] e pos) (tAsg (tD X.K O f) (gUnl X.K 2 (gCons (gName i) (gCons (gName j) gNil))))) (h' : PS X (.Assign [tg] e pos) (tAsg (tD X.K O f) (gTup X.K 2 (gCons (gName i) (gCons (gName j) gNil)))))
    (h1 : ∀ a, a ∈ O' → a ∈ O ∧ a ≠ i ∧ a ≠ j := by decide) : PS X (.Assign [tg] e pos) (tS X.K L O O' (unpS i j f)) := ps_imp (ps_lkout (ps_or h h')) fun D σ H ⟨g, F, env, s, out, s', st, hf, k⟩ => by
  have key : ∀ F1 H1 x y v w, Go g.ft F H F1 H1 → Bs X.K g.ft F1 H1 s' → Rep X.K F1 v x → Rep X.K F1 w y → out = .nx ((env.set i (some x)).set j (some y)) → Lk (D.nx ((σ.set i (some v)).set j (some w))) H1 := fun F1 H1 x y v w x1 b1 r1 r2 eo => by
    subst eo
    have st1 := st.step x1 b1
    have a1 := st1.setD (O' := O.filter fun a => decide (a ≠ i)) r1 (fun a ha => by
      have := List.mem_filter.mp ha
      exact ⟨this.1, of_decide_eq_true this.2⟩) fun a ha c => List.mem_filter.mpr ⟨ha, decide_eq_true c⟩
    have a2 := a1.setD (O' := (O.filter fun a => decide (a ≠ i)).filter fun a => decide (a ≠ j)) r2 (fun a ha => by
      have := List.mem_filter.mp ha
      exact ⟨this.1, of_decide_eq_true this.2⟩) fun a ha c => List.mem_filter.mpr ⟨ha, decide_eq_true c⟩
    exact a2.weak (O' := O') (fun a ha => by
      obtain ⟨z1, z2, z3⟩ := h1 a ha
      exact List.mem_filter.mpr ⟨List.mem_filter.mpr ⟨z1, decide_eq_true z2⟩, decide_eq_true z3⟩) fun F3 H3 sm st3 => k _ H3 F3 (x1.sam.trans sm) st3
  unfold unpS at hf
  split at hf
  · rename_i x y s1 q
    cases hf
    refine .inl ⟨g, F, env, s, _, _, st, q, fun v F1 H1 x1 b1 r1 => ?_⟩
    cases r1 with
    | lst e1 rs =>
      cases rs with
      | cons r1 t1 =>
        cases t1 with
        | cons r2 t2 =>
          cases t2
          exact ⟨_, _, rfl, SqL.of (b1.sub _ _ e1), rfl, _, _, rfl, _, _, rfl, rfl, key F1 H1 x y _ _ x1 b1 r1 r2 rfl⟩
  · rename_i x y s1 q
    cases hf
    refine .inr ⟨g, F, env, s, _, _, st, q, fun v F1 H1 x1 b1 r1 => ?_⟩
    cases r1 with
    | tup e1 hp rs =>
      cases rs with
      | cons r1 t1 =>
        cases t1 with
        | cons r2 t2 =>
          cases t2
          exact ⟨_, _, rfl, sqT_same b1.sub e1, rfl, _, _, rfl, _, _, rfl, rfl, key F1 H1 x y _ _ x1 b1 r1 r2 rfl⟩
  · cases hf
end
end DL

namespace DL
open PySem PySem.Spec PyProof.Rows L2

structure FnG (P : Program) (w : World) (K : PySem.W.Frag) (mg : Str → Option Value) (base : Heap) (k : Nat) (f : Addr) (fd : FuncData) (ps : List Str) (sp : Sp) : Prop where
  len : ∀ vs H Q E, sp vs H Q E → vs.length = ps.length
  run : ∀ (A : Around) (outer : List PySem.Env) (s : Shared) (H : Hp) (args : Args) (us : List Value) (vs : List V) (Q : VK) (E : XK), Room k A → A.guards = some [] →
    Env0 P w K mg base A outer s H → BindsTo s fd args (ps.zip us) → Vals vs us → sp vs H Q E → codeAny (model P w) A (.call (.ref f) args) (CR CX0 outer P w H s Q E) s
section
variable {P : Program} {w : World} {K : PySem.W.Frag} {mg : Str → Option Value} {base : Heap}
theorem fnG_of {k : Nat} {f : Addr} {name qual : Str} {params : Arguments} {body : List Stmt} {scope : Scope} {dV kV doc pm cdv ct oc : Value} {an od : Option Addr} {osl : Array (Option Value)} {N ps : List Str} {sp : Sp}
    (lk : K.lookup f = some ⟨oc, od, .func (PySem.W.fnOf name qual params body scope dV kV doc pm an cdv ct), osl⟩) (hcode : PySem.W.codeIn K cdv qual = true) (S : FnScope N ps scope) (hlen : ∀ vs H Q E, sp vs H Q E → vs.length = ps.length)
    (hb : ∀ (A : Around) (outer : List PySem.Env) (s : Shared) (H : Hp) (vs : List V) (Q : VK) (E : XK), Room k (A.deeper (envOfC qual scope s.heap.objs.size f cdv)) → A.guards = some [] → sp vs H Q E →
      ∃ t, PSs (cxOf CX0 P w K mg base N qual scope f cdv A outer s H E) body t ∧ t { nx := fun _ H' => Q .non H', rt := Q } (L2.start N vs) H) :
    FnG P w K mg base (k + 1) f (PySem.W.fnOf name qual params body scope dV kV doc pm an cdv ct) ps sp where
  len := hlen
  run := by
    intro A outer s H args us vs Q E room gds env bnd rel want
    have old : ∀ b o, base.get? b = some o → s.heap.get? b = some o := fun b o z => (env.bs b o z).1
    have inK : K.In s.heap := env.mod.kin.keeps old
    have noLim : s.heap.NoLimit := env.mod.nolimit.keeps old
    refine codeAny_call_function room.depth (inK _ _ lk) rfl S.co S.gen rfl (PySem.W.codeRec_of inK hcode) (bnd _ _ _ _ ?_)
    refine wpAny_newFunctionEnv_cells S.kind (fun ⟨n, v⟩ hy => ?_) fun env' he s1 made => ?_
    · rcases S.par n (List.of_mem_zip hy).1 with q | q
      · exact .inl q
      · exact .inr ⟨q, PySem.W.cellsFrom_some _ _ _ (.inl q)⟩
    · subst he
      refine ⟨noLim.keeps made.toInCall.keep, codeAny_func ?_⟩
      obtain ⟨t, ht, hq⟩ := hb A outer s H vs Q E (room.deeper _) gds want
      have I := inv_start (CX := CX0) (E := E) S room.hd env (hlen _ _ _ _ want) rel made
      refine wpAny_mono (ht.run [] s1 (L2.start N vs) H _ I hq) ?_ fun _ _ z => z
      intro fl s' hs
      cases fl with
      | ret u =>
        obtain ⟨v, σ', H', J, rv, q⟩ := hs
        exact ⟨v, H', J.os, J.bare, J.base, J.hok, rv, q⟩
      | next =>
        obtain ⟨σ', H', J, q⟩ := hs
        exact ⟨.non, H', J.os, J.bare, J.base, J.hok, rfl, q⟩
      | brk => exact hs.elim fun _ z => z.elim fun _ z => z.2.elim
      | cont => exact hs.elim fun _ z => z.elim fun _ z => z.2.elim
theorem okG {x qual : Str} {st : Stmt} {f : Addr} {fd : FuncData} {N ps : List Str} {k : Nat} {sp : Sp} (F : L2.Fun K x qual st f fd) (S : FnScope N ps (defScope st)) (hlen : ∀ vs H Q E, sp vs H Q E → vs.length = ps.length)
    (hb : ∀ (cdv : Value) (A : Around) (outer : List PySem.Env) (s : Shared) (H : Hp) (vs : List V) (Q : VK) (E : XK), Room k (A.deeper (envOfC qual (defScope st) s.heap.objs.size f cdv)) → A.guards = some [] → sp vs H Q E →
      ∃ t, PSs (cxOf CX0 P w K mg base N qual (defScope st) f cdv A outer s H E).nox (defBody st) t ∧ t { nx := fun _ H' => Q .non H', rt := Q } (L2.start N vs) H) : FnG P w K mg base (k + 1) f fd ps sp := by
  obtain ⟨oc, od, kV, doc, pm, an, cdv, ct, osl, rfl, lk, hc⟩ := F.ex
  exact fnG_of lk hc S hlen fun A outer s H vs Q E hr hg want =>
    let ⟨t, h, q⟩ := hb cdv A outer s H vs Q E hr hg want
    ⟨t, h.nox, q⟩
end

def spF (K : PySem.W.Frag) (n : Nat) (Fn : List Dt → Sto → Option (Dt × Sto)) : Sp := fun vs H Q _ => ∃ ft F s ds d s', vs.length = n ∧ Bs K ft F H s ∧ Reps K F vs ds ∧ Fn ds s = some (d, s') ∧
  ∀ v F' H', Go ft F H F' H' → Bs K ft F' H' s' → Rep K F' v d → Q v H'
def fnV (m : Nat) (F : Fs) : List Dt → Sto → Option (Dt × Sto) := fun ds s => match F (ds.map some ++ List.replicate (m - ds.length) none) s with
  | some (.rt d, s') => some (d, s')
  | some (.nx _, s') => some (.non, s')
  | _ => none
theorem start_stt {K : PySem.W.Frag} {ft : List Addr} {F H : Hp} {s : Sto} {vs : List V} {ds : List Dt} {N : List Str} (b : Bs K ft F H s) (r : Reps K F vs ds) : Stt K ⟨ft, H, F⟩ [] F H (L2.start N vs) (ds.map some ++ List.replicate (N.length - ds.length) none) s := by
  refine ⟨b, ⟨?_, fun i d _ e => ?_, fun i hi => absurd hi List.not_mem_nil, fun i j p hi => absurd hi List.not_mem_nil⟩, Go.refl⟩
  · unfold L2.start
    simp only [List.length_append, List.length_map, List.length_replicate, r.length]
  · unfold L2.start
    by_cases hi : i < ds.length
    · rw [List.getElem?_append_left (by rw [List.length_map]; exact hi), List.getElem?_map] at e
      cases q : ds[i]? with
      | none => rw [q] at e; cases e
      | some d' =>
        rw [q] at e
        cases e
        obtain ⟨v, e1, r1⟩ := r.get q
        refine ⟨v, ?_, r1⟩
        rw [List.getElem?_append_left (by rw [List.length_map, r.length]; exact hi), List.getElem?_map, e1]
        rfl
    · rw [List.getElem?_append_right (by rw [List.length_map]; omega), List.getElem?_replicate] at e
      split at e <;> cases e
section
variable {P : Program} {w : World} {K : PySem.W.Frag} {mg : Str → Option Value} {base : Heap}
theorem okF {x qual : Str} {st : Stmt} {f : Addr} {fd : FuncData} {N ps : List Str} {k m : Nat} {Fb : Fs} {O' : List Nat} (F : L2.Fun K x qual st f fd) (S : FnScope N ps (defScope st)) (hm : N.length = m)
    (hb : ∀ X : Cx, X.K = K → X.mg = mg → X.prog = P → X.w = w → X.base = base → X.N = N → X.calm = true → (∀ y, X.fn y = true) → (∃ cdv L A outer s H E, X = (cxOf CX0 P w K mg base N qual (defScope st) f cdv A outer s H E).nox ∧ L = s.heap.objs.size) → Room k X.A → X.A.guards = some [] → PSs X (defBody st) (tS K [] [] O' Fb)) :
    FnG P w K mg base (k + 1) f fd ps (spF K ps.length (fnV m Fb)) := by
  refine okG F S (fun vs H Q E ⟨_, _, _, _, _, _, h, _⟩ => h) fun cdv A outer s H vs Q E hr hg ⟨ft, F0, s0, ds, d, s', hl, b, r, hv, k0⟩ => ?_
  refine ⟨_, hb _ rfl rfl rfl rfl rfl rfl rfl (fun _ => rfl) ⟨cdv, _, A, outer, s, H, E, rfl, rfl⟩ hr hg, ?_⟩
  unfold fnV at hv
  rw [← hm] at hv
  split at hv
  · rename_i q
    cases hv
    exact ⟨⟨ft, H, F0⟩, F0, _, s0, _, _, start_stt b r, q, fun v H' F' b' x' r' => k0 v F' H' x' b' r'⟩
  · rename_i q
    cases hv
    exact ⟨⟨ft, H, F0⟩, F0, _, s0, _, _, start_stt b r, q, fun σ' H' F' _ st' => k0 .non F' H' st'.go st'.bs .non⟩
  · cases hv
end

def callF (Fn : List Dt → Sto → Option (Dt × Sto)) (fa : Fa) : Fe := fun env s => match fa env s with
  | some (ds, s1) => Fn ds s1
  | none => none
section
variable {X : Cx} {O : List Nat} {k n : Nat} {f : Addr} {fd : FuncData} {ps ks : List Str} {x : Str} {p pos kpos : Pos} {e : Expr} {es : List Expr} {kws : List Keyword} {fa fk : Fa} {sp : Sp} {Fn : List Dt → Sto → Option (Dt × Sto)}
theorem run_g {pins : List (Addr × Obj)} {σ : L2.St} {H : Hp} {s : Shared} {Q : VK} {vs : List V} {us : List Value} {ar : Args} {os : List Value} {ok : List (Str × Value)} (F : FnG X.prog X.w X.K X.mg X.base k f fd ps sp) (hr : Room k X.A) (hg : X.A.guards = some [])
    (I : Inv X pins σ H s) (r : Vals vs us) (hb : (us.length = ps.length) → BindsTo s fd ⟨os, ok⟩ (ps.zip us)) (h : sp vs H Q E0) : wpAny (model X.prog X.w) X.A (call (.ref f) os ok) (EP X pins σ Q) X.xe s := by
  have hl : us.length = ps.length := by rw [← r.length]; exact F.len _ _ _ _ h
  refine wpAny_call (codeAny_mono (F.run X.A X.stack s H ⟨os, ok⟩ us vs Q E0 hr hg I.env0 (hb hl) r h) ?_)
  intro res s' hq
  match res, hq with
  | .error _, z => exact z.elim
  | .ok (.ret u), z => exact I.after z
  | .ok .next, z => exact False.elim z
  | .ok .brk, z => exact False.elim z
  | .ok .cont, z => exact False.elim z
theorem d_call (F : FnG X.prog X.w X.K X.mg X.base k f fd ps (spF X.K n Fn)) (hr : Room k X.A) (hgd : X.A.guards = some []) (hg : Gl X x) (hm : X.mg x = some (.ref f)) (hk : PySem.W.keepIn X.K (.ref f) = true) (hb : Binds X.K fd ps [])
    (ha : PA X (e :: es) (tAD X.K O fa)) (hn : n = es.length + 1) (hal : ∀ env s ds s', fa env s = some (ds, s') → ds.length = es.length + 1)
    (hdb : (x == ("__debug__" : Str)) = false := by decide) (he : starEach (e :: es) X.env = (false, eval e X.env) :: starEach es X.env := by rfl)
    (hpl : (backTo pos (starEach es X.env)).any (·.1) = false := by rfl) : PE X (.Call (.Name x p) (e :: es) [] pos) (tD X.K O (callF Fn fa)) := by
  refine ⟨fun pins s σ H Q I ⟨g, F0, env, s0, d, s', st, hf, kk⟩ => ?_⟩
  unfold callF at hf
  split at hf
  · rename_i ds s1 q
    refine wpAny_Call_Name_kw (ld_glob I hg hm ?_ hdb)
    refine PySem.W.callWith_K (h₀ := X.base) I.ok.mod.kin hk ?_ he hpl
    refine thn (ha.run pos pins s σ H (fun vs H1 => spF X.K n Fn vs H1 Q E0) I ⟨g, F0, env, s0, ds, s1, st, q, fun vs F1 H1 x1 b1 r1 => ?_⟩) ?_
    · exact ⟨g.ft, F1, s1, ds, d, s', by rw [r1.length, hal _ _ _ _ q, hn], b1, r1, hf, fun v F2 H2 x2 b2 r2 => kk v F2 H2 (x1.trans x2 b1) b2 r2⟩
    · rintro us s2 ⟨vs, H1, I1, rv, want⟩
      refine ⟨I1.kIn, run_g (ar := ⟨[], []⟩) F hr hgd I1 rv (fun hl => ?_) want⟩
      have z := hb s2 us I1.kIn (by rw [List.append_nil]; exact hl)
      rwa [List.append_nil] at z
  · cases hf
def permL {α : Type} (ix : List Nat) (xs : List α) : List α := ix.filterMap fun i => xs[i]?
theorem permL_vals (ix : List Nat) {vs : List V} {us : List Value} (r : Vals vs us) : Vals (permL ix vs) (permL ix us) := by
  induction ix with
  | nil => exact .nil
  | cons i ix ih =>
    unfold permL at ih ⊢
    cases q : vs[i]? with
    | none =>
      rw [List.filterMap_cons_none q, List.filterMap_cons_none (r.none_of q)]
      exact ih
    | some v =>
      obtain ⟨u, e, rv⟩ := r.get q
      rw [List.filterMap_cons_some q, List.filterMap_cons_some e]
      exact .cons rv ih
theorem permL_reps {K : PySem.W.Frag} {F : Hp} (ix : List Nat) {vs : List V} {ds : List Dt} (r : Reps K F vs ds) : Reps K F (permL ix vs) (permL ix ds) := by
  induction ix with
  | nil => exact .nil
  | cons i ix ih =>
    unfold permL at ih ⊢
    cases q : ds[i]? with
    | none =>
      have e : vs[i]? = none := by
        rw [List.getElem?_eq_none_iff] at q ⊢
        rw [r.length]; exact q
      rw [List.filterMap_cons_none q, List.filterMap_cons_none e]
      exact ih
    | some v =>
      obtain ⟨u, e, rv⟩ := r.get q
      rw [List.filterMap_cons_some q, List.filterMap_cons_some e]
      exact .cons rv ih
theorem pk_imp {t t' : TA} (h : PK X kws t) (k : ∀ σ H Q, t' σ H Q → t σ H Q) : PK X kws t' := ⟨fun pos pins s σ H Q I q => h.run pos pins s σ H Q I (k σ H Q q)⟩
theorem kd_nil : PK X [] (tAD X.K O aNil) := pk_imp pk_nil fun σ H Q ⟨g, F, env, s, ds, s', st, hf, k⟩ => by
  cases hf
  exact k [] F H Go.refl st.bs .nil
theorem kd_cons {nm : Option Str} {fe : Fe} (he : PE X e (tD X.K O fe)) (hr : PK X kws (tAD X.K O fk)) : PK X (⟨nm, e, kpos⟩ :: kws) (tAD X.K O (aCons fe fk)) := pk_imp (pk_cons he hr) fun σ H Q ⟨g, F, env, s, ds, s', st, hf, k⟩ => by
  obtain ⟨x, s1, xs, q1, q2, rfl⟩ := aCons_some hf
  exact ⟨g, F, env, s, x, s1, st, q1, fun v F1 H1 x1 b1 r1 => ⟨g, F1, env, s1, xs, s', st.step x1 b1, q2, fun vs F2 H2 x2 b2 r2 => k (v :: vs) F2 H2 (x1.trans x2 b1) b2 (.cons (Rep.mono x2.sam _ _ r1) r2)⟩⟩
end

mutual
def wt : Dt → Nat
  | .non => 4
  | .bl _ => 5
  | .int i => i.natAbs.log2 + 2
  | .str x => 10 * x.length + 2
  | .tup xs => wts xs + 3
  | .lst xs => wts xs + 2
  | _ => 4
def wts : List Dt → Nat
  | [] => 0
  | x :: xs => wt x + 2 + wts xs
end
theorem strOk_lt {x : Str} (h : PyData.strOk x = true) : ∀ c ∈ x.cps.toList, c < 16 ^ 8 := fun c hc => by
  unfold PyData.strOk at h
  rw [← Array.all_toList, List.all_eq_true] at h
  have := of_decide_eq_true (h c hc)
  omega
theorem app_len (a b : Str) : (a ++ b).length = a.length + b.length := by
  show (a.cps ++ b.cps).size = _
  rw [Array.size_append]; rfl
theorem textFrom_le : ∀ (ts : List Str) (k : Nat) (acc : Str), (textFrom k acc ts).length ≤ acc.length + (ts.map fun t => t.length + 2).sum
  | [], k, acc => by show acc.length ≤ _; simp
  | t :: r, k, acc => by
    have ih := textFrom_le r (k + 1) (acc ++ (if k > 0 then ", " else "" : String) ++ t)
    have e : (acc ++ (if k > 0 then ", " else "" : String) ++ t).length ≤ acc.length + 2 + t.length := by
      rw [app_len, app_len]
      have : (Str.ofString (if k > 0 then ", " else "" : String)).length ≤ 2 := by split <;> decide
      omega
    show (textFrom (k + 1) (acc ++ (if k > 0 then ", " else "" : String) ++ t) r).length ≤ _
    rw [List.map_cons, List.sum_cons]
    omega
theorem join_le : ∀ ts : List Str, (Str.join ", " ts).length ≤ (ts.map fun t => t.length + 2).sum
  | [] => by decide
  | [x] => by show x.length ≤ _; simp
  | x :: y :: r => by
    have ih := join_le (y :: r)
    show (x ++ ", " ++ Str.join ", " (y :: r)).length ≤ _
    rw [app_len, app_len, List.map_cons, List.sum_cons]
    have : ((", " : String) : Str).length = 2 := rfl
    omega
mutual
theorem shown_le : ∀ d : Dt, good d = true → (py d).shown.length ≤ wt d
  | .non, _ => by show (Str.ofString "None").length ≤ 4; decide
  | .bl b, _ => by cases b <;> (show (Str.ofString _).length ≤ 5; decide)
  | .int i, _ => by
    show (Str.ofString (toString i)).length ≤ i.natAbs.log2 + 2
    have h := int_text_length_le (a := i) (k := i.natAbs.log2 + 1) (by omega) (by omega)
    have e : (Str.ofString (toString i)).length = (toString i).length := by
      rw [Str.ofString_eq_toList]
      show ((toString i).toList.map Char.toNat).toArray.size = _
      rw [List.size_toArray, List.length_map, String.length_toList]
    omega
  | .str x, h => by
    show (reprText x).length ≤ 10 * x.length + 2
    exact StrLaws.reprText_len x (strOk_lt (by simpa only [good] using h))
  | .tup xs, h => by
    show (tupleText (PyData.shownAll (pys xs))).length ≤ wts xs + 3
    have ih := showns_le xs (by simpa only [good] using h)
    have j := join_le (PyData.shownAll (pys xs))
    unfold tupleText
    rw [app_len, app_len]
    have e1 : ((("(" : String) : Str)).length = 1 := rfl
    have e2 : (Str.ofString (if (PyData.shownAll (pys xs)).length == 1 then ",)" else ")" : String)).length ≤ 2 := by split <;> decide
    omega
  | .lst xs, h => by
    show (listText (PyData.shownAll (pys xs))).length ≤ wts xs + 2
    have ih := showns_le xs (by simpa only [good] using h)
    have j := textFrom_le (PyData.shownAll (pys xs)) 0 "["
    unfold listText
    rw [app_len]
    have e1 : (("[" : String) : Str).length = 1 := rfl
    have e2 : (("]" : String) : Str).length = 1 := rfl
    omega
  | .dct _, h => by simp only [good] at h; exact absurd h Bool.false_ne_true
  | .ref _, h => by simp only [good] at h; exact absurd h Bool.false_ne_true
  | .scr _, h => by simp only [good] at h; exact absurd h Bool.false_ne_true
theorem showns_le : ∀ ds : List Dt, goods ds = true → ((PyData.shownAll (pys ds)).map fun t => t.length + 2).sum ≤ wts ds
  | [], _ => by show 0 ≤ 0; omega
  | d :: ds, h => by
    simp only [goods, Bool.and_eq_true] at h
    have h1 := shown_le d h.1
    have h2 := showns_le ds h.2
    simp only [pys, PyData.shownAll, List.map_cons, List.sum_cons, wts]
    omega
end
def showD (d : Dt) : Str := (py d).shown
def reprG (_ : Sto) : List Dt → Option Dt
  | [x] => if good x = true ∧ wt x ≤ 16777216 ∧ dep x ≤ 60 then some (.str (showD x)) else none
  | _ => none
def rRepr (K : PySem.W.Frag) : List V → Hp → VK → Prop := fun xs H Q => ∃ v d, xs = [v] ∧ Dp K H v (py d) ∧ good d = true ∧ wt d ≤ 16777216 ∧ dep d ≤ 60 ∧ Q (.str (showD d)) H
theorem call_reprD {X : Cx} (hg : X.A.guards = some []) (hu : X.A.units + 64 < cLine) : CallR X (.builtin "repr") (rRepr X.K) := by
  intro pins s σ H xs us Q I r ⟨v, d, e, hd, hgd, hw, hdp, q⟩
  subst e
  cases r with
  | cons rv rn =>
    cases rn
    rename_i u
    have hsz : (py d).shown.length ≤ sizeLine := Nat.le_trans (shown_le d hgd) (by rw [sizeLine_eq]; exact hw)
    obtain ⟨p1, p2, p3, p4, p5⟩ := good_plain d hgd
    obtain ⟨as, rd⟩ := Dp.reads I (py d) v u hd rv
    cases d with
    | non =>
      cases hd; cases rv
      exact P.repr_of_none ⟨.str _, H, I.tok _, ⟨_, rfl⟩, q⟩
    | bl b =>
      cases hd; cases rv
      exact P.repr_of_bool ⟨.str _, H, I.tok _, ⟨_, rfl⟩, q⟩
    | int i =>
      cases hd
      obtain ⟨t, rfl⟩ := rv
      exact P.repr_of_int (by simpa [good] using hgd) ⟨.str _, H, I.tok _, ⟨_, rfl⟩, q⟩
    | str x =>
      cases hd
      obtain ⟨t, rfl⟩ := rv
      exact P.repr_of_str ⟨.str _, H, I.tok _, ⟨_, rfl⟩, q⟩ hsz
    | tup ds =>
      cases hd; cases rv
      refine repr_of_reads' rd p3 (fun z => by rw [p4] at z; cases z) hg (by rw [p5]; omega) (fun _ _ z => z) (fun h' u tk kp => ⟨.str _, H, I.kept kp, ⟨_, rfl⟩, q⟩) hsz
    | lst ds =>
      cases hd; cases rv
      refine repr_of_reads' rd p3 (fun z => by rw [p4] at z; cases z) hg (by rw [p5]; omega) (fun _ _ z => z) (fun h' u tk kp => ⟨.str _, H, I.kept kp, ⟨_, rfl⟩, q⟩) hsz
    | dct ds => simp only [good] at hgd; exact absurd hgd Bool.false_ne_true
    | ref a => simp only [good] at hgd; exact absurd hgd Bool.false_ne_true
    | scr ns => simp only [good] at hgd; exact absurd hgd Bool.false_ne_true
theorem cd_repr {K : PySem.W.Frag} : CallD K (rRepr K) reprG := by
  intro ft F H s vs xs z Q b rx hg k
  unfold reprG at hg
  split at hg
  · split at hg <;> cases hg
    rename_i c
    obtain ⟨v, rfl, r⟩ := pair1 rx
    exact ⟨v, _, rfl, r.dp b.sub (good_plain _ c.1).1, c.1, c.2.1, c.2.2, k _ F H Go.refl b (.str _)⟩
  · cases hg
end DL

namespace DL
open PySem PySem.Spec PyProof.Rows L2

def pairsOfD : List Dt → Option (List (Key × Dt))
  | [] => some []
  | .tup [k, d] :: r => match keyOf k, pairsOfD r with
    | some key, some ps => some ((key, d) :: ps)
    | _, _ => none
  | _ => none
def mergeD (ks more : List (Key × Dt)) : List (Key × Dt) := more.foldl (fun acc kv => putD acc kv.1 kv.2) ks
theorem Repk.merge {K : PySem.W.Frag} {F : Hp} : ∀ {more : List (Key × V)} {ds : List (Key × Dt)} {kvs : List (Key × V)} {es : List (Key × Dt)}, Repk K F more ds → Repk K F kvs es → Repk K F (mergeK kvs more) (mergeD es ds)
  | [], [], _, _, _, h => h
  | [], _ :: _, _, _, h, _ => by cases h
  | _ :: _, [], _, _, h, _ => by cases h
  | (k, v) :: more, (k', d) :: ds, _, _, h, h' => by
    cases h with
    | cons h1 h2 =>
      show Repk K F (mergeK (putK _ k v) more) (mergeD (putD _ k d) ds)
      exact Repk.merge h2 (Repk.put _ h1 h')
def toDctG (_ : Sto) : List Dt → Option Dt
  | [.lst xs] => (pairsOfD xs).map fun ps => .dct (mergeD [] ps)
  | [.tup xs] => (pairsOfD xs).map fun ps => .dct (mergeD [] ps)
  | _ => none
section
variable {K : PySem.W.Frag} {F H : Hp}
theorem pairs_V (e : Same F H) : ∀ {vs : List V} {ds : List Dt} {ps : List (Key × Dt)}, Reps K F vs ds → pairsOfD ds = some ps → ∃ (as : List Addr) (kvs : List (Key × V)), vs = as.map V.ref ∧ Paired (fun p kv => SqT K H p [kV kv.1, kv.2]) as kvs ∧ Repk K F kvs ps
  | [], [], _, _, h => by cases h; exact ⟨[], [], rfl, .nil, .nil⟩
  | [], _ :: _, _, h, _ => by cases h
  | _ :: _, [], _, h, _ => by cases h
  | _ :: _, d :: ds, ps, h, q => by
    unfold pairsOfD at q
    split at q
    · rename_i hd; cases hd
    · rename_i k d' r hd
      cases hd
      split at q
      · rename_i key ps' q1 q2
        cases q
        cases h with
        | cons h1 h2 =>
          obtain ⟨as, kvs, rfl, pr, rk⟩ := pairs_V e h2 q2
          cases h1 with
          | tup t1 tp t2 =>
            cases t2 with
            | cons r1 t2 =>
              cases t2 with
              | cons r2 t3 =>
                cases t3
                rename_i a _ _
                have ek := keyOf_V (ft := []) (H := H) (.inl r1) q1
                subst ek
                exact ⟨a :: as, (key, _) :: kvs, rfl, .cons (sqT_same e t1) pr, .cons r2 rk⟩
      · cases q
    · cases q
end
def rDctT (K : PySem.W.Frag) : List V → Hp → VK → Prop := fun xs H Q => ∃ (a : Addr) (ps : List Addr) (kvs : List (Key × V)), xs = [.ref a] ∧ SqT K H a (ps.map V.ref) ∧ ((∃ o, H a = some (.frz o (.tup (ps.map V.ref))) ∧ o.dict = none) ∨ ∃ o, K.lookup a = some o ∧ o.dict = none) ∧
  Paired (fun p kv => SqT K H p [kV kv.1, kv.2]) ps kvs ∧ ∀ p, H p = none → Q (.ref p) (upd H p (.dK (mergeK [] kvs)))
theorem call_dctT {X : Cx} (hc : X.calm = true) : CallR X (.type "dict") (rDctT X.K) := by
  intro pins s σ H xs us Q I r ⟨a, ps, kvs, ex, hq, hpl, hp, q⟩
  subst ex
  obtain ⟨u, eu, rx⟩ := vals1 r
  subst eu
  cases rx
  obtain ⟨its, rv, ht, hz⟩ := I.tuple hq
  have ei := refs_at rv
  subst ei
  rw [List.length_map] at hz
  obtain ⟨prs, rel, hl, hpr⟩ := pairs_of I hp
  obtain ⟨o, ho, hcl, n, hdat⟩ := ht
  have hd : o.dict = none := by
    rcases hpl with ⟨o', e, h'⟩ | ⟨o', e, h'⟩
    · have z := (I.hok a _ e).1
      rw [ho] at z; cases z
      exact h'
    · have z := I.kIn a o' e
      rw [ho] at z; cases z
      exact h'
  -- the pairs' keys as they stand
  have hex : ∃ pv : List (Value × Value), pv.length = ps.length ∧ ∀ (j : Nat) (k v : Value), pv[j]? = some (k, v) → ∃ b, ps[j]? = some b ∧ IsTup s.heap b #[k, v] ∧ ∃ key, prs[j]? = some (key, v) ∧ keyIs key k = true := by
    have gen : ∀ (n : Nat), n ≤ ps.length → ∃ pv : List (Value × Value), pv.length = n ∧ ∀ (j : Nat) (k v : Value), pv[j]? = some (k, v) → ∃ b, ps[j]? = some b ∧ IsTup s.heap b #[k, v] ∧ ∃ key, prs[j]? = some (key, v) ∧ keyIs key k = true := by
      intro n
      induction n with
      | zero => exact fun _ => ⟨[], rfl, fun j k v e => by simp at e⟩
      | succ n ih =>
        intro hn
        obtain ⟨pv, e1, e2⟩ := ih (by omega)
        have hlt : n < prs.length := by omega
        obtain ⟨b, u, f1, f2, f3⟩ := hpr n prs[n] (List.getElem?_eq_getElem hlt)
        refine ⟨pv ++ [(u, prs[n].2)], by rw [List.length_append, e1]; rfl, fun j k v e => ?_⟩
        by_cases c : j < pv.length
        · rw [List.getElem?_append_left c] at e
          exact e2 j k v e
        · rw [List.getElem?_append_right (by omega)] at e
          have hj : j - pv.length = 0 := by
            cases q2 : j - pv.length with
            | zero => rfl
            | succ m => rw [q2] at e; simp at e
          have ej : j = n := by omega
          subst ej
          rw [hj] at e
          cases e
          exact ⟨b, f1, f2, _, List.getElem?_eq_getElem hlt, f3⟩
    exact gen _ (Nat.le_refl _)
  obtain ⟨pv, e1, e2⟩ := hex
  refine PySem.call_dict_pairs (knd := mixKind X.prog X.w) (kvs := prs) (PySem.PairArg.tuple (prog := X.prog) (w := X.w) a (ps.map Value.ref).toArray (fun j => (ps[j]?).getD 0) pv) (I.ok.hd hc) ⟨⟨o, n, ho, hcl, hd, hdat⟩, by simp [e1], fun j k v e => ?_⟩ ⟨by omega, fun i key v e => ?_⟩ (by omega) fun h' tk hd' kp => ?_
  · obtain ⟨b, f1, ⟨ob, f2, f3, f4, f5⟩, _⟩ := e2 j k v e
    have eb : (fun j => (ps[j]?).getD 0) j = b := by
      show (ps[j]?).getD 0 = b
      rw [f1]; rfl
    rw [eb]
    exact ⟨by simp [f1], .inl ⟨ob, f2, f3, f4, f5⟩⟩
  · obtain ⟨b, _, _, key', f1, f2⟩ := e2 i key v e
    exact ⟨key', f1, f2⟩
  · have hm : (s.heap.objs.size == sysModules) = false := beq_eq_false_iff_ne.mpr (Nat.ne_of_gt I.big)
    have hlen : (mergeK [] kvs).length ≤ sizeLine := by
      have z := length_mergeK kvs []
      rw [List.length_nil, Nat.zero_add, rel.length, hl] at z
      omega
    exact ⟨.ref s.heap.objs.size, _, I.laid (t' := tk) (o := .dK (mergeK [] kvs)) (fun b o' e => kp b o' List.not_mem_nil e) (Nat.le_refl _) ⟨hlen, hm, merged [] prs, KV.merge rel .nil, hd'⟩, rfl, q _ (I.hok.fresh (Nat.le_refl _))⟩
def rDctA (K : PySem.W.Frag) : List V → Hp → VK → Prop := fun xs H Q => (∃ (a : Addr) (ps : List Addr) (kvs : List (Key × V)), xs = [.ref a] ∧ SqL K H a (ps.map V.ref) ∧ Paired (fun p kv => SqT K H p [kV kv.1, kv.2]) ps kvs ∧
    ∀ p, H p = none → Q (.ref p) (upd H p (.dK (mergeK [] kvs)))) ∨ rDctT K xs H Q
theorem call_dctA {X : Cx} (hc : X.calm = true) : CallR X (.type "dict") (rDctA X.K) := CallR.or (call_dictP hc) (call_dctT hc)
theorem PlT.same {K : PySem.W.Frag} {F H : Hp} {a : Addr} {ps : List Addr} (e : Same F H) (h : PlT K F a (ps.map V.ref)) (hn : ps ≠ [] ∨ ps = []) : (∃ o, H a = some (.frz o (.tup (ps.map V.ref))) ∧ o.dict = none) ∨ (∃ o, K.lookup a = some o ∧ o.dict = none) := by
  rcases h with ⟨o, h1, h2⟩ | h | ⟨x, r, e1, e2⟩
  · exact .inl ⟨o, e _ _ h1, h2⟩
  · exact .inr h
  · cases ps with
    | nil => cases e1
    | cons p ps =>
      cases e1
      exact absurd rfl (e2 p)
theorem cn_toDct {K : PySem.W.Frag} : CallN K (rDctA K) toDctG := by
  intro ft F H s vs xs z Q b rx hg k
  unfold toDctG at hg
  split at hg
  · rename_i ds
    cases q : pairsOfD ds with
    | none => rw [q] at hg; cases hg
    | some ps =>
      rw [q] at hg
      cases hg
      obtain ⟨v, rfl, r⟩ := pair1 rx
      obtain ⟨a, vs, rfl, e, rs⟩ := r.lst b
      obtain ⟨as, kvs, rfl, pr, rk⟩ := pairs_V b.sub rs q
      exact .inl ⟨a, as, kvs, rfl, SqL.of e, pr, fun p np => k p _ np (.dct (Repk.merge rk .nil))⟩
  · rename_i ds
    cases q : pairsOfD ds with
    | none => rw [q] at hg; cases hg
    | some ps =>
      rw [q] at hg
      cases hg
      obtain ⟨v, rfl, r⟩ := pair1 rx
      rcases r with r | ⟨_, _, _, _, r, _⟩
      · cases r with
        | tup t1 tp t2 =>
          obtain ⟨as, kvs, rfl, pr, rk⟩ := pairs_V b.sub t2 q
          exact .inr ⟨_, as, kvs, rfl, sqT_same b.sub t1, tp.same b.sub (by by_cases c : as = []; exact .inr c; exact .inl c), pr, fun p np => k p _ np (.dct (Repk.merge rk .nil))⟩
      · cases r
  · cases hg

def dispL : List (Fe × Fe) → Env → Sto → Option (List (Key × Dt) × Sto)
  | [], _, s => some ([], s)
  | (fk, fv) :: r, env, s => match fk env s with
    | some (k, s1) => match fv env s1 with
      | some (v, s2) => match dispL r env s2 with
        | some (ps, s3) => match keyOf k with
          | some key => some ((key, v) :: ps, s3)
          | none => none
        | none => none
      | none => none
    | none => none
def dispF (l : List (Fe × Fe)) : Fe := fun env s => match dispL l env s with
  | some (ps, s') => if ps.length ≤ 15 then some (.dct (mergeD [] ps), s') else none
  | none => none
theorem kvs_V {K : PySem.W.Frag} {F : Hp} : ∀ {vs : List (V × V)} {ps : List (Key × Dt)}, Paired (fun (a : V × V) (b : Key × Dt) => a.1 = kV b.1 ∧ Rep K F a.2 b.2) vs ps → ∃ kvs : List (Key × V), vs = kvs.map (fun kv => (kV kv.1, kv.2)) ∧ Repk K F kvs ps ∧ kvs.length = ps.length
  | [], [], _ => ⟨[], rfl, .nil, rfl⟩
  | _, _, .cons (a := a) (b := b) h t => by
    obtain ⟨kvs, rfl, rk, hl⟩ := kvs_V t
    obtain ⟨a1, a2⟩ := a
    obtain ⟨b1, b2⟩ := b
    obtain ⟨e, r⟩ := h
    dsimp only at e r
    subst e
    exact ⟨(b1, a2) :: kvs, rfl, .cons r rk, by rw [List.length_cons, List.length_cons, hl]⟩
theorem disp_go {K : PySem.W.Frag} {O : List Nat} : ∀ (l : List (Fe × Fe)) {g : Gd} {F H : Hp} {σ : L2.St} {env : Env} {s s' : Sto} {ps : List (Key × Dt)} {Q : List (V × V) → Hp → Prop}, Stt K g O F H σ env s → dispL l env s = some (ps, s') →
    (∀ vs F' H', Go g.ft F H F' H' → Bs K g.ft F' H' s' → Paired (fun (a : V × V) (b : Key × Dt) => a.1 = kV b.1 ∧ Rep K F' a.2 b.2) vs ps → Q vs H') → tPairs (l.map fun p => (tD K O p.1, tD K O p.2)) σ H Q
  | [], g, F, H, σ, env, s, s', ps, Q, st, h, k => by
    cases h
    exact k [] F H Go.refl st.bs .nil
  | (fk, fv) :: r, g, F, H, σ, env, s, s', ps, Q, st, h, k => by
    unfold dispL at h
    split at h
    · rename_i kd s1 q1
      split at h
      · rename_i v s2 q2
        split at h
        · rename_i ps' s3 q3
          split at h
          · rename_i key q4
            cases h
            refine ⟨g, F, env, s, kd, s1, st, q1, fun u F1 H1 x1 b1 r1 => ⟨g, F1, env, s1, v, s2, st.step x1 b1, q2, fun w F2 H2 x2 b2 r2 => ?_⟩⟩
            refine disp_go r ((st.step x1 b1).step x2 b2) q3 fun vs F3 H3 x3 b3 pr => ?_
            have ek := keyOf_V (ft := []) (H := H1) (.inl r1) q4
            exact k ((u, w) :: vs) F3 H3 ((x1.trans x2 b1).trans x3 b2) b3 (.cons ⟨ek, Rep.mono x3.sam _ _ r2⟩ pr)
          · cases h
        · cases h
      · cases h
    · cases h
theorem n_disp {X : Cx} {O : List Nat} {pos : Pos} {keys : List (Option Expr)} {values : List Expr} (l : List (Fe × Fe)) (h : PPs X pos keys values (l.map fun p => (tD X.K O p.1, tD X.K O p.2))) (hall : keys.all (·.isSome) = true := by rfl) (hl : keys.length = values.length := by rfl) (h0 : keys ≠ [] := by intro z; cases z)
    (h15 : keys.length ≤ 15 := by decide) : PE X (.Dict keys values pos) (tN X.K O (dispF l)) := pe_imp (pe_disp h hall hl h0 h15) fun σ H Q ⟨g, F, env, s, d, s', st, hf, k⟩ => by
  unfold dispF at hf
  split at hf
  · rename_i ps s1 q
    split at hf <;> cases hf
    rename_i hz
    intro p np
    have nft : p ∉ g.ft := st.bs.nofree np
    have nF : F p = none := (Go.made (o := .dK []) st.bs np).2.2
    have nh : g.he p = none := st.go.free st.bs np
    have nO : ∀ j, j ∈ O → σ[j]? ≠ some (some (.ref p)) := fun j hj e => by
      obtain ⟨p2, o2, d2, g1, _, g3, _⟩ := st.sl.ow j hj
      rw [e] at g1; cases g1
      rw [np] at g3; cases g3
    have st1 := st.apart (D := p) (o := .dK []) nF nft nh nO
    refine disp_go l st1 q fun vs F2 H2 x2 b2 pr => ?_
    have e2 : H2 p = some (.dK []) := x2.ext p _ upd_same nft
    obtain ⟨kvs, rfl, rk, hl2⟩ := kvs_V pr
    refine ⟨e2, kvs, rfl, by omega, ?_⟩
    have n2 : F2 p = none := keepsD x2 nF upd_same
    have st2 := (st1.step x2 b2).apart (D := p) (o := .dK (mergeK [] kvs)) n2 nft nh nO
    refine k p _ F2 _ ⟨fun c u e nc => ?_, x2.sam, fun c u e => ?_⟩ st2.bs np n2 upd_same (.dct (Repk.merge rk .nil))
    · rw [upd_ne (ne_of_none e np)]
      exact x2.ext c u (by rw [upd_ne (ne_of_none e np)]; exact e) nc
    · rcases x2.new c u e with z | z
      · exact .inl z
      · by_cases c2 : c = p
        · subst c2; exact .inr np
        · rw [upd_ne c2] at z; exact .inr z
  · cases hf
def emptyG : Fe := fun _ s => some (.dct [], s)
theorem n_dnil {X : Cx} {O : List Nat} {pos : Pos} : PE X (.Dict [] [] pos) (tN X.K O emptyG) := pe_imp pe_dnewK fun σ H Q ⟨g, F, env, s, d, s', st, hf, k⟩ => by
  cases hf
  intro p np
  obtain ⟨x1, b1, n1⟩ := Go.made (o := .dK []) st.bs np
  exact k p _ F _ x1 b1 np n1 upd_same (.dct .nil)

def tyD : Dt → Option String
  | .non => some "NoneType"
  | .bl _ => some "bool"
  | .int _ => some "int"
  | .str _ => some "str"
  | .tup _ => some "tuple"
  | .lst _ => some "list"
  | .dct _ => some "dict"
  | _ => none
def isiG (T : String) (_ : Sto) (x : Dt) : Option Dt := match tyD x with
  | some n => (kitB n T).map Dt.bl
  | none => none
theorem ty_V {K : PySem.W.Frag} {ft : List Addr} {F H : Hp} {s : Sto} {v : V} {x : Dt} {n : String} (b : Bs K ft F H s) (r : RepB K ft F H v x) (h : tyD x = some n) : TyX K H v (.type n) := by
  cases x <;> simp only [tyD] at h <;> cases h
  · obtain rfl := r.non; exact .base .non
  · obtain rfl := r.bl; exact .base (.bl _)
  · obtain rfl := r.int; exact .base (.int _)
  · obtain rfl := r.str; exact .base (.str _)
  · rcases r with r | ⟨_, _, _, _, r, _⟩
    · cases r with
      | tup t1 _ _ =>
        rcases t1 with (t1 | ⟨o, t1⟩) | ⟨o, its, m, t1, t2, _⟩
        · exact .base (.tup (b.sub _ _ t1))
        · exact .fTuple (b.sub _ _ t1)
        · exact .kTuple t1 t2
    · cases r
  · obtain ⟨a, vs, rfl, e, _⟩ := r.lst b
    exact .base (.lst e)
  · obtain ⟨a, vs, rfl, e, _⟩ := r.dct b
    rcases e with e | ⟨o, e⟩
    · exact .base (.dK e)
    · exact .fDict e
theorem d_isi {X : Cx} {O : List Nat} {a : Expr} {fa : Fe} {T : String} {x tn : Str} {p p2 pos : Pos} (hg : Gl X x) (hm : X.mg x = none) (hv : bootBuiltins x = some (.builtin "isinstance")) (hg2 : Gl X tn) (hm2 : X.mg tn = none) (hv2 : bootBuiltins tn = some (.type T)) (ha : PE X a (tB X.K O fa))
    (hn : x ≠ "__name__" := by decide) (hdb : (x == ("__debug__" : Str)) = false := by decide) (hn2 : tn ≠ "__name__" := by decide) (hdb2 : (tn == ("__debug__" : Str)) = false := by decide)
    (he : starEach [a, .Name tn p2] X.env = (false, eval a X.env) :: starEach [.Name tn p2] X.env := by rfl) (he2 : starEach [.Name tn p2] X.env = (false, eval (.Name tn p2) X.env) :: starEach [] X.env := by rfl)
    (hpl : (backTo pos (starEach [.Name tn p2] X.env)).any (·.1) = false := by rfl) : PE X (.Call (.Name x p) [a, .Name tn p2] [] pos) (tD X.K O (bind1 fa (isiG T))) :=
  pe_imp (pe_callB call_isi hg hm hv (pa_cons ha (pa_cons (pe_bltn (v := .ty T) hg2 hm2 hv2 rfl hn2 hdb2) pa_nil he2) he) hn hdb he hpl) fun σ H Q ⟨g, F, env, s, d, s', st, hf, k⟩ => by
    obtain ⟨y, q1, q2⟩ := bind1_some hf
    unfold isiG at q2
    split at q2
    · rename_i n q3
      cases q4 : kitB n T with
      | none => rw [q4] at q2; cases q2
      | some bb =>
        rw [q4] at q2
        cases q2
        exact ⟨g, F, env, s, y, s', st, q1, fun v F1 H1 x1 b1 r1 => ⟨v, .ty T, .type n, .type T, bb, rfl, .ty T, ty_V b1 r1 q3, kit_ty q4, k _ F1 H1 x1 b1 (.bl _)⟩⟩
    · cases q2
end DL

namespace DL
open PySem PySem.Spec PyProof.Rows L2

def leS (a b : Str) : Prop := ¬ b.cps.toList < a.cps.toList
instance (a b : Str) : Decidable (leS a b) := inferInstanceAs (Decidable (¬ _))
theorem leS_trans {a b c : Str} (h : leS a b) (h' : leS b c) : leS a c := List.le_trans h h'
theorem leS_total (a b : Str) : leS a b ∨ leS b a := List.le_total a.cps.toList b.cps.toList
theorem leS_anti {a b : Str} (h : leS a b) (h' : leS b a) : a = b := by
  have e : a.cps.toList = b.cps.toList := List.le_antisymm h h'
  obtain ⟨⟨a⟩⟩ := a
  obtain ⟨⟨b⟩⟩ := b
  have e' : a = b := e
  rw [e']
def insK {α : Type} (k : α → Str) (x : α) : List α → List α
  | [] => [x]
  | y :: r => if leS (k x) (k y) then x :: y :: r else y :: insK k x r
def sortK {α : Type} (k : α → Str) : List α → List α
  | [] => []
  | x :: r => insK k x (sortK k r)
section
variable {α : Type} {k : α → Str}
theorem insK_perm (x : α) : ∀ l : List α, (insK k x l).Perm (x :: l)
  | [] => .refl _
  | y :: r => by
    unfold insK
    split
    · exact .refl _
    · exact ((insK_perm x r).cons y).trans (List.Perm.swap x y r)
theorem sortK_perm : ∀ l : List α, (sortK k l).Perm l
  | [] => .refl _
  | x :: r => (insK_perm x _).trans ((sortK_perm r).cons x)
theorem insK_sorted (x : α) : ∀ l : List α, l.Pairwise (fun a b => leS (k a) (k b)) → (insK k x l).Pairwise (fun a b => leS (k a) (k b))
  | [], _ => List.pairwise_singleton _ _
  | y :: r, h => by
    obtain ⟨h1, h2⟩ := List.pairwise_cons.mp h
    unfold insK
    split
    · rename_i c
      exact List.pairwise_cons.mpr ⟨fun b hb => (List.mem_cons.mp hb).elim (fun e => e ▸ c) fun e => leS_trans c (h1 b e), h⟩
    · rename_i c
      have c' : leS (k y) (k x) := (leS_total (k x) (k y)).elim (fun z => absurd z c) fun z => z
      refine List.pairwise_cons.mpr ⟨fun b hb => ?_, insK_sorted x r h2⟩
      rcases List.mem_cons.mp ((insK_perm x r).mem_iff.mp hb) with e | e
      · subst e; exact c'
      · exact h1 b e
theorem sortK_sorted : ∀ l : List α, (sortK k l).Pairwise (fun a b => leS (k a) (k b))
  | [] => .nil
  | x :: r => insK_sorted x _ (sortK_sorted r)
theorem sorted_uniq : ∀ {xs ys : List α}, xs.Perm ys → xs.Pairwise (fun a b => leS (k a) (k b)) → ys.Pairwise (fun a b => leS (k a) (k b)) → (∀ a b, a ∈ xs → b ∈ xs → k a = k b → a = b) → xs = ys
  | [], ys, p, _, _, _ => (List.Perm.nil_eq p)
  | x :: xs, [], p, _, _, _ => absurd p.length_eq (by simp)
  | x :: xs, y :: ys, p, h1, h2, hi => by
    obtain ⟨a1, a2⟩ := List.pairwise_cons.mp h1
    obtain ⟨b1, b2⟩ := List.pairwise_cons.mp h2
    have hy : y ∈ x :: xs := p.mem_iff.mpr List.mem_cons_self
    have hx : x ∈ y :: ys := p.mem_iff.mp List.mem_cons_self
    have e : x = y := by
      rcases List.mem_cons.mp hy with e | hy'
      · exact e.symm
      · rcases List.mem_cons.mp hx with e | hx'
        · exact e
        · exact hi x y List.mem_cons_self hy (leS_anti (a1 y hy') (b1 x hx'))
    subst e
    rw [sorted_uniq (List.Perm.cons_inv p) a2 b2 fun a b ha hb => hi a b (List.mem_cons_of_mem _ ha) (List.mem_cons_of_mem _ hb)]
theorem sortK_eq {xs ys : List α} (p : ys.Perm xs) (h : ys.Pairwise (fun a b => leS (k a) (k b))) (hi : ∀ a b, a ∈ xs → b ∈ xs → k a = k b → a = b) : ys = sortK k xs :=
  sorted_uniq (p.trans (sortK_perm xs).symm) h (sortK_sorted xs) fun a b ha hb => hi a b (p.mem_iff.mp ha) (p.mem_iff.mp hb)
theorem sortK_map {β : Type} {f : β → α} (l : List β) : (sortK (fun b => k (f b)) l).map f = sortK k (l.map f) := by
  have ins : ∀ (x : β) (l : List β), (insK (fun b => k (f b)) x l).map f = insK k (f x) (l.map f) := by
    intro x l
    induction l with
    | nil => rfl
    | cons y r ih =>
      unfold insK
      rw [List.map_cons]
      dsimp only
      split
      · rfl
      · rw [List.map_cons, ih]
  induction l with
  | nil => rfl
  | cons x r ih =>
    show (insK _ x (sortK _ r)).map f = insK k (f x) (sortK k (r.map f))
    rw [ins, ih]
end
def sortS (xs : List Str) : List Str := sortK (fun x => x) xs
theorem risingS_pw : ∀ (l : List Str) (p : Str), risingS p l = true → (p :: l).Pairwise leS
  | [], p, _ => List.pairwise_singleton _ _
  | x :: r, p, h => by
    unfold risingS at h
    rw [Bool.and_eq_true] at h
    have ih := risingS_pw r x h.2
    have hp : leS p x := by
      have z := h.1
      rw [Bool.not_eq_true', ltCps_eq] at z
      exact of_decide_eq_false z
    refine List.pairwise_cons.mpr ⟨fun b hb => ?_, ih⟩
    rcases List.mem_cons.mp hb with e | e
    · subst e; exact hp
    · exact leS_trans hp ((List.pairwise_cons.mp ih).1 b e)
theorem sortedS_pw {l : List Str} (h : sortedS l = true) : l.Pairwise leS := by
  cases l with
  | nil => exact .nil
  | cons x r => exact risingS_pw r x h
def rSortedTA (K : PySem.W.Frag) : List V → Hp → VK → Prop := fun vs H Q => ∃ (a : Addr) (xs : List Str), vs = [V.ref a] ∧ SqL K H a (xs.map V.str) ∧
  ∀ (ys : List Str) (p : Addr), ys.Perm xs → sortedS ys = true → H p = none → Q (.ref p) (upd H p (.lst (ys.map V.str)))
def rSortedIA (K : PySem.W.Frag) : List V → Hp → VK → Prop := fun vs H Q => ∃ (a : Addr) (xs : List Int), vs = [V.ref a] ∧ SqL K H a (xs.map V.int) ∧
  ∀ (ys : List Int) (p : Addr), ys.Perm xs → ys.Pairwise (· ≤ ·) → H p = none → Q (.ref p) (upd H p (.lst (ys.map V.int)))
theorem cr_sortedTA {X : Cx} : CallR X (.builtin "sorted") (rSortedTA X.K) := by
  intro pins s σ H vs us Q I r h
  obtain ⟨a, xs, rfl, hs, q⟩ := h
  obtain ⟨its, rv, hl, hz⟩ := I.list hs
  rw [Vals.ref1 r]
  have hlen0 := rv.length
  refine PyProof.Rows.sorted_strsAny hl.isList rv.strs (by rw [← hlen0]; exact hz) fun out ys h1 h2 h3 => ?_
  obtain ⟨ep, he'⟩ := PyProof.Rows.sortedAll_at s.heap its out
  have hlen : (ys.map V.str).length ≤ sizeLine := by rw [List.length_map, h2.length_eq]; rw [List.length_map] at hz; exact hz
  exact ⟨.ref _, upd H (s.heap.objs.size + 1) (.lst (ys.map V.str)), I.laid (t' := s.toks) (fun _ _ => PyProof.Rows.sortedAll_old) (Nat.le_succ _) ⟨hlen, out.toList, ep, vals_of_strs h1, he'⟩, rfl, q ys _ h2 h3 (I.hok.fresh (Nat.le_succ _))⟩
theorem cr_sortedIA {X : Cx} : CallR X (.builtin "sorted") (rSortedIA X.K) := by
  intro pins s σ H vs us Q I r h
  obtain ⟨a, xs, rfl, hs, q⟩ := h
  obtain ⟨its, rv, hl, hz⟩ := I.list hs
  rw [Vals.ref1 r]
  have hlen0 := rv.length
  refine PyProof.Rows.sorted_intsAny hl.isList rv.ints (by rw [← hlen0]; exact hz) fun out ys h1 h2 h3 => ?_
  obtain ⟨ep, he'⟩ := PyProof.Rows.sortedAll_at s.heap its out
  have hlen : (ys.map V.int).length ≤ sizeLine := by rw [List.length_map, h2.length_eq]; rw [List.length_map] at hz; exact hz
  exact ⟨.ref _, upd H (s.heap.objs.size + 1) (.lst (ys.map V.int)), I.laid (t' := s.toks) (fun _ _ => PyProof.Rows.sortedAll_old) (Nat.le_succ _) ⟨hlen, out.toList, ep, vals_of_ints h1, he'⟩, rfl, q ys _ h2 h3 (I.hok.fresh (Nat.le_succ _))⟩
def sortedStrG (_ : Sto) : List Dt → Option Dt
  | [.lst xs] => match strsOf xs with
    | some ys => some (.lst ((sortS ys).map .str))
    | none => none
  | _ => none
theorem cn_sortedStr {K : PySem.W.Frag} : CallN K (rSortedTA K) sortedStrG := by
  intro ft F H s vs xs z Q b rx hg k
  unfold sortedStrG at hg
  split at hg
  · split at hg
    · rename_i ys q
      cases hg
      obtain ⟨v, rfl, r⟩ := pair1 rx
      obtain ⟨a, vs, rfl, e, rs⟩ := r.lst b
      rw [strs_map q] at rs
      rw [rs.of_strs] at e
      refine ⟨a, ys, rfl, SqL.of e, fun zs p pm so np => k p _ np (.lst ?_)⟩
      have ez : zs = sortS ys := sortK_eq pm (sortedS_pw so) fun a b _ _ h => h
      rw [ez]
      exact Reps.strs _
    · cases hg
  · cases hg
def insI (x : Int) : List Int → List Int
  | [] => [x]
  | y :: r => if x ≤ y then x :: y :: r else y :: insI x r
def sortI : List Int → List Int
  | [] => []
  | x :: r => insI x (sortI r)
theorem insI_perm (x : Int) : ∀ l : List Int, (insI x l).Perm (x :: l)
  | [] => .refl _
  | y :: r => by
    unfold insI
    split
    · exact .refl _
    · exact ((insI_perm x r).cons y).trans (List.Perm.swap x y r)
theorem sortI_perm : ∀ l : List Int, (sortI l).Perm l
  | [] => .refl _
  | x :: r => (insI_perm x _).trans ((sortI_perm r).cons x)
theorem insI_sorted (x : Int) : ∀ l : List Int, l.Pairwise (· ≤ ·) → (insI x l).Pairwise (· ≤ ·)
  | [], _ => List.pairwise_singleton _ _
  | y :: r, h => by
    obtain ⟨h1, h2⟩ := List.pairwise_cons.mp h
    unfold insI
    split
    · rename_i c
      exact List.pairwise_cons.mpr ⟨fun b hb => (List.mem_cons.mp hb).elim (fun e => e ▸ c) fun e => Int.le_trans c (h1 b e), h⟩
    · rename_i c
      refine List.pairwise_cons.mpr ⟨fun b hb => ?_, insI_sorted x r h2⟩
      rcases List.mem_cons.mp ((insI_perm x r).mem_iff.mp hb) with e | e
      · subst e; omega
      · exact h1 b e
theorem sortI_sorted : ∀ l : List Int, (sortI l).Pairwise (· ≤ ·)
  | [] => .nil
  | x :: r => insI_sorted x _ (sortI_sorted r)
theorem sortI_eq {xs ys : List Int} (p : ys.Perm xs) (h : ys.Pairwise (· ≤ ·)) : ys = sortI xs :=
  List.Perm.eq_of_pairwise (fun a b _ _ h1 h2 => Int.le_antisymm h1 h2) h (sortI_sorted xs) (p.trans (sortI_perm xs).symm)
def intsOf : List Dt → Option (List Int)
  | [] => some []
  | .int x :: r => (intsOf r).map (x :: ·)
  | _ => none
theorem ints_map : ∀ {ds : List Dt} {bs : List Int}, intsOf ds = some bs → ds = bs.map Dt.int
  | [], _, h => by cases h; rfl
  | d :: r, bs, h => by
    cases d <;> simp only [intsOf] at h <;> try (cases h; done)
    rename_i b
    cases q : intsOf r with
    | none => rw [q] at h; cases h
    | some cs =>
      rw [q] at h
      cases h
      rw [ints_map q]
      rfl
def sortedIntG (_ : Sto) : List Dt → Option Dt
  | [.lst xs] => match intsOf xs with
    | some ys => some (.lst ((sortI ys).map .int))
    | none => none
  | _ => none
theorem cn_sortedInt {K : PySem.W.Frag} : CallN K (rSortedIA K) sortedIntG := by
  intro ft F H s vs xs z Q b rx hg k
  unfold sortedIntG at hg
  split at hg
  · split at hg
    · rename_i ys q
      cases hg
      obtain ⟨v, rfl, r⟩ := pair1 rx
      obtain ⟨a, vs, rfl, e, rs⟩ := r.lst b
      rw [ints_map q] at rs
      rw [rs.of_ints] at e
      refine ⟨a, ys, rfl, SqL.of e, fun zs p pm so np => k p _ np (.lst ?_)⟩
      rw [sortI_eq pm so]
      exact Reps.ints _
    · cases hg
  · cases hg

theorem perm_map_inv {α β : Type} {f : α → β} : ∀ {ys zs : List β}, ys.Perm zs → ∀ {xs : List α}, zs = xs.map f → ∃ xs' : List α, xs'.Perm xs ∧ ys = xs'.map f := by
  intro ys zs p
  induction p with
  | nil => intro xs e; cases xs with
    | nil => exact ⟨[], .refl _, rfl⟩
    | cons x xs => cases e
  | cons a p ih =>
    intro xs e
    cases xs with
    | nil => cases e
    | cons x xs =>
      cases e
      obtain ⟨xs', h1, h2⟩ := ih rfl
      exact ⟨x :: xs', h1.cons x, by rw [h2]; rfl⟩
  | swap a b l =>
    intro xs e
    match xs, e with
    | x :: y :: xs, e =>
      cases e
      exact ⟨y :: x :: xs, List.Perm.swap x y xs, rfl⟩
  | trans p1 p2 ih1 ih2 =>
    intro xs e
    obtain ⟨x1, h1, h2⟩ := ih2 e
    obtain ⟨x2, h3, h4⟩ := ih1 h2
    exact ⟨x2, h3.trans h1, h4⟩
section
variable {α : Type} (ad : α → Addr) (ky : α → Str)
@[reducible] def tabKind (es : List α) : KeyKind where
  toKeyOrd := strKind.toKeyOrd
  keyOf := fun v => match v with
    | .ref a => (es.find? fun e => decide (ad e = a)).map fun e => (ky e).cps.toList
    | _ => none
  dflt := []
variable {ad ky}
theorem tab_some {es : List α} {v : Value} {c : List Nat} (h : (tabKind ad ky es).keyOf v = some c) : ∃ e, e ∈ es ∧ v = .ref (ad e) ∧ c = (ky e).cps.toList := by
  cases v with
  | ref a =>
    have h' : (es.find? fun e => decide (ad e = a)).map (fun e => (ky e).cps.toList) = some c := h
    cases q : es.find? fun e => decide (ad e = a) with
    | none => rw [q] at h'; cases h'
    | some e =>
      rw [q] at h'
      cases h'
      have m := List.mem_of_find?_eq_some q
      have p := List.find?_some q
      have p' : ad e = a := of_decide_eq_true p
      subst p'
      exact ⟨e, m, rfl, rfl⟩
  | _ => exact nomatch (show (none : Option (List Nat)) = some c from h)
theorem tab_has {es : List α} {e : α} (h : e ∈ es) : ∃ c, (tabKind ad ky es).keyOf (.ref (ad e)) = some c := by
  show ∃ c, (es.find? fun e' => decide (ad e' = ad e)).map (fun e => (ky e).cps.toList) = some c
  cases q : es.find? fun e' => decide (ad e' = ad e) with
  | none =>
    have := List.find?_eq_none.mp q e h
    simp at this
  | some e' => exact ⟨_, rfl⟩
def rSortP (K : PySem.W.Frag) : List V → Hp → VK → Prop := fun vs H Q => ∃ (α : Type) (es : List α) (ad : α → Addr) (ky : α → Str) (sv : α → V) (a : Addr), vs = [V.ref a] ∧ SqL K H a (es.map fun e => V.ref (ad e)) ∧ (∀ e, e ∈ es → SqT K H (ad e) [.str (ky e), sv e]) ∧
  (∀ e e', e ∈ es → e' ∈ es → ky e = ky e' → e = e') ∧ ∀ (es' : List α) (p : Addr), es'.Perm es → es'.Pairwise (fun x y => leS (ky x) (ky y)) → H p = none → Q (.ref p) (upd H p (.lst (es'.map fun e => V.ref (ad e))))
theorem kat_same {prog : Program} {w : World} {A : Around} {s : Shared} {b fin : Bool} {Q : Bool → Shared → Prop} (hv : ∀ v : Value, (v == v) = true) (h : Q fin s) : ∀ (l : List Value) (i : Nat), PySem.W.KatLex prog w A b fin Q (l.zip l) i s
  | [], i => h
  | v :: l, i => PySem.W.kat_cons (by
    unfold eqBool
    rw [if_pos (hv v)]
    exact wpAny_holding (wpAny_bind (wpAny_rule (wpAny_pure (PySem.W.kat_yes (kat_same hv h l (i + 1)))))))
end
end DL

namespace DL
open PySem PySem.Spec PyProof.Rows L2
section
variable {X : Cx} {O : List Nat} {a b e : Expr} {fa fb f f1 f2 : Fe} {pos : Pos} {L O' : List Nat}
theorem pe_or {t t' : TE} (h : PE X e t) (h' : PE X e t') : PE X e (fun σ H Q => t σ H Q ∨ t' σ H Q) := ⟨fun pins s σ H Q I q => q.elim (h.run pins s σ H Q I) (h'.run pins s σ H Q I)⟩
theorem pt_or {t t' : TT} (h : PT X e t) (h' : PT X e t') : PT X e (fun σ H Q => t σ H Q ∨ t' σ H Q) := ⟨fun pins s σ H Q I q => q.elim (h.run pins s σ H Q I) (h'.run pins s σ H Q I)⟩
theorem d_two (h1 : PE X e (tD X.K O f1)) (h2 : PE X e (tD X.K O f2)) (hk : ∀ env s r, f env s = some r → f1 env s = some r ∨ f2 env s = some r) : PE X e (tD X.K O f) := pe_imp (pe_or h1 h2) fun σ H Q ⟨g, F, env, s, d, s', st, hf, k⟩ =>
  (hk _ _ _ hf).elim (fun q => .inl ⟨g, F, env, s, d, s', st, q, k⟩) fun q => .inr ⟨g, F, env, s, d, s', st, q, k⟩
theorem t_two {t1 t2 t : Ft} (h1 : PT X e (tT X.K O t1)) (h2 : PT X e (tT X.K O t2)) (hk : ∀ env s r, t env s = some r → t1 env s = some r ∨ t2 env s = some r) : PT X e (tT X.K O t) := pt_imp (pt_or h1 h2) fun σ H Q ⟨g, F, env, s, d, s', st, hf, k⟩ =>
  (hk _ _ _ hf).elim (fun q => .inl ⟨g, F, env, s, d, s', st, q, k⟩) fun q => .inr ⟨g, F, env, s, d, s', st, q, k⟩
theorem bind2_two {g g1 g2 : Sto → Dt → Dt → Option Dt} (h : ∀ s x y z, g s x y = some z → g1 s x y = some z ∨ g2 s x y = some z) (env : Env) (s : Sto) (r : Dt × Sto) (hf : bind2 fa fb g env s = some r) : bind2 fa fb g1 env s = some r ∨ bind2 fa fb g2 env s = some r := by
  obtain ⟨d, s'⟩ := r
  obtain ⟨x, s1, y, q1, q2, q3⟩ := bind2_some hf
  unfold bind2
  rw [q1]
  simp only [Option.bind_eq_bind, Option.bind_some, q2]
  rcases h _ _ _ _ q3 with z | z
  · left; rw [z]; rfl
  · right; rw [z]; rfl
theorem catG_lst (s : Sto) (x y z : Dt) (h : catG s x y = some z) : ∃ xs, z = .lst xs := by
  unfold catG at h
  split at h
  · split at h <;> cases h
    exact ⟨_, rfl⟩
  · cases h
def addAll (s : Sto) (x y : Dt) : Option Dt := match x, y with
  | .lst a, .lst b => catG s (.lst a) (.lst b)
  | x, y => addG s x y
theorem opd_addAll {K : PySem.W.Frag} : OpD K (fun x y H Q => rAddA K x y H Q ∨ rCat x y H Q) addAll := by
  intro ft F H s v w x y z Q b rx ry hg k
  unfold addAll at hg
  split at hg
  · exact .inr (opn_cat.d catG_lst ft F H s v w _ _ z Q b rx ry hg k)
  · exact .inl (opd_add ft F H s v w _ _ z Q b rx ry hg k)
theorem d_addA (ha : PE X a (tB X.K O fa)) (hb : PE X b (tB X.K O fb)) : PE X (.BinOp a .Add b pos) (tD X.K O (bind2 fa fb addAll)) := d_bin (OpR.or op_addA op_cat) opd_addAll ha hb
def ixA (s : Sto) (x y : Dt) : Option Dt := match dctOf s x with
  | some _ => dgetG s x y
  | none => ixG s x y
theorem d_ixA {i : Expr} (hu : X.A.units + 1 < cLine) (ha : PE X a (tB X.K O fa)) (hb : PE X i (tB X.K O fb)) (hs : PlainIx i := by intro _ _; rfl) (hs2 : NoSl i := by intro _ _; rfl) : PE X (.Subscript a i pos) (tD X.K O (bind2 fa fb ixA)) :=
  d_two (d_ix ha hb hs) (d_dget hu ha hb hs2) (bind2_two fun s x y z h => by
    unfold ixA at h
    split at h
    · exact .inr h
    · exact .inl h)
def inA (s : Sto) (y x : Dt) : Option Dt := match dctOf s x with
  | some _ => dinG s y x
  | none => inG s y x
def notinA (s : Sto) (y x : Dt) : Option Dt := match dctOf s x with
  | some _ => dnotinG s y x
  | none => notInG s y x
theorem asB_two {f : Fe} (h : ∀ env s r, f env s = some r → f1 env s = some r ∨ f2 env s = some r) (env : Env) (s : Sto) (r : Bool × Sto) (hf : asB f env s = some r) : asB f1 env s = some r ∨ asB f2 env s = some r := by
  obtain ⟨b, s'⟩ := r
  have q := asB_some hf
  unfold asB
  rcases h _ _ _ q with z | z
  · left; rw [z]
  · right; rw [z]
theorem t_inA (hu : X.A.units + 1 < cLine) (ha : PE X a (tB X.K O fa)) (hb : PE X b (tB X.K O fb)) (hm : behindInMarks .In b = false := by rfl) : PT X (.Compare a [.In] [b] pos) (tT X.K O (asB (bind2 fa fb inA))) :=
  t_two (t_in ha hb hm) (t_din hu ha hb hm) (asB_two (bind2_two fun s x y z h => by
    unfold inA at h
    split at h
    · exact .inr h
    · exact .inl h))
theorem t_notinA (hu : X.A.units + 1 < cLine) (ha : PE X a (tB X.K O fa)) (hb : PE X b (tB X.K O fb)) (hm : behindInMarks .NotIn b = false := by rfl) : PT X (.Compare a [.NotIn] [b] pos) (tT X.K O (asB (bind2 fa fb notinA))) :=
  t_two (t_notIn ha hb hm) (t_dnotin hu ha hb hm) (asB_two (bind2_two fun s x y z h => by
    unfold notinA at h
    split at h
    · exact .inr h
    · exact .inl h))
theorem d_inA (hu : X.A.units + 1 < cLine) (ha : PE X a (tB X.K O fa)) (hb : PE X b (tB X.K O fb)) (hm : behindInMarks .In b = false := by rfl) : PE X (.Compare a [.In] [b] pos) (tD X.K O (bind2 fa fb inA)) :=
  d_two (d_in ha hb hm) (d_din hu ha hb hm) (bind2_two fun s x y z h => by
    unfold inA at h
    split at h
    · exact .inr h
    · exact .inl h)
theorem lcF_lst {fi : Fi} {st : Tg} {tt : Ft} {te : Fe} {vs : List Nat} (env : Env) (s : Sto) (d : Dt) (s' : Sto) (h : lcF fi st tt te vs env s = some (d, s')) : ∃ xs, d = .lst xs := by
  unfold lcF at h
  split at h
  · split at h
    · split at h <;> cases h
      exact ⟨_, rfl⟩
    · cases h
  · cases h
theorem lc2F_lst {fi : Fi} {st : Tg} {fi1 : Fi} {st1 : Tg} {tt1 : Ft} {te : Fe} {vs vs1 : List Nat} (env : Env) (s : Sto) (d : Dt) (s' : Sto) (h : lc2F fi st fi1 st1 tt1 te vs vs1 env s = some (d, s')) : ∃ xs, d = .lst xs := by
  unfold lc2F at h
  split at h
  · split at h
    · split at h <;> cases h
      exact ⟨_, rfl⟩
    · cases h
  · cases h
theorem dn_imp {K : PySem.W.Frag} (hz : ∀ env s d s', f env s = some (d, s') → ∃ xs, d = .lst xs) (σ : L2.St) (H : Hp) (Q : VK) (h : tD K O f σ H Q) : tN K O f σ H Q := by
  obtain ⟨g, F, env, s, d, s', st, hf, k⟩ := h
  exact ⟨g, F, env, s, d, s', st, hf, fun p o F' H' x b n n' e r => by
    obtain ⟨x1, b1⟩ := x.frost b n n' e (st.bs.nofree n)
    obtain ⟨xs, rfl⟩ := hz _ _ _ _ hf
    cases r with
    | lst r => exact k (.ref p) _ H' x1 b1 (ObR.rep (.lst r) n')⟩
theorem a_d_of_n {tg : Expr} {gg : TG} (h : PS X (.Assign [tg] e pos) (tAsg (tN X.K O f) gg)) (hz : ∀ env s d s', f env s = some (d, s') → ∃ xs, d = .lst xs := by first | exact lcF_lst | exact lc2F_lst) : PS X (.Assign [tg] e pos) (tAsg (tD X.K O f) gg) := asg_imp h fun σ H Q q => dn_imp hz σ H Q q
end
section
variable {X : Cx} {O : List Nat} {elt tg iter tg1 iter1 : Expr} {ifs ifs1 : List Expr} {scope : Scope} {own : List (Str × Nat)} {pos spos py : Pos} {fi fi1 : Fi} {tt tt1 : Ft} {te : Fe} {y : Str}
theorem a_lc {z i : Nat} (hc : X.calm = true) (hN : X.N.Nodup) (hy : X.N[z]? = some y) (hyl : X.env.scope.names.lookup y = some .local) (hsw : swapsWith (.ListComp elt [⟨tg, iter, ifs, 0⟩] scope pos) (some (.Name y py)) spos.line X.env = pure true) (hi : PI X tg iter (tI X.K O fi)) (ok : BlkOk X.N X.env.scope scope own)
    (hg : ∀ (s : Shared) (H : Hp) (C : Addr) (cl : List (Str × Addr)) (fp : List Addr), PG (X.blk s H scope (compEnvC scope cl C X.env) fp) tg (gName i))
    (ht : ∀ (s : Shared) (H : Hp) (C : Addr) (cl : List (Str × Addr)) (fp : List Addr), PTs (X.blk s H scope (compEnvC scope cl C X.env) fp) ifs (tT X.K O tt))
    (he : ∀ (s : Shared) (H : Hp) (C : Addr) (cl : List (Str × Addr)) (fp : List Addr), PE (X.blk s H scope (compEnvC scope cl C X.env) fp) elt (tD X.K O te))
    (hv : ∀ j, j ∈ own.map (·.2) → j ∉ O := by decide) (hm : i ∈ own.map (·.2) := by decide) (hs : ∀ x, foldedSetIterable iter X.env x = pure x := by intro _; rfl) :
    PS X (.Assign [.Name y py] (.ListComp elt [⟨tg, iter, ifs, 0⟩] scope pos) spos) (tAsg (tN X.K O (lcF fi (tgN i) tt te (own.map (·.2)))) (gName z)) :=
  asg_imp (ps_setLc hc hN hy hyl hsw hi ok hg ht he hs) fun σ H Q q => lc_n hv (nameT (hv i hm)) (fun v σ H Q h => ⟨wipe_set _ _ hm (wipe_wipe _ _), h⟩) (fun _ _ _ h => h) σ H Q q
end
def AL (n : Nat) (fa : Fa) : Prop := ∀ env s ds s', fa env s = some (ds, s') → ds.length = n
theorem al_nil : AL 0 aNil := fun env s ds s' h => by cases h; rfl
theorem al_cons {n : Nat} {f : Fe} {r : Fa} (h : AL n r) : AL (n + 1) (aCons f r) := fun env s ds s' q => by
  obtain ⟨x, s1, xs, q1, q2, rfl⟩ := aCons_some q
  rw [List.length_cons, h _ _ _ _ q2]
structure Cg (P : Program) (w : World) (K : PySem.W.Frag) (mg : Str → Option Value) (base : Heap) (k : Nat) (x : Str) (st : Stmt) (ps : List Str) (Fn : List Dt → Sto → Option (Dt × Sto)) : Prop where
  ex : ∃ f fd, L2.Fun K x x st f fd ∧ FnG P w K mg base k f fd ps (spF K ps.length Fn) ∧ mg x = some (.ref f) ∧ Binds K fd ps []
section
variable {X : Cx} {O : List Nat} {j k : Nat} {ps : List Str} {x : Str} {st : Stmt} {p pos : Pos} {e : Expr} {es : List Expr} {fa : Fa} {Fn : List Dt → Sto → Option (Dt × Sto)}
theorem d_cg (C : Cg X.prog X.w X.K X.mg X.base k x st ps Fn) (hr : Room j X.A) (hk : k ≤ j) (hgd : X.A.guards = some []) (hg : Gl X x) (ha : PA X (e :: es) (tAD X.K O fa)) (hal : AL (es.length + 1) fa) (hn : ps.length = es.length + 1 := by rfl)
    (hdb : (x == ("__debug__" : Str)) = false := by decide) (he : starEach (e :: es) X.env = (false, eval e X.env) :: starEach es X.env := by rfl)
    (hpl : (backTo pos (starEach es X.env)).any (·.1) = false := by rfl) : PE X (.Call (.Name x p) (e :: es) [] pos) (tD X.K O (callF Fn fa)) := by
  obtain ⟨f, fd, F, G, m, b⟩ := C.ex
  exact d_call G (hr.mono hk) hgd hg m F.kp b ha hn hal hdb he hpl
end
end DL

namespace DL
open PySem PySem.Spec PyProof.Rows L2
section
variable {X : Cx} {O : List Nat} {j k : Nat} {ps ks : List Str} {x : Str} {st : Stmt} {p pos : Pos} {kws : List Keyword} {fk : Fa} {Fn : List Dt → Sto → Option (Dt × Sto)}
end
theorem call_tupA {X : Cx} : CallR X (.type "tuple") (rTupF X.K) := call_tupF
end DL

namespace DL
open PySem PySem.Spec PyProof.Rows L2
theorem beq_val (v : Value) : (v == v) = true := beq_self_eq_true v
theorem call_sortP {X : Cx} : CallR X (.builtin "sorted") (rSortP X.K) := by
  intro pins s σ H vs us Q I r ⟨α, es, ad, ky, sv, a, ex, hs, ht, hi, q⟩
  subst ex
  obtain ⟨its, rv, hl, hz⟩ := I.list hs
  rw [Vals.ref1 r]
  have ei : its = es.map fun e => Value.ref (ad e) := by
    have z : ∀ (l : List α) (us : List Value), Vals (l.map fun e => V.ref (ad e)) us → us = l.map fun e => Value.ref (ad e) := by
      intro l
      induction l with
      | nil => intro us h; cases h; rfl
      | cons e l ih =>
        intro us h
        cases h with
        | cons h1 h2 => cases h1; rw [ih _ h2]; rfl
    exact z es its rv
  subst ei
  rw [List.length_map] at hz
  -- each tuple as it stands
  have hT : ∀ e, e ∈ es → ∃ (o : Obj) (t : Tok) (u : Value) (n : Nat), s.heap.get? (ad e) = some o ∧ o.cls = .type "tuple" ∧ o.data = .seq #[.str (ky e) t, u] n := fun e he => by
    obtain ⟨jts, rj, ⟨o, ho, hc, n, hd⟩, _⟩ := I.tuple (ht e he)
    cases rj with
    | cons r1 r2 =>
      cases r2 with
      | cons r3 r4 =>
        cases r4
        obtain ⟨t, rfl⟩ := r1
        exact ⟨o, t, _, n, ho, hc, hd⟩
  have same : ∀ e e', e ∈ es → e' ∈ es → ad e = ad e' → ky e = ky e' := fun e e' he he' z => by
    obtain ⟨o, t, u, n, h1, _, h3⟩ := hT e he
    obtain ⟨o', t', u', n', h1', _, h3'⟩ := hT e' he'
    rw [z, h1'] at h1
    cases h1
    rw [h3'] at h3
    injection h3 with h3 h4
    have h5 := congrArg Array.toList h3
    injection h5 with h6 h7
    injection h6 with h8 h9
    exact h8.symm
  refine PyProof.Rows.G.sortedG (κ := tabKind ad ky es) (kd := tuples' true) (vs := es.map fun e => Value.ref (ad e)) hl.isList (fun p hp => ?_) (fun s2 kt A E x y ca cb R hx hy hq => ?_) (fun h2 A E s2 R kt hq => ?_) (by rw [List.length_map]; exact hz) (fun st' h1 h2 h3 => ?_)
  · rw [pairsOf_toList] at hp
    have z := (mem_zip_self hp).2
    obtain ⟨e, he, e1⟩ := List.mem_map.mp z
    rw [← e1]
    exact tab_has he
  · obtain ⟨e1, m1, rfl, rfl⟩ := tab_some hx
    obtain ⟨e2, m2, rfl, rfl⟩ := tab_some hy
    obtain ⟨o1, t1, u1, n1, g1, c1, d1⟩ := hT e1 m1
    obtain ⟨o2, t2, u2, n2, g2, c2, d2⟩ := hT e2 m2
    refine PySem.W.kat_lt (kt _ _ g1 c1) d1 (kt _ _ g2 c2) d2 ?_
    by_cases ek : ky e1 = ky e2
    · have ee := hi e1 e2 m1 m2 ek
      subst ee
      rw [g1] at g2; cases g2
      rw [d1] at d2
      injection d2 with d2 _
      rw [← d2]
      have z : decide ((#[Value.str (ky e1) t1, u1] : Array Value).size < (#[Value.str (ky e1) t1, u1] : Array Value).size) = false := decide_eq_false (Nat.lt_irrefl _)
      rw [z]
      refine kat_same beq_val ?_ _ 0
      have z2 : (tabKind ad ky es).blt (ky e1).cps.toList (ky e1).cps.toList = false := (tabKind ad ky es).irrefl _
      rw [z2] at hq
      exact hq
    · refine PySem.W.kat_cons (wpAny_eqBool_str ?_)
      rw [decide_eq_false ek]
      exact PySem.W.kat_no (oneLt_any_str hq)
  · have hne : 0 < (es.map fun e => Value.str (ky e) 0).length := by
      rw [List.length_map] at h2 ⊢
      omega
    have tt : ∀ l : List α, (∀ e, e ∈ l → e ∈ es) → ∃ fs : List Value, fs.length = l.length ∧ TupsOf s2.heap (fun _ => true) (l.map fun e => Value.ref (ad e)) fs := by
      intro l
      induction l with
      | nil => exact fun _ => ⟨[], rfl, .nil⟩
      | cons e l ih =>
        intro hm
        obtain ⟨fs, hl, tl⟩ := ih fun e' h' => hm e' (List.mem_cons_of_mem _ h')
        obtain ⟨o1, t1, u1, n1, g1, c1, d1⟩ := hT e (hm e List.mem_cons_self)
        exact ⟨.str (ky e) t1 :: fs, by rw [List.length_cons, List.length_cons, hl], .cons ⟨_, o1, _, n1, rfl, kt _ _ g1 c1, c1, d1, rfl, (fun z => by cases z), fun _ => ⟨_, _, rfl⟩⟩ tl⟩
    obtain ⟨fs, hf, tl⟩ := tt es fun _ h => h
    refine tup_kind (by rw [hf]; rw [List.length_map] at h2; omega) tl hq
  · have hp : (arrOf st').toList.Perm (es.map fun e => (Value.ref (ad e), Value.ref (ad e))) := by
      have z := h1.toList
      rw [pairsOf_toList] at z
      rw [List.zip_map', ] at z
      exact z
    obtain ⟨es', pe, ee⟩ := perm_map_inv hp rfl
    have eo : ((arrOf st').map (·.2)).toList = es'.map fun e => Value.ref (ad e) := by
      rw [Array.toList_map, ee, List.map_map]
      rfl
    obtain ⟨ep, he'⟩ := PyProof.Rows.sortedAll_at s.heap (es.map fun e => Value.ref (ad e)) ((arrOf st').map (·.2))
    have hsz : es'.length = es.length := pe.length_eq
    have asz : (arrOf st').size = es'.length := by rw [← Array.length_toList, ee, List.length_map]
    have hkk : ∀ i (h : i < es'.length), KK (tabKind ad ky es) (arrOf st') i = (ky es'[i]).cps.toList := fun i h => by
      have m : es'[i] ∈ es := pe.mem_iff.mp (List.getElem_mem h)
      have g : (arrOf st')[i]? = some (Value.ref (ad es'[i]), Value.ref (ad es'[i])) := by
        rw [← Array.getElem?_toList, ee, List.getElem?_map, List.getElem?_eq_getElem h]
        rfl
      unfold KK
      rw [g]
      obtain ⟨c, hc⟩ := tab_has (ad := ad) (ky := ky) m
      show ((tabKind ad ky es).keyOf (Value.ref (ad es'[i]))).getD _ = _
      rw [hc]
      obtain ⟨e1, m1, f1, f2⟩ := tab_some hc
      injection f1 with f1
      rw [f2, same _ _ m m1 f1]
      rfl
    have pw : es'.Pairwise (fun x y => leS (ky x) (ky y)) := by
      rw [List.pairwise_iff_getElem]
      intro i j h4 h5 h6
      have z : (tabKind ad ky es).kle (KK (tabKind ad ky es) (arrOf st') i) (KK (tabKind ad ky es) (arrOf st') j) := h2 i j (Nat.le_of_lt h6) (by rw [pairsOf_size, List.length_map]; omega)
      rw [hkk i h4, hkk j h5] at z
      exact of_decide_eq_false z
    refine ⟨.ref _, upd H (s.heap.objs.size + 1) (.lst (es'.map fun e => V.ref (ad e))), I.laid (t' := s.toks) (fun _ _ => PyProof.Rows.sortedAll_old) (Nat.le_succ _) ⟨by rw [List.length_map, hsz]; exact hz, es'.map fun e => Value.ref (ad e), ep, ?_, ?_⟩, rfl, q es' _ pe pw (I.hok.fresh (Nat.le_succ _))⟩
    · have z : ∀ l : List α, Vals (l.map fun e => V.ref (ad e)) (l.map fun e => Value.ref (ad e)) := fun l => by
        induction l with
        | nil => exact .nil
        | cons e l ih => exact .cons rfl ih
      exact z es'
    · rw [he', ← eo]
end DL

namespace DL
open PySem PySem.Spec PyProof.Rows L2
def pairsS : List Dt → Option (List (Str × Dt))
  | [] => some []
  | .tup [.str k, d] :: r => (pairsS r).map ((k, d) :: ·)
  | _ => none
theorem pairsS_map : ∀ {ds : List Dt} {ps : List (Str × Dt)}, pairsS ds = some ps → ds = ps.map fun p => .tup [.str p.1, p.2]
  | [], _, h => by cases h; rfl
  | d :: r, ps, h => by
    unfold pairsS at h
    split at h
    · rename_i e; cases e
    · rename_i k d' r' e
      cases e
      cases q : pairsS r with
      | none => rw [q] at h; cases h
      | some qs =>
        rw [q] at h
        cases h
        rw [pairsS_map q]
        rfl
    · cases h
def sortedPG (_ : Sto) : List Dt → Option Dt
  | [.lst xs] => match pairsS xs with
    | some ps => if (ps.map (·.1)).Nodup then some (.lst ((sortK (·.1) ps).map fun p => .tup [.str p.1, p.2])) else none
    | none => none
  | _ => none
theorem inj_of_nodup {α β : Type} {f : α → β} : ∀ {l : List α}, (l.map f).Nodup → ∀ a b, a ∈ l → b ∈ l → f a = f b → a = b
  | [], _, _, _, h, _, _ => absurd h List.not_mem_nil
  | x :: l, h, a, b, ha, hb, e => by
    rw [List.map_cons, List.nodup_cons] at h
    rcases List.mem_cons.mp ha with rfl | ha'
    · rcases List.mem_cons.mp hb with rfl | hb'
      · rfl
      · exact absurd (e ▸ List.mem_map.mpr ⟨b, hb', rfl⟩) h.1
    · rcases List.mem_cons.mp hb with rfl | hb'
      · exact absurd (e ▸ List.mem_map.mpr ⟨a, ha', rfl⟩) h.1
      · exact inj_of_nodup h.2 a b ha' hb' e
theorem reps_pairs {K : PySem.W.Frag} {F : Hp} : ∀ {ps : List (Str × Dt)} {vs : List V}, Reps K F vs (ps.map fun p => .tup [.str p.1, p.2]) → ∃ es : List (Addr × V × Str × Dt), vs = es.map (fun e => V.ref e.1) ∧ ps = es.map (·.2.2) ∧ ∀ e, e ∈ es → SqT K F e.1 [.str e.2.2.1, e.2.1] ∧ Rep K F e.2.1 e.2.2.2
  | [], vs, h => by cases h; exact ⟨[], rfl, rfl, fun e he => absurd he List.not_mem_nil⟩
  | p :: ps, vs, h => by
    cases h with
    | cons h1 h2 =>
      obtain ⟨es, e1, e2, e3⟩ := reps_pairs h2
      cases h1 with
      | tup g1 gp g2 =>
        cases g2 with
        | cons r1 t1 =>
          cases t1 with
          | cons r2 t2 =>
            cases t2
            cases r1
            rename_i a v
            refine ⟨(a, v, p.1, p.2) :: es, by rw [e1]; rfl, by rw [e2]; rfl, fun e he => ?_⟩
            rcases List.mem_cons.mp he with rfl | he'
            · exact ⟨g1, r2⟩
            · exact e3 e he'
theorem cn_sortedP {K : PySem.W.Frag} : CallN K (rSortP K) sortedPG := by
  intro ft F H s vs xs z Q b rx hg k
  unfold sortedPG at hg
  split at hg
  · split at hg
    · rename_i ds ps q
      split at hg <;> cases hg
      rename_i hn
      obtain ⟨v, rfl, r⟩ := pair1 rx
      obtain ⟨a, vs, rfl, e, rs⟩ := r.lst b
      rw [pairsS_map q] at rs
      obtain ⟨es, rfl, rfl, h3⟩ := reps_pairs rs
      rw [List.map_map] at hn
      have hi : ∀ e e', e ∈ es → e' ∈ es → e.2.2.1 = e'.2.2.1 → e = e' := inj_of_nodup hn
      refine ⟨_, es, fun e => e.1, fun e => e.2.2.1, fun e => e.2.1, a, rfl, SqL.of e, fun e he => sqT_same b.sub (h3 e he).1, hi, fun es' p pm so np => k p _ np (.lst ?_)⟩
      have ez : es' = sortK (fun e => e.2.2.1) es := sortK_eq pm so hi
      have e2 : sortK (fun p : Str × Dt => p.1) (es.map (·.2.2)) = es'.map (·.2.2) := by
        rw [ez]
        exact (sortK_map (k := fun p : Str × Dt => p.1) (f := fun e : Addr × V × Str × Dt => e.2.2) es).symm
      rw [e2]
      have fin : ∀ l : List (Addr × V × Str × Dt), (∀ e, e ∈ l → e ∈ es) → Reps K F (l.map fun e => V.ref e.1) ((l.map (·.2.2)).map fun p => Dt.tup [.str p.1, p.2]) := by
        intro l
        induction l with
        | nil => exact fun _ => .nil
        | cons e l ih =>
          intro hm
          obtain ⟨g1, g2⟩ := h3 e (hm e List.mem_cons_self)
          exact .cons (.tup g1 (.inr (.inr ⟨_, _, rfl, fun b z => by cases z⟩)) (.cons (.str _) (.cons g2 .nil))) (ih fun e' h' => hm e' (List.mem_cons_of_mem _ h'))
      exact fin es' fun e he => pm.mem_iff.mp he
    · cases hg
  · cases hg
def sortedG_ (s : Sto) (xs : List Dt) : Option Dt := match sortedStrG s xs with
  | some d => some d
  | none => match sortedPG s xs with
    | some d => some d
    | none => sortedIntG s xs
theorem call_sortedA {X : Cx} : CallR X (.builtin "sorted") (fun vs H Q => rSortedTA X.K vs H Q ∨ (rSortP X.K vs H Q ∨ rSortedIA X.K vs H Q)) := CallR.or cr_sortedTA (CallR.or call_sortP cr_sortedIA)
theorem cn_sortedA {K : PySem.W.Frag} : CallN K (fun vs H Q => rSortedTA K vs H Q ∨ (rSortP K vs H Q ∨ rSortedIA K vs H Q)) sortedG_ := by
  intro ft F H s vs xs z Q b rx hg k
  unfold sortedG_ at hg
  split at hg
  · rename_i d q
    cases hg
    exact .inl (cn_sortedStr ft F H s vs xs _ Q b rx q k)
  · split at hg
    · rename_i d q
      cases hg
      exact .inr (.inl (cn_sortedP ft F H s vs xs _ Q b rx q k))
    · exact .inr (.inr (cn_sortedInt ft F H s vs xs _ Q b rx hg k))
def pairD (kv : Key × Dt) : Dt := .tup [keyD kv.1, kv.2]
theorem walk_items {K : PySem.W.Frag} {ft : List Addr} {F1 : Hp} {p : Addr} {od : Obj} {kvs : List (Key × V)} {ks : List (Key × Dt)} (hp : F1 p = some (.frz od (.dK kvs))) (r : Repk K F1 kvs ks) : WalkJ K ft F1 (Iti p od kvs) (ks.map pairD) := fun F H s i e b => by
  have ep : H p = some (.frz od (.dK kvs)) := b.sub p _ (e p _ hp)
  have hl := r.length
  refine ⟨fun h => ⟨ep, by rw [List.length_map] at h; omega⟩, fun d hd => ?_⟩
  rw [List.getElem?_map] at hd
  cases q : ks[i]? with
  | none => rw [q] at hd; cases hd
  | some kd =>
    obtain ⟨k, d'⟩ := kd
    rw [q] at hd
    cases hd
    obtain ⟨v, e1, r1⟩ := Repk.get r q
    have hlt : i < kvs.length := (List.getElem?_eq_some_iff.mp e1).1
    refine ⟨⟨ep, hlt⟩, fun x H3 ⟨T, k2, v2, f1, f2, f3, f4⟩ => ?_⟩
    rw [e1] at f1; cases f1
    subst f2 f4
    obtain ⟨x1, b1⟩ := Go.lay (o := .tup [kV k, v]) b f3
    refine ⟨_, x1, b1, .tup (.inl (.inl upd_same)) (.inr (.inr ⟨_, _, rfl, fun b z => ?_⟩)) (.cons (rep_key k) (.cons (Rep.mono (e.trans x1.sam) _ _ r1) .nil))⟩
    cases k <;> cases z
def itemsI (f : Fe) : Fi := fun env s => match f env s with
  | some (.dct ks, s') => some (ks.map pairD, s')
  | _ => none
theorem i_items {X : Cx} {O : List Nat} {tg iter : Expr} {f : Fe} (h : PI X tg iter (iItems (tD X.K O f))) : PI X tg iter (tI X.K O (itemsI f)) := pi_imp h fun σ H R ⟨g, F, env, s, ds, s', st, hf, k⟩ => by
  unfold itemsI at hf
  split at hf
  · rename_i ks s1 q
    cases hf
    refine ⟨g, F, env, s, _, _, st, q, fun v F' H' x b r => ?_⟩
    cases r with
    | dct h1 h2 => exact ⟨_, _, _, rfl, b.sub _ _ h1, k _ F' H' x b (walk_items h1 h2)⟩
  · cases hf
end DL

namespace DL
open PySem PySem.Spec PyProof.Rows L2
section
variable {X : Cx} {O : List Nat} {e : Expr} {f : Fe}
theorem px_n (h : PE X e (tN X.K O f)) : PE X e (tX true X.K O f) := h
theorem px_d (h : PE X e (tD X.K O f)) : PE X e (tX false X.K O f) := h
end
end DL

namespace DL
open PySem PySem.Spec PyProof.Rows L2
theorem law_callG {P : Program} {w : World} {K : PySem.W.Frag} {gl bl : Str → Option Value} {n : Nat} {fl sc : Addr} {fd : FuncData} {pa : Str} {sp : Sp} {t : Shared} {us : List Value} {js : List Int}
    (hK : K.In t.heap) (h1 : t.heap.Ns mainGlobals gl) (h2 : t.heap.Ns builtinsNs bl) (h3 : ∀ y : Str, y ≠ "__name__" → bl y = bootBuiltins y) (h4 : t.heap.NoLimit) (h5 : t.gens = #[])
    (h6 : t.heap.get? sc = some { cls := .type "list", data := .seq us.toArray }) (h7 : IntsAre us js) (h8 : js.length ≤ sizeLine) (room : Room n callerA)
    (G : ∀ bs : Heap, K.In bs → bs.Ns mainGlobals gl → FnG P w K gl bs n fl fd [pa] sp) (hbd : ∀ (r : Shared) (u : Value), BindsTo r fd ⟨[u], []⟩ [(pa, u)])
    (want : ∀ H : Hp, L2.Only H → SqL K H sc (js.map V.int) → sp [.ref sc] H (fun v _ => v = .bl true) fun _ _ _ => False) :
    codeAny (model P w) callerA (.call (.ref fl) ⟨[.ref sc], []⟩) (fun o t' => o = .ok (.ret (.bool true)) ∧ OldK t.heap t'.heap ∧ t'.os = t.os ∧ AllBare t'.gens) t := by
  have vals := vals_ints h7
  have usl := h7.length
  have main : ∀ H : Hp, L2.Only H → SqL K H sc (js.map V.int) → HOk P w H t.heap → (∀ c, H c ≠ none → c = sc) → (H sc ≠ none → K.lookup sc = none) →
      codeAny (model P w) callerA (.call (.ref fl) ⟨[.ref sc], []⟩) (fun o t' => o = .ok (.ret (.bool true)) ∧ OldK t.heap t'.heap ∧ t'.os = t.os ∧ AllBare t'.gens) t := by
    intro H on sq ok tr kn
    have bo : ∀ {c : Addr} {ob : Obj}, t.heap.get? c = some ob → H c = none → (hidT t.heap H).get? c = some ob := fun x y => hidT_get x y
    have nd : ∀ {c : Addr} {ob : Obj} {en : Array DictEntry} {i : Nat}, t.heap.get? c = some ob → ob.data = .dict en i → H c = none := fun {c ob en i} x y => by
      cases z : H c with
      | none => rfl
      | some q =>
        have cc : c = sc := tr c (by rw [z]; simp)
        subst cc
        rw [h6] at x
        cases x
        have y' : Data.seq us.toArray _ = Data.dict en i := y
        cases y'
    have ns : ∀ {c : Addr} {m : Str → Option Value}, t.heap.Ns c m → (hidT t.heap H).Ns c m := fun {c m} ⟨ob, en, i, x, y, r⟩ => ⟨ob, en, i, bo x (nd x y), y, r⟩
    have kin : K.In (hidT t.heap H) := fun c ob x => bo (hK c ob x) (by
      cases z : H c with
      | none => rfl
      | some q =>
        have cc : c = sc := tr c (by rw [z]; simp)
        subst cc
        rw [kn (by rw [z]; simp)] at x
        cases x)
    have mo : Mod K gl (hidT t.heap H) := ⟨kin, ns h1, ⟨bl, ns h2, h3⟩, let ⟨mc, x, y⟩ := h4; ⟨mc, ns x, y⟩⟩
    have en0 : Env0 P w K gl (hidT t.heap H) callerA [] t H := ⟨rfl, mo, fun c ob x => of_hidT x, Nat.le_of_eq (hidT_size _ _), trivial, fun c x => absurd (show c ∈ ([] : List Addr) from x) (by simp), ok, .of_eq h5⟩
    refine codeAny_mono ((G _ kin (ns h1)).run callerA [] t H ⟨[.ref sc], []⟩ [.ref sc] [.ref sc] _ _ room rfl en0 (hbd t (.ref sc)) (.cons rfl .nil) (want H on sq)) fun o t' x => ?_
    match o, x with
    | .error _, x => exact x.elim
    | .ok .next, x => exact x.elim
    | .ok .brk, x => exact x.elim
    | .ok .cont, x => exact x.elim
    | .ok (.ret u), x =>
      obtain ⟨v, H', a1, a2, a3, a4, a5, a6⟩ := x
      have a6' : v = .bl true := a6
      subst a6'
      have a5' : u = Value.bool true := a5
      subst a5'
      refine ⟨rfl, OldK.of_keep fun c ob x => ?_, a1, a2⟩
      cases z : H c with
      | none => exact a3.keep c ob x z (by intro y; exact absurd (show c ∈ ([] : List Addr) from y) (by simp)) (by simp)
      | some q =>
        rcases on c with y | ⟨ob2, xs, y⟩
        · rw [z] at y; cases y
        · obtain ⟨b1, _⟩ := ok c _ y
          obtain ⟨b2, _⟩ := a4 c _ (a3.frzs c ob2 _ y)
          rw [x] at b1; cases b1
          exact b2
  cases hk : K.lookup sc with
  | some ob =>
    have x := hK sc ob hk
    rw [h6] at x
    cases x
    exact main (fun _ => none) (fun _ => .inl rfl) (.inr ⟨_, us.toArray, _, hk, rfl, rfl, rfl, by rw [List.size_toArray, usl]; exact h8, by simpa using vals⟩) (fun c q z => nomatch (show (none : Option HO) = some q from z)) (fun c z => absurd rfl z) fun z => absurd rfl z
  | none =>
    let LO : HO := .frz { cls := .type "list", data := .seq us.toArray } (.lst (js.map V.int))
    have ey : (if sc = sc then some LO else none) = some LO := if_pos rfl
    refine main (fun c => if c = sc then some LO else none) (fun c => ?_) (.inl (.inr ⟨_, ey⟩)) (fun c q z => ?_) (fun c z => ?_) fun _ => hk
    · by_cases e : c = sc
      · exact .inr ⟨_, _, if_pos e⟩
      · exact .inl (if_neg e)
    · by_cases e : c = sc
      · have z' := (if_pos e).symm.trans z
        cases z'
        subst e
        exact ⟨h6, by rw [List.length_map]; exact h8, us, _, vals, h6⟩
      · have z' := (if_neg e).symm.trans z
        cases z'
    · by_cases e : c = sc
      · exact e
      · exact absurd (if_neg e) z
theorem walk_ofG {l : PySem.W.OpenLaw} {m n : Nat} {q : Program} {lo : List Str} {XP : (Str → Option Value) → Heap → Prop} {YP : World → Heap → Prop} {d : DefRec} {K : Params → PySem.W.Frag} {sp : World → Sp} {pa : Str}
    (hm : l.most = some m) (hz : m ≤ sizeLine) (hd : d.params.defaults = []) (room : Room n callerA) (hY : ∀ (w : World) (h : Heap), YP w h → (K w.params).In h)
    (F : ∀ (w : World) (gl : Str → Option Value) (fl : Addr) (h : Heap), (K w.params).In h → h.Ns mainGlobals gl → gl d.name = some (.ref fl) →
      ∃ fd : FuncData, (∀ (r : Shared) (u : Value), BindsTo r fd ⟨[u], []⟩ [(pa, u)]) ∧ ∀ bs : Heap, (K w.params).In bs → bs.Ns mainGlobals gl → FnG l.prog w (K w.params) gl bs n fl fd [pa] (sp w))
    (want : ∀ (w : World) (H : Hp) (a : Addr) (js : List Int), js.length ≤ m → L2.Only H → SqL (K w.params) H a (js.map V.int) → sp w [.ref a] H (fun v _ => v = .bl true) fun _ _ _ => False) :
    PySem.W.WalkO q lo XP YP l.row.toRowW d [] (fun f vs => PySem.call f vs) := by
  refine Att.attach_call hm hd fun w s₀ s₁ gl bl fl o pm cd doc a vs js G Y ho hcd hc hg hob hin hln hgn => ?_
  obtain ⟨fd, hb, hF⟩ := F w gl fl _ (hY w _ Y) G.T.g hg
  exact law_callG (hY w _ Y) G.T.g G.T.b G.T.builtins G.T.nolimit hgn hob hin (Nat.le_trans hln hz) room hF hb fun H on sq => want w H a js hln on sq

def fourD (ks : List Str) (l : List Int) (x y z : Int) : Option Dt := match ks with
  | [a, b, c, d] => some (.dct [(.inr a, .lst (l.map .int)), (.inr b, .int x), (.inr c, .int y), (.inr d, .int z)])
  | [] => some (.lst [.lst (l.map .int), .int x, .int y, .int z])
  | _ => none
theorem ps_unlk {X : Cx} {st : Stmt} {t : TS} (h : PS X st t) : PS X st (fun D σ H => t ⟨fun σ' H' => D.nx σ' H' ∨ ∃ d od u, H d = none ∧ H' d = some (.frz od u) ∧ D.nx σ' (upd H' d u), D.rt, D.bk, D.ct⟩ σ H) := by
  refine ⟨fun pins s σ H D I hw => thn (h.run pins s σ H _ I hw) fun f s1 q => ?_⟩
  cases f with
  | next =>
    obtain ⟨σ', H', I2, q⟩ := q
    rcases q with q | ⟨d, od, u, hn, e, q⟩
    · exact ⟨σ', H', I2, q⟩
    exact ⟨σ', _, I2.unlock e (fun o' u' z => by have := I.base.frzs d o' u' z; rw [hn] at this; cases this), q⟩
  | brk => exact q
  | cont => exact q
  | ret v => exact q
def tShare (K : PySem.W.Frag) (f1 : Fe) (Fr : Fs) : TS := fun D σ H => ∃ (a : Addr) (js : List Int) (N : List Str) (ks : List Str) (l : List Int) (x y z : Int) (d : Dt), σ = L2.start N [.ref a] ∧ 2 ≤ N.length ∧ SqL K H a (js.map V.int) ∧ fourD ks l x y z = some d ∧
  f1 (some (.scr js) :: List.replicate (N.length - 1) none) [] = some (d, []) ∧ (∀ p, ∃ s', Fr ((some (.scr js) :: List.replicate (N.length - 1) none).set 1 (some (.ref p))) [(p, d)] = some (.rt (.bl true), s')) ∧ ∀ H', D.rt (.bl true) H'
theorem ss_share {X : Cx} {st : Stmt} {rest : List Stmt} {f1 : Fe} {Fr : Fs} {O' : List Nat} (h1 : PS X st (tAsg (tD X.K [] f1) (gName 1))) (h2 : PSs X rest (tS X.K [] [] O' Fr)) : PSs X (st :: rest) (tShare X.K f1 Fr) := pss_imp (pss_cons (ps_unlk h1) h2) fun D σ H ⟨a, js, N, ks, l, x, y, z, d, es, hN, hq, hd, hf, hr, hD⟩ => by
  let ok : HO → Bool := fun o => match o with | .frz _ (.dK _) => false | .lst (.ref _ :: _) => false | _ => true
  let F0 : Hp := fun c => if c = a then (H c).filter ok else none
  have sF : Same F0 H := fun c u e => by
    by_cases hc : c = a
    · have e' : (if c = a then (H c).filter ok else none) = some u := e
      rw [if_pos hc] at e'
      exact (Option.filter_eq_some_iff.mp e').1
    · have e' : (if c = a then (H c).filter ok else none) = some u := e
      rw [if_neg hc] at e'; cases e'
  have eF : ∀ o, H a = some o → ok o = true → F0 a = some o := fun o h1 h2 => by
    show (if a = a then (H a).filter ok else none) = some o
    rw [if_pos rfl, h1]
    exact Option.filter_eq_some_iff.mpr ⟨rfl, h2⟩
  have hq0 : SqL X.K F0 a (js.map V.int) := by
    rcases hq with (h | ⟨o, h⟩) | h
    · exact .inl (.inl (eF _ h (by cases js <;> rfl)))
    · exact .inl (.inr ⟨o, eF _ h rfl⟩)
    · exact .inr h
  have b0 : Bs X.K [] F0 H [] := ⟨sF, rfl, .nil, fun c d h => absurd h List.not_mem_nil, fun c h => absurd h List.not_mem_nil⟩
  have st0 := start_stt (N := N) b0 (.cons (.scr hq0) .nil)
  subst es
  refine ⟨⟨[], H, F0⟩, F0, _, [], d, [], st0, hf, fun v F1 H1 x1 b1 r1 => ?_⟩
  unfold fourD at hd
  split at hd
  · rename_i ka kb kc kd
    cases hd
    cases r1 with
    | @dct p od kvs _ ep rk =>
    have hpa : H p = none := by
      rcases x1.new p _ ep with z | z
      · by_cases c : p = a
        · have z' : (if p = a then (H p).filter ok else none) = some (.frz od (.dK kvs)) := z
          rw [if_pos c] at z'
          have := (Option.filter_eq_some_iff.mp z').2
          exact absurd this Bool.false_ne_true
        · have z' : (if p = a then (H p).filter ok else none) = some (.frz od (.dK kvs)) := z
          rw [if_neg c] at z'; cases z'
      · exact z
    let F2 : Hp := fun c => if c = p then none else F1 c
    have f2 : ∀ c, c ≠ p → F2 c = F1 c := fun c hc => if_neg hc
    have np : ∀ {c : Addr} {o : HO}, F1 c = some o → (∀ od u, o ≠ .frz od (.dK u)) → c ≠ p := fun {c o} e h w => by
      subst w
      rw [ep] at e; cases e
      exact h _ _ rfl
    have hcell : Repk X.K F2 kvs [(.inr ka, .lst (l.map .int)), (.inr kb, .int x), (.inr kc, .int y), (.inr kd, .int z)] := by
      cases rk with
      | cons q1 rk =>
        cases rk with
        | cons q2 rk =>
          cases rk with
          | cons q3 rk =>
            cases rk with
            | cons q4 rk =>
              cases rk
              cases q2; cases q3; cases q4
              cases q1 with
              | lst g1 g2 =>
                rw [Reps.of_ints g2] at g1
                exact .cons (.lst ((f2 _ (np g1 fun _ _ w => by cases w)).trans g1) (Reps.ints _)) (.cons (.int _) (.cons (.int _) (.cons (.int _) .nil)))
    have hscr : SqL X.K F2 a (js.map V.int) := by
      rcases hq0 with (h | ⟨o, h⟩) | h
      · have h' := x1.sam _ _ h
        exact .inl (.inl ((f2 _ (np h' fun _ _ w => by cases w)).trans h'))
      · have h' := x1.sam _ _ h
        exact .inl (.inr ⟨o, (f2 _ (np h' fun _ _ w => by cases w)).trans h'⟩)
      · exact .inr h
    have b2 : Bs X.K [p] F2 (upd H1 p (.dK kvs)) [(p, .dct [(.inr ka, .lst (l.map .int)), (.inr kb, .int x), (.inr kc, .int y), (.inr kd, .int z)])] := by
      refine ⟨fun c u e => ?_, rfl, (by simp), fun c dd h => ?_, fun c h => ?_⟩
      · by_cases hc : c = p
        · have e' : (if c = p then none else F1 c) = some u := e
          rw [if_pos hc] at e'; cases e'
        · rw [upd_ne hc]; exact b1.sub c u ((f2 c hc).symm.trans e)
      · rw [List.mem_singleton] at h
        cases h
        exact ⟨_, upd_same, .dct hcell⟩
      · rw [List.mem_singleton] at h
        exact if_pos h
    obtain ⟨s', hs'⟩ := hr p
    refine .inr ⟨p, od, .dK kvs, hpa, b1.sub _ _ ep, ⟨[p], _, F2⟩, F2, _, _, _, s', ⟨b2, ⟨?_, fun i dd _ e => ?_, fun i hi => absurd hi List.not_mem_nil, fun i j q hi => absurd hi List.not_mem_nil⟩, Go.refl⟩, hs', fun v H' F' _ _ rv => ?_⟩
    · rw [List.length_set, List.length_set]
      exact st0.sl.len
    · by_cases h1 : i = 1
      · subst h1
        rw [List.getElem?_set_self (by rw [List.length_cons, List.length_replicate]; omega)] at e
        cases e
        exact ⟨.ref p, List.getElem?_set_self (by rw [st0.sl.len, List.length_append, List.length_map, List.length_replicate]; show 1 < 1 + _; have : ([Dt.scr js] : List Dt).length = 1 := rfl; omega), .ref p⟩
      · rw [List.getElem?_set_ne (Ne.symm h1)] at e
        cases i with
        | zero =>
          cases e
          refine ⟨.ref a, ?_, .scr hscr⟩
          rw [List.getElem?_set_ne (by decide)]
          obtain ⟨v, g1, g2⟩ := st0.sl.pu 0 _ (by simp) rfl
          cases g2 with
          | scr g3 => 
            have : (L2.start N [V.ref a])[0]? = some (some (.ref a)) := rfl
            exact this
        | succ i =>
          rw [List.getElem?_cons_succ, List.getElem?_replicate] at e
          split at e <;> cases e
    · cases rv
      exact hD H'
  · cases hd
    cases r1 with
    | @lst p vs _ ep rk =>
    have hcl : ∃ q w1 w2 w3, vs = [V.ref q, w1, w2, w3] ∧ F1 q = some (.lst (l.map V.int)) ∧ w1 = .int x ∧ w2 = .int y ∧ w3 = .int z := by
      cases rk with
      | cons q1 rk =>
        cases rk with
        | cons q2 rk =>
          cases rk with
          | cons q3 rk =>
            cases rk with
            | cons q4 rk =>
              cases rk
              cases q2; cases q3; cases q4
              cases q1 with
              | lst g1 g2 =>
                rw [Reps.of_ints g2] at g1
                exact ⟨_, _, _, _, rfl, g1, rfl, rfl, rfl⟩
    obtain ⟨q, w1, w2, w3, rfl, eq, rfl, rfl, rfl⟩ := hcl
    have hpa : H p = none := by
      rcases x1.new p _ ep with zz | zz
      · by_cases c : p = a
        · have z' : (if p = a then (H p).filter ok else none) = some (.lst [V.ref q, .int x, .int y, .int z]) := zz
          rw [if_pos c] at z'
          have := (Option.filter_eq_some_iff.mp z').2
          exact absurd this Bool.false_ne_true
        · have z' : (if p = a then (H p).filter ok else none) = some (.lst [V.ref q, .int x, .int y, .int z]) := zz
          rw [if_neg c] at z'; cases z'
      · exact zz
    let F2 : Hp := fun c => if c = p then none else F1 c
    have f2 : ∀ c, c ≠ p → F2 c = F1 c := fun c hc => if_neg hc
    have np : ∀ {c : Addr} {o : HO}, F1 c = some o → (∀ u t, o ≠ .lst (.ref u :: t)) → c ≠ p := fun {c o} e h w => by
      subst w
      rw [ep] at e; cases e
      exact h _ _ rfl
    have nl : ∀ {m : List Int} (u : Addr) (t : List V), HO.lst (m.map V.int) ≠ .lst (.ref u :: t) := fun {m} u t e => by
      cases m with
      | nil => simp at e
      | cons i m => simp at e
    have hcell : Reps X.K F2 [V.ref q, .int x, .int y, .int z] [.lst (l.map .int), .int x, .int y, .int z] := .cons (.lst ((f2 _ (np eq nl)).trans eq) (Reps.ints _)) (.cons (.int _) (.cons (.int _) (.cons (.int _) .nil)))
    have hscr : SqL X.K F2 a (js.map V.int) := by
      rcases hq0 with (h | ⟨o, h⟩) | h
      · have h' := x1.sam _ _ h
        exact .inl (.inl ((f2 _ (np h' nl)).trans h'))
      · have h' := x1.sam _ _ h
        exact .inl (.inr ⟨o, (f2 _ (np h' fun _ _ w => by cases w)).trans h'⟩)
      · exact .inr h
    have b2 : Bs X.K [p] F2 H1 [(p, .lst [.lst (l.map .int), .int x, .int y, .int z])] := by
      refine ⟨fun c u e => ?_, rfl, (by simp), fun c dd h => ?_, fun c h => ?_⟩
      · by_cases hc : c = p
        · have e' : (if c = p then none else F1 c) = some u := e
          rw [if_pos hc] at e'; cases e'
        · exact b1.sub c u ((f2 c hc).symm.trans e)
      · rw [List.mem_singleton] at h
        cases h
        exact ⟨_, b1.sub _ _ ep, .lst hcell⟩
      · rw [List.mem_singleton] at h
        exact if_pos h
    obtain ⟨s', hs'⟩ := hr p
    refine .inl ⟨⟨[p], _, F2⟩, F2, _, _, _, s', ⟨b2, ⟨?_, fun i dd _ e => ?_, fun i hi => absurd hi List.not_mem_nil, fun i j q hi => absurd hi List.not_mem_nil⟩, Go.refl⟩, hs', fun v H' F' _ _ rv => ?_⟩
    · rw [List.length_set, List.length_set]
      exact st0.sl.len
    · by_cases h1 : i = 1
      · subst h1
        rw [List.getElem?_set_self (by rw [List.length_cons, List.length_replicate]; omega)] at e
        cases e
        exact ⟨.ref p, List.getElem?_set_self (by rw [st0.sl.len, List.length_append, List.length_map, List.length_replicate]; show 1 < 1 + _; have : ([Dt.scr js] : List Dt).length = 1 := rfl; omega), .ref p⟩
      · rw [List.getElem?_set_ne (Ne.symm h1)] at e
        cases i with
        | zero =>
          cases e
          refine ⟨.ref a, ?_, .scr hscr⟩
          rw [List.getElem?_set_ne (by decide)]
          obtain ⟨v, g1, g2⟩ := st0.sl.pu 0 _ (by simp) rfl
          cases g2 with
          | scr g3 => 
            have : (L2.start N [V.ref a])[0]? = some (some (.ref a)) := rfl
            exact this
        | succ i =>
          rw [List.getElem?_cons_succ, List.getElem?_replicate] at e
          split at e <;> cases e
    · cases rv
      exact hD H'
  · cases hd
def spLaw (K : PySem.W.Frag) : Sp := fun vs H Q _ => ∃ (a : Addr) (js : List Int), vs = [.ref a] ∧ SqL K H a (js.map V.int) ∧ js.length ≤ 63 ∧ ∀ H', Q (.bl true) H'
end DL

namespace DL
open PySem PySem.Spec PyProof.Rows L2
structure FnAt (K : PySem.W.Frag) (mg : Str → Option Value) (x : Str) (st : Stmt) : Prop where
  ex : ∃ f fd, L2.Fun K x x st f fd ∧ mg x = some (.ref f)
section
variable {P : Program} {w : World} {K : PySem.W.Frag} {mg : Str → Option Value} {base : Heap} {x : Str} {st : Stmt} {k : Nat} {ps : List Str} {Fn : List Dt → Sto → Option (Dt × Sto)}
theorem fn_at {h : Heap} {f : Addr} {oc : Value} {od an : Option Addr} {osl : Array (Option Value)} {kV doc pm cdv ct : Value} (KX : K.In h) (G : h.Ns mainGlobals mg) (a : PySem.W.nsIn K mainGlobals x = some (some (.ref f)))
    (l : K.lookup f = some ⟨oc, od, .func (PySem.W.fnOf x x (defArgs st) (defBody st) (defScope st) .none kV doc pm an cdv ct), osl⟩) (c : PySem.W.codeIn K cdv x = true) (kp : PySem.W.keepIn K (.ref f) = true) : FnAt K mg x st :=
  ⟨f, _, fun_mk l c kp, PySem.W.mg_of KX G a⟩
theorem cg_mk (A : FnAt K mg x st) (G : ∀ f fd, L2.Fun K x x st f fd → FnG P w K mg base k f fd ps (spF K ps.length Fn))
    (hb : ∀ (kV doc pm : Value) (an : Option Addr) (cdv ct : Value) (us : List Value), us.length = ps.length → bindArgs (PySem.W.fnOf x x (defArgs st) (defBody st) (defScope st) .none kV doc pm an cdv ct) ⟨us, []⟩ = pure (ps.zip us)) : Cg P w K mg base k x st ps Fn := by
  obtain ⟨f, fd, F, m⟩ := A.ex
  exact ⟨f, fd, F, G f fd F, m, F.binds hb⟩
theorem law_at {fl : Addr} {sp : Sp} {pa : Str} (A : FnAt K mg x st) (hm : mg x = some (.ref fl)) (hb : ∀ (kV doc pm : Value) (an : Option Addr) (cdv ct : Value) (u : Value), bindArgs (PySem.W.fnOf x x (defArgs st) (defBody st) (defScope st) .none kV doc pm an cdv ct) ⟨[u], []⟩ = pure [(pa, u)])
    (G : ∀ f fd, L2.Fun K x x st f fd → ∀ base : Heap, FnG P w K mg base k f fd [pa] sp) : ∃ fd : FuncData, (∀ (r : Shared) (u : Value), BindsTo r fd ⟨[u], []⟩ [(pa, u)]) ∧ ∀ bs : Heap, K.In bs → bs.Ns mainGlobals mg → FnG P w K mg bs k fl fd [pa] sp := by
  obtain ⟨f, fd, F, m⟩ := A.ex
  rw [hm] at m
  injection m with m
  injection m with m
  subst m
  refine ⟨fd, fun r u => ?_, fun bs _ _ => G _ _ F bs⟩
  obtain ⟨oc, od, kV, doc, pm, an, cdv, ct, osl, rfl, lk, hcd⟩ := F.ex
  exact .of_eq (hb kV doc pm an cdv ct u)
end
theorem ok_lawS {P : Program} {w : World} {K : PySem.W.Frag} {mg : Str → Option Value} {base : Heap} {x pa : Str} {st : Stmt} {f : Addr} {fd : FuncData} {N : List Str} {k : Nat} {f1 : Fe} {Fr : Fs} (F : L2.Fun K x x st f fd) (S : FnScope N [pa] (defScope st)) (hN : 2 ≤ N.length)
    (hb : ∀ X : Cx, (∃ cdv A outer s H E, X = (cxOf CX0 P w K mg base N x (defScope st) f cdv A outer s H E).nox) → Room k X.A → X.A.guards = some [] → PSs X (defBody st) (tShare K f1 Fr))
    (hL : ∀ js : List Int, js.length ≤ 63 → ∃ ks l y z u d, fourD ks l y z u = some d ∧ f1 (some (.scr js) :: List.replicate (N.length - 1) none) [] = some (d, []) ∧ ∀ p, ∃ s', Fr ((some (.scr js) :: List.replicate (N.length - 1) none).set 1 (some (.ref p))) [(p, d)] = some (.rt (.bl true), s')) :
    FnG P w K mg base (k + 1) f fd [pa] (spLaw K) := by
  refine okG F S (fun vs H Q E ⟨a, js, e, _⟩ => by rw [e]; rfl) fun cdv A outer s H vs Q E hr hg ⟨a, js, e, hq, hl, hQ⟩ => ?_
  subst e
  obtain ⟨ks, l, y, z, u, d, h1, h2, h3⟩ := hL js hl
  exact ⟨_, hb _ ⟨cdv, A, outer, s, H, E, rfl⟩ hr hg, a, js, N, ks, l, y, z, u, d, rfl, hN, hq, h1, h2, h3, hQ⟩
end DL

namespace DL
open PySem PySem.Spec PyProof.Rows L2
theorem fn_then {g : Prop} {K : PySem.W.Frag} {mg : Str → Option Value} (x : Str) (st : Stmt) {h : Heap} {f : Addr} {oc : Value} {od an : Option Addr} {osl : Array (Option Value)} {kV doc pm cdv ct : Value} (KX : K.In h) (G : h.Ns mainGlobals mg) (a : PySem.W.nsIn K mainGlobals x = some (some (.ref f)))
    (l : K.lookup f = some ⟨oc, od, .func (PySem.W.fnOf x x (defArgs st) (defBody st) (defScope st) .none kV doc pm an cdv ct), osl⟩) (c : PySem.W.codeIn K cdv x = true) (kp : PySem.W.keepIn K (.ref f) = true) (go : FnAt K mg x st → g) : g := go (fn_at KX G a l c kp)
theorem no_then {g : Prop} {K : PySem.W.Frag} {mg : Str → Option Value} (x : Str) {h : Heap} (KX : K.In h) (G : h.Ns mainGlobals mg) (a : PySem.W.nsIn K mainGlobals x = some none) (go : mg x = none → g) : g := go (PySem.W.mg_none_of KX G a)
end DL

namespace DL
open PySem PySem.Spec PyProof.Rows L2
def revZ (z : Str) : Str := ⟨z.cps.toList.reverse.toArray⟩
theorem revZ_len (z : Str) : (revZ z).length = z.length := by
  show (z.cps.toList.reverse.toArray).size = z.cps.size
  rw [List.size_toArray, List.length_reverse, Array.length_toList]
theorem sliceBy_rev (z : Str) (u : Tok) : Txt.sliceBy z none none (-1, u) = revZ z := by
  have h := step_rev_list z u
  have h2 : (List.range z.length).map (fun k => z.cps.getD (z.length - 1 - k) 0) = z.cps.toList.reverse := by
    apply List.ext_getElem
    · rw [List.length_map, List.length_range, List.length_reverse, Array.length_toList]; rfl
    · intro i h1 h2
      rw [List.length_map, List.length_range] at h1
      have h3 : z.length - 1 - i < z.cps.size := by
        have : z.length = z.cps.size := rfl
        omega
      have e : z.length = z.cps.size := rfl
      rw [List.getElem_map, List.getElem_range, List.getElem_reverse, Array.getElem_toList]
      simp only [Array.getD, h3, dif_pos, Array.length_toList]
      rfl
  rw [h2] at h
  unfold revZ
  generalize Txt.sliceBy z none none (-1, u) = y at h
  obtain ⟨y⟩ := y
  rw [← h]
def tRevS (te : TE) : TE := fun σ H Q => te σ H fun x H1 => ∃ z, x = .str z ∧ z.length ≤ sizeLine ∧ Q (.str (revZ z)) H1
section
variable {X : Cx}
theorem pe_revS {e : Expr} {te : TE} {k : Nat} {p1 p2 p3 pos : Pos} (he : PE X e te) : PE X (.Subscript e (.Slice none none (some (.UnaryOp .USub (.Constant (.int 1) k p1) p2)) p3) pos) (tRevS te) := by
  refine ⟨fun pins s σ H Q I h => ?_⟩
  refine Subscript_ (thn (he.run pins s σ H _ I h) fun v s1 ⟨x, H1, I1, r1, q1⟩ => ?_)
  obtain ⟨z, ex, hz, q⟩ := q1
  subst ex
  obtain ⟨t, rfl⟩ := r1
  have hst : PO X (some (.UnaryOp .USub (.Constant (.int 1) k p1) p2)) (tPart (tUn (rU fun i => .int (-i)) (tC (.int 1)))) := po_some (pe_un un_neg pe_int)
  refine wpAny_Slice (thn (po_none.run pins s1 σ H1 (fun o H2 => o = none ∧ H2 = H1) I1 ⟨rfl, rfl⟩) fun vl s2 ⟨l, H2, I2, pl, el, e2⟩ => ?_)
  subst el e2
  refine thn (po_none.run pins s2 σ H2 (fun o H3 => o = none ∧ H3 = H2) I2 ⟨rfl, rfl⟩) fun vu s3 ⟨u, H3, I3, pu, eu, e3⟩ => ?_
  subst eu e3
  refine thn (hst.run pins s3 σ H3 (fun o H4 => o = some (-1) ∧ H4 = H3) I3 ⟨1, rfl, -1, rfl, rfl, rfl⟩) fun vs s4 ⟨o, H4, I4, ps, eo, e4⟩ => ?_
  subst eo e4
  have I5 : Inv X pins σ H4 { s4 with heap := s4.heap.push { cls := .type "slice", data := .fields #[vl, vu, vs] } } := I4.kept (t' := s4.toks) fun b ob q => Heap.get?_push_of_some _ q
  obtain ⟨l, rfl, hl⟩ := IsPart.raw pl
  obtain ⟨u, rfl, hu⟩ := IsPart.raw pu
  obtain ⟨st, rfl, hs⟩ := IsPart.raw ps
  cases l with
  | some a => cases hl
  | none =>
  cases u with
  | some a => cases hu
  | none =>
  cases st with
  | none => cases hs
  | some a =>
  obtain ⟨i, tk⟩ := a
  cases hs
  show wpAny (model X.prog X.w) X.A (subscriptTail e (.Slice none none (some (.UnaryOp .USub (.Constant (.int 1) k p1) p2)) p3) (.str z t) (.ref s4.heap.objs.size)) (EP X pins σ Q) X.xe { s4 with heap := s4.heap.push { cls := .type "slice", data := .fields #[partValue none, partValue none, partValue (some (-1, tk))] } }
  refine tail_any (ops := [.str z t, .ref s4.heap.objs.size]) (typeIs_str _ _ _) F.slot_str_getitem.lookup ?_ (by with_unfolding_all rfl)
  refine wpAny_getItem_str_slice (l := none) (u := none) (st := some (-1, tk)) ⟨_, Heap.get?_push_size _ rfl, rfl, rfl⟩ rfl ?_
  have hrev := sliceBy_rev z tk
  have e1 : sliceMade z t none none (some (-1, tk)) = Made.str (revZ z) := by
    rw [← hrev]
    unfold sliceMade Txt.sliceBy
    have h1 : ¬ (((((some ((-1 : Int), tk)).map (·.1)).getD 1 == 1) && ((slicePicked z none none (some (-1, tk))).length == z.length)) = true) := by
      have : ((((some ((-1 : Int), tk)).map (·.1)).getD 1 == 1)) = false := rfl
      rw [this]; simp
    rw [if_neg h1, if_neg h1]
  rw [e1]
  exact ⟨by rw [revZ_len]; exact hz, .str _, H4, I5.tok _, ⟨_, rfl⟩, q⟩
variable {e : Expr} {O : List Nat} {f : Fe} {pos : Pos}
def revSG (_ : Sto) : Dt → Option Dt
  | .str z => if z.length ≤ sizeLine then some (.str (revZ z)) else none
  | _ => none
theorem d_revS {k : Nat} {p1 p2 p3 : Pos} (he : PE X e (tB X.K O f)) : PE X (.Subscript e (.Slice none none (some (.UnaryOp .USub (.Constant (.int 1) k p1) p2)) p3) pos) (tD X.K O (bind1 f revSG)) := pe_imp (pe_revS he) fun σ H Q ⟨g, F, env, s, d, s', st, hf, k⟩ => by
  obtain ⟨x, q1, q2⟩ := bind1_some hf
  refine ⟨g, F, env, s, x, s', st, q1, fun v F1 H1 x1 b1 r1 => ?_⟩
  cases x <;> simp only [revSG] at q2 <;> try (cases q2; done)
  split at q2 <;> cases q2
  exact ⟨_, r1.str, by assumption, k _ F1 H1 x1 b1 (.str _)⟩
end
end DL

namespace DL
open PySem PySem.Spec PyProof.Rows L2
theorem extend_tup (l : Addr) (items : Array Value) (n : Nat) (b : Addr) (dd : Option Addr) (ss : Array (Option Value)) (items2 : Array Value) (n2 : Nat) (hs0 : ¬(!items.isEmpty && Builtin.List.listTooLong (items.size + items2.size)) = true) (hs1 : items.size ≤ sizeLine) (hs2 : items.size + items2.size ≤ sizeLine + 1) :
    Meets (Builtin.«list.extend» ⟨[.ref l, .ref b], []⟩) (fun _ R s => s.heap.get? l = some { cls := .type "list", dict := none, data := .seq items n, slots := #[] } ∧ s.heap.get? b = some { cls := .type "tuple", dict := dd, data := .seq items2 n2, slots := ss } ∧ R (.ok (.ret Value.none)) { s with heap := s.heap.update l (Obj.mapSeq fun x => x ++ items2), toks := s.toks }) :=
  .of_wp fun prog w A R s h => by
    obtain ⟨hh, hgs, hdr, htk, hos⟩ := s
    obtain ⟨h1, h2, h3⟩ := h
    have q1 := PySem.AutoSeq1.sub_tuple_list
    have q2 := PySem.AutoSeq1.sub_tuple_tuple
    have hsz : (items ++ items2).size ≤ sizeLine + 1 := by rw [Array.size_append]; exact hs2
    wp_walk using (wpAny_updateSeq h1 rfl (hz := hs1) (_hz' := hsz)), PySem.AutoSeq1.wpAny_loadPart' h1, PySem.AutoSeq1.wpAny_loadPart' h2
    exact ⟨_, rfl, h3⟩
def rExtT (K : PySem.W.Frag) : V → List V → Hp → VK → Prop := fun x vs H Q => ∃ l b xs zs, x = .ref l ∧ vs = [.ref b] ∧ H l = some (.lst xs) ∧ SqT K H b zs ∧ xs.length + zs.length ≤ sizeLine ∧ Q .non (upd H l (.lst (xs ++ zs)))
theorem mt_extT {X : Cx} : MtM X "list.extend" (rExtT X.K) := by
  intro pins s σ H x vs v us Q I rx rv h
  obtain ⟨l, b, xs, zs, rfl, rfl, hH, hB, hz, q⟩ := h
  cases rx
  obtain ⟨u, rfl, ru⟩ := rv.one
  cases ru
  obtain ⟨z, its, n, r, hl, e⟩ := I.lstM hH
  obtain ⟨its2, r2, ht, z2⟩ := I.tuple hB
  obtain ⟨o, e2, oc, n2, od⟩ := ht
  obtain ⟨oc', dd, od', ss⟩ := o
  cases oc
  cases od
  have hl2 := r2.length
  have hsz : its.toArray.size + its2.toArray.size ≤ sizeLine := by rw [List.size_toArray, List.size_toArray]; omega
  have hlong : ¬ (!its.toArray.isEmpty && Builtin.List.listTooLong (its.toArray.size + its2.toArray.size)) = true := by
    rw [notLongL hsz, Bool.and_false]
    exact Bool.false_ne_true
  refine call_meets F.slot_list_extend ⟨_, e, rfl⟩ F.entry_list_extend (F.args_list_extend_2 _ _)
    (extend_tup l its.toArray n b dd ss its2.toArray n2 hlong (by rw [List.size_toArray]; omega) (by omega)) ⟨e, e2, ?_⟩
  refine ⟨.non, _, I.lset (its' := its ++ its2) hH e (by simp) (r.append r2) ?_, rfl, q⟩
  rw [List.length_append]
  omega
def rExtA (K : PySem.W.Frag) : V → List V → Hp → VK → Prop := fun x vs H Q => rExtend x vs H Q ∨ rExtT K x vs H Q
theorem mt_extA {X : Cx} : MtM X "list.extend" (rExtA X.K) := by
  intro pins s σ H x vs v us Q I rx rv h
  rcases h with h | h
  · exact mt_extend pins s σ H x vs v us Q I rx rv h
  · exact mt_extT pins s σ H x vs v us Q I rx rv h
def extA (i : Nat) (f : Fe) : Fs := fun env s => match f env s, lstAt env i with
  | some (.lst es, s'), some ds => if ds.length + es.length ≤ sizeLine then some (.nx (env.set i (some (.lst (ds ++ es)))), s') else none
  | some (.tup es, s'), some ds => if ds.length + es.length ≤ sizeLine then some (.nx (env.set i (some (.lst (ds ++ es)))), s') else none
  | _, _ => none
section
variable {X : Cx} {L O : List Nat} {call e : Expr} {i j : Nat} {f fk fv : Fe} {pos : Pos}
theorem s_extA (h : PE X call (tBM X.K "list" (rExtA X.K) (tVar i) (tCons (tB X.K O f) tNil))) (hi : i ∈ O := by decide) (hs : swapsWith call none pos.line X.env = pure false := by rfl) : PS X (.Expr call pos) (tS X.K L O O (extA i f)) := ps_imp (ps_expr h hs) fun D σ H ⟨g, F, env, s, out, s', st, hf, k⟩ => by
  unfold extA at hf
  split at hf
  · rename_i es s1 ds q1 q2
    split at hf <;> cases hf
    rename_i hl
    obtain ⟨p, o, d0, e1, e2, e3, r, n, nf, nh⟩ := st.sl.ow i hi
    rw [lstAt_some q2] at e2
    cases e2
    cases r with
    | lst r =>
      rename_i vs
      refine ⟨.ref p, e1, .inl ⟨rfl, vs, SqL.of e3⟩, g, F, env, s, _, _, st, q1, fun v F1 H1 x1 b1 r1 => ?_⟩
      have st1 := st.step x1 b1
      have e4 : H1 p = some (.lst vs) := x1.ext p _ e3 nf
      obtain ⟨a, us, rfl, e5, r5⟩ := r1.lst b1
      refine .inl ⟨p, a, vs, us, rfl, rfl, e4, e5, by rw [r.length, r5.length]; exact hl, ?_⟩
      exact k σ _ F1 x1.sam (st1.change hi e1 e4 (.lst ((Reps.mono x1.sam _ _ r).append r5)))
  · rename_i es s1 ds q1 q2
    split at hf <;> cases hf
    rename_i hl
    obtain ⟨p, o, d0, e1, e2, e3, r, n, nf, nh⟩ := st.sl.ow i hi
    rw [lstAt_some q2] at e2
    cases e2
    cases r with
    | lst r =>
      rename_i vs
      refine ⟨.ref p, e1, .inl ⟨rfl, vs, SqL.of e3⟩, g, F, env, s, _, _, st, q1, fun v F1 H1 x1 b1 r1 => ?_⟩
      have st1 := st.step x1 b1
      have e4 : H1 p = some (.lst vs) := x1.ext p _ e3 nf
      obtain ⟨a, us, rfl, e5, r5⟩ := r1.tup b1
      refine .inr ⟨p, a, vs, us, rfl, rfl, e4, e5, by rw [r.length, r5.length]; exact hl, ?_⟩
      exact k σ _ F1 x1.sam (st1.change hi e1 e4 (.lst ((Reps.mono x1.sam _ _ r).append r5)))
  · cases hf
end
end DL

namespace DL
open PySem PySem.Spec PyProof.Rows L2
def FUEL : Nat := 1000000000
theorem whileL_mono {c : Ft} {F : Fs} : ∀ {n m : Nat} {env : Env} {s : Sto} {r : Out × Sto}, whileL c F n env s = some r → n ≤ m → whileL c F m env s = some r
  | 0, _, _, _, _, h, _ => by cases h
  | n + 1, 0, _, _, _, _, hm => absurd hm (by omega)
  | n + 1, m + 1, env, s, r, h, hm => by
    unfold whileL at h ⊢
    split at h
    · split at h
      · exact whileL_mono h (by omega)
      · exact whileL_mono h (by omega)
      · exact h
      · exact h
      · cases h
    · exact h
    · cases h
end DL

namespace DL
open PySem PySem.Spec PyProof.Rows L2
def dcL (st : Tg) (tt : Ft) (tk te : Fe) (w : Env) : List Dt → List (Key × Dt) → Sto → Option (List (Key × Dt) × Sto)
  | [], acc, s => some (acc, s)
  | d :: ds, acc, s => match st w d with
    | none => none
    | some e1 => match tt e1 s with
      | some (true, s1) => match tk e1 s1 with
        | some (k, s2) => match te e1 s2 with
          | some (v, s3) => match keyOf k with
            | some key => if acc.length < sizeLine then dcL st tt tk te w ds (putD acc key v) s3 else none
            | none => none
          | none => none
        | none => none
      | some (false, s1) => dcL st tt tk te w ds acc s1
      | none => none
def dcF (fi : Fi) (st : Tg) (tt : Ft) (tk te : Fe) (vs : List Nat) : Fe := fun env s => match fi env s with
  | some (ds, s1) => match dcL st tt tk te (wipeE env vs) ds [] s1 with
    | some (ks, s2) => some (.dct ks, s2)
    | none => none
  | none => none
section
variable {K : PySem.W.Frag} {O : List Nat} {fi : Fi} {st : Tg} {tt : Ft} {tk te : Fe} {vs : List Nat}
theorem dc_n {gT : TG} {t1 : TT} (hv : ∀ i, i ∈ vs → i ∉ O) (hT : ∀ v σ H Q, tG K O st v σ H Q → gT v σ H Q) (hw : ∀ v σ H Q, gT v (L2.wipe σ vs) H Q → gT v (L2.wipe σ vs) H fun σ' H' => L2.wipe σ' vs = L2.wipe σ vs ∧ Q σ' H') (hY : ∀ σ H Q, tT K O tt σ H Q → t1 σ H Q)
    (σ : L2.St) (H : Hp) (Q : VK) (h : tN K O (dcF fi st tt tk te vs) σ H Q) : tDc (tI K O fi) gT t1 (tD K O tk) (tD K O te) vs σ H Q := by
  obtain ⟨g, F, env, s, d, s', stt, hf, k⟩ := h
  unfold dcF at hf
  split at hf
  · rename_i ds s1 q
    split at hf
    · rename_i ys s2 ql
      cases hf
      refine ⟨g, F, env, s, ds, s1, stt, q, fun J F1 H1 x1 b1 wk D nD => ?_⟩
      have st1 := stt.step x1 b1
      have stw := Stt.wipe st1 vs hv
      have nF1 : F1 D = none := (Go.made (o := .dK []) b1 nD).2.2
      have nft : D ∉ g.ft := b1.nofree nD
      have nH : H D = none := x1.free b1 nD
      have nhe : g.he D = none := st1.go.free st1.bs nD
      have nO : ∀ j, j ∈ O → (L2.wipe σ vs)[j]? ≠ some (some (.ref D)) := fun j hj e => by
        obtain ⟨p, o, d', e1, _, e3, _⟩ := stw.sl.ow j hj
        rw [e] at e1; cases e1
        rw [nD] at e3; cases e3
      refine ⟨fun i m H2 => m = ds.length - i ∧ ∃ F2 s3 acc accD, Stt K g O F2 H2 (L2.wipe σ vs) (wipeE env vs) s3 ∧ Go g.ft F H F2 H2 ∧ Same F1 F2 ∧ F2 D = none ∧ H2 D = some (.dK acc) ∧ Repk K F2 acc accD ∧ dcL st tt tk te (wipeE env vs) (ds.drop i) accD s3 = some (ys, s'),
        ⟨_, rfl, F1, s1, [], [], stw.apart nF1 nft nhe nO, ?_, Same.refl _, nF1, upd_same, .nil, ql⟩, ?_⟩
      · exact x1.trans ⟨fun c u e _ => by rw [upd_ne (ne_of_none e nD)]; exact e, Same.refl _, fun c u e => .inl e⟩ b1
      rintro i m H2 ⟨rfl, F2, s3, acc, accD, st2, go2, sm2, n2, e2, r2, hl⟩
      obtain ⟨w1, w2⟩ := wk F2 H2 s3 i sm2 st2.bs
      cases qd : ds[i]? with
      | none =>
        have hge : ds.length ≤ i := List.getElem?_eq_none_iff.mp qd
        rw [List.drop_eq_nil_of_le hge] at hl
        unfold dcL at hl
        cases hl
        exact .inl ⟨w1 hge, k D _ F2 H2 go2 st2.bs nH n2 e2 (.dct r2)⟩
      | some d =>
        have hlt : i < ds.length := (List.getElem?_eq_some_iff.mp qd).1
        have ed : ds.drop i = d :: ds.drop (i + 1) := by
          rw [List.drop_eq_getElem_cons hlt]
          have := (List.getElem?_eq_some_iff.mp qd).2
          rw [this]
        rw [ed] at hl
        unfold dcL at hl
        obtain ⟨g1, g2⟩ := w2 d qd
        refine .inr ⟨g1, fun H3 => ∃ F3 s4 acc3 accD3, Stt K g O F3 H3 (L2.wipe σ vs) (wipeE env vs) s4 ∧ Go g.ft F H F3 H3 ∧ Same F1 F3 ∧ F3 D = none ∧ H3 D = some (.dK acc3) ∧ Repk K F3 acc3 accD3 ∧ dcL st tt tk te (wipeE env vs) (ds.drop (i + 1)) accD3 s4 = some (ys, s'),
          fun H3 h3 => ⟨ds.length - (i + 1), by omega, rfl, h3⟩, fun x H3 y => ?_⟩
        obtain ⟨F3, x3, b3, r3⟩ := g2 x H3 y
        have st3 := st2.step x3 b3
        split at hl
        · cases hl
        · rename_i en q1
          refine hw _ _ _ _ (hT _ _ _ _ ⟨g, F3, wipeE env vs, s3, d, en, st3, r3, q1, fun σ4 st4 _ => ?_⟩)
          have n3 : F3 D = none := by
            cases z : F3 D with
            | none => rfl
            | some u =>
              rcases x3.new D u z with z1 | z1
              · rw [n2] at z1; cases z1
              · rw [e2] at z1; cases z1
          have e3 : H3 D = some (.dK acc) := x3.ext D _ e2 nft
          have go3 : Go g.ft F H F3 H3 := go2.trans x3 st2.bs
          split at hl
          · rename_i s5 q5
            refine hY _ _ _ ⟨g, F3, en, s3, true, s5, st4, q5, fun F5 H5 x5 b5 => ?_⟩
            refine iteT ?_
            split at hl
            · rename_i kv s6 q6
              split at hl
              · rename_i yv s7 q7
                split at hl
                · rename_i key qk
                  split at hl
                  · rename_i lz
                    refine ⟨g, F5, en, s5, kv, s6, st4.step x5 b5, q6, fun vk F6 H6 x6 b6 rk => ?_⟩
                    refine ⟨g, F6, en, s6, yv, s7, (st4.step x5 b5).step x6 b6, q7, fun v F7 H7 x7 b7 r7 => ?_⟩
                    have x56 := (x5.trans x6 b5)
                    have x57 := x56.trans x7 b6
                    have e7 : H7 D = some (.dK acc) := x57.ext D _ e3 nft
                    have n7 : F7 D = none := by
                      cases z : F7 D with
                      | none => rfl
                      | some u =>
                        rcases x57.new D u z with z1 | z1
                        · rw [n3] at z1; cases z1
                        · rw [e3] at z1; cases z1
                    have st7 := st3.step x57 b7
                    have lz' : acc.length < sizeLine := by rw [r2.length]; exact lz
                    obtain rfl := keyOf_V (ft := g.ft) (H := H6) (.inl rk) qk
                    have r2' := Repk.put key r7 (Repk.mono (x3.sam.trans x57.sam) _ _ r2)
                    refine ⟨acc, key, rfl, e7, lz', F7, s7, _, _, st7.apart n7 nft nhe nO, ?_, (sm2.trans x3.sam).trans x57.sam, n7, upd_same, r2', hl⟩
                    have go7 : Go g.ft F H F7 H7 := go3.trans x57 st3.bs
                    exact ⟨fun c u e nc => by rw [upd_ne (ne_of_none e nH)]; exact go7.ext c u e nc, go7.sam, go7.new⟩
                  · cases hl
                · cases hl
              · cases hl
            · cases hl
          · rename_i s5 q5
            refine hY _ _ _ ⟨g, F3, en, s3, false, s5, st4, q5, fun F5 H5 x5 b5 => ?_⟩
            refine iteF ?_
            have e5 : H5 D = some (.dK acc) := x5.ext D _ e3 nft
            have n5 : F5 D = none := by
              cases z : F5 D with
              | none => rfl
              | some u =>
                rcases x5.new D u z with z1 | z1
                · rw [n3] at z1; cases z1
                · rw [e3] at z1; cases z1
            exact ⟨F5, s5, acc, accD, st3.step x5 b5, go3.trans x5 st3.bs, (sm2.trans x3.sam).trans x5.sam, n5, e5, Repk.mono (x3.sam.trans x5.sam) _ _ r2, hl⟩
          · cases hl
    · cases hf
  · cases hf
end
section
variable {X : Cx} {O : List Nat} {kx vx tg iter : Expr} {ifs : List Expr} {scope : Scope} {own : List (Str × Nat)} {pos spos py : Pos} {fi : Fi} {tt : Ft} {tk te : Fe} {y : Str}
theorem n_dc {i : Nat} (hc : X.calm = true) (hN : X.N.Nodup) (hi : PI X tg iter (tI X.K O fi)) (ok : BlkOk X.N X.env.scope scope own)
    (hg : ∀ (s : Shared) (H : Hp) (C : Addr) (cl : List (Str × Addr)) (fp : List Addr), PG (X.blk s H scope (compEnvC scope cl C X.env) fp) tg (gName i))
    (ht : ∀ (s : Shared) (H : Hp) (C : Addr) (cl : List (Str × Addr)) (fp : List Addr), PTs (X.blk s H scope (compEnvC scope cl C X.env) fp) ifs (tT X.K O tt))
    (hk : ∀ (s : Shared) (H : Hp) (C : Addr) (cl : List (Str × Addr)) (fp : List Addr), PE (X.blk s H scope (compEnvC scope cl C X.env) fp) kx (tD X.K O tk))
    (he : ∀ (s : Shared) (H : Hp) (C : Addr) (cl : List (Str × Addr)) (fp : List Addr), PE (X.blk s H scope (compEnvC scope cl C X.env) fp) vx (tD X.K O te))
    (hv : ∀ j, j ∈ own.map (·.2) → j ∉ O := by decide) (hm : i ∈ own.map (·.2) := by decide) (hs : ∀ x, foldedSetIterable iter X.env x = pure x := by intro _; rfl) :
    PE X (.DictComp kx vx [⟨tg, iter, ifs, 0⟩] scope pos) (tN X.K O (dcF fi (tgN i) tt tk te (own.map (·.2)))) :=
  pe_imp (pe_dc hc hN hi ok hg ht hk he hs) (dc_n hv (nameT (hv i hm)) (fun v σ H Q h => ⟨wipe_set _ _ hm (wipe_wipe _ _), h⟩) fun _ _ _ h => h)
end
section
variable {X : Cx} {O : List Nat} {elt tg iter : Expr} {ifs : List Expr} {scope : Scope} {own : List (Str × Nat)} {pos spos py : Pos} {fi : Fi} {tt : Ft} {te : Fe} {y : Str}
end
section
variable {X : Cx} {L O O' : List Nat} {e : Expr} {f : Fe} {pos : Pos}
end
end DL

namespace DL
open PySem PySem.Spec PyProof.Rows L2
def par3S (i j l : Nat) (f1 f2 f3 : Fe) : Fs := fun env s => if i < env.length ∧ j < env.length ∧ l < env.length then match f1 env s with
  | some (x, s1) => match f2 env s1 with
    | some (y, s2) => match f3 env s2 with
      | some (z, s3) => some (.nx (((env.set i (some x)).set j (some y)).set l (some z)), s3)
      | none => none
    | none => none
  | none => none
  else none
end DL

namespace DL
open PySem PySem.Spec PyProof.Rows L2
theorem Reps.set {K : PySem.W.Frag} {F : Hp} {v : V} {d : Dt} (r : Rep K F v d) : ∀ {vs : List V} {ds : List Dt} (j : Nat), Reps K F vs ds → Reps K F (vs.set j v) (ds.set j d)
  | [], [], _, h => h
  | [], _ :: _, _, h => by cases h
  | _ :: _, [], _, h => by cases h
  | _ :: _, _ :: _, 0, h => by cases h with | cons _ t => exact .cons r t
  | _ :: _, _ :: _, j + 1, h => by cases h with | cons a t => exact .cons a (Reps.set r j t)
section
variable {X : Cx} {L O : List Nat} {st : Stmt} {i : Nat} {fk fv : Fe}
end
section
variable {X : Cx} {pos tpos pt2 : Pos} {kt k2 : Nat}
theorem ps_parT {elts es : List Expr} {ta : TA} {gs : TGs} {n : Nat} (hc : X.calm = true) (ha : PA X es ta) (hg : PGs X elts gs)
    (hn : (assignEach elts X.env).length = n := by rfl) (hz : n ≤ sizeLine := by decide) (hst : (assignEach elts X.env).findIdx? (·.1) = none := by rfl)
    (hs : swapsWithSole [.Tuple elts kt tpos] (.Tuple es k2 pt2) pos.line X.env = pure false := by rfl)
    (hw : swappedStores [.Tuple elts kt tpos] (.Tuple es k2 pt2) X.env = pure none := by rfl)
    (h1 : (assignEach [.Tuple elts kt tpos] X.env).map (·.2) = [assign (.Tuple elts kt tpos) X.env] := by rfl) :
    PS X (.Assign [.Tuple elts kt tpos] (.Tuple es k2 pt2) pos) (fun D σ H => ta σ H fun vs H1 => vs.length = n ∧ gs vs σ H1 D.nx) := by
  refine ⟨fun pins s σ H D I h => ?_⟩
  refine wpAny_Assign_stores (Tuple_ (thn (ha.run _ pins s σ H _ I h) fun us s1 ⟨vs, H1, I1, r1, hl, q1⟩ => ?_)) hs hw
  have hlen := r1.length
  refine wpAny_newObj_type ?_ (by show us.toArray.size ≤ sizeLine; rw [List.size_toArray]; omega)
  have I2 : Inv X pins σ H1 { s1 with heap := s1.heap.push { cls := .type "tuple", data := .seq us.toArray } } := I1.kept (t' := s1.toks) fun b o e => Heap.get?_push_of_some _ e
  rw [h1]
  refine thn (Q := fun _ s' => ∃ σ' H', Inv X pins σ' H' s' ∧ D.nx σ' H') (assign_Tuple_tuple (I2.ok.hd hc) (IsTup.new s1.heap _) (by rw [hn, List.size_toArray]; omega) hst fun h' hx => ?_) fun _ s2 q => q
  have I3 := I2.kept (h' := h') (t' := s1.toks) fun b o e => hx b o (Nat.ne_of_lt (Heap.lt_size e)) e
  exact hg.run pins _ σ H1 vs _ _ I3 (by simpa using r1) q1
end

def evalL : List Fe → Env → Sto → Option (List Dt × Sto)
  | [], _, s => some ([], s)
  | f :: fs, env, s => match f env s with
    | some (d, s1) => match evalL fs env s1 with
      | some (ds, s2) => some (d :: ds, s2)
      | none => none
    | none => none
def setL : List Nat → List Dt → Env → Env
  | i :: is, d :: ds, env => setL is ds (env.set i (some d))
  | _, _, env => env
def parNS (is : List Nat) (fs : List Fe) : Fs := fun env s => if is.all (fun i => decide (i < env.length)) = true then match evalL fs env s with
  | some (ds, s1) => if is.length = ds.length then some (.nx (setL is ds env), s1) else none
  | none => none
  else none
def tXs (K : PySem.W.Frag) (O : List Nat) : List Bool → List Fe → TA
  | m :: ms, f :: fs => tCons (tX m K O f) (tXs K O ms fs)
  | _, _ => tNil
def gXs : List Nat → TGs
  | [] => gNil
  | i :: is => gCons (gName i) (gXs is)
def ownL : List Bool → List Nat → List Nat → List Nat
  | m :: ms, i :: is, O => ownL ms is (ownX m O i)
  | _, _, O => O
def NeL (v : V) : List Bool → List V → Prop
  | m :: ms, w :: vs => (m = true → v ≠ w) ∧ NeL v ms vs
  | _, _ => True
def Hands (K : PySem.W.Frag) (g : Gd) (O : List Nat) (F H : Hp) (σ : L2.St) : List Bool → List V → List Dt → Prop
  | m :: ms, v :: vs, d :: ds => Hand K g O F H σ m v d ∧ (m = true → NeL v ms vs) ∧ Hands K g O F H σ ms vs ds
  | [], [], [] => True
  | _, _, _ => False
def FrL (H : Hp) : List Bool → List V → Prop
  | m :: ms, w :: vs => (m = true → ∃ p, w = .ref p ∧ H p = none) ∧ FrL H ms vs
  | _, _ => True
def setV : List Nat → List V → L2.St → L2.St
  | i :: is, v :: vs, σ => setV is vs (σ.set i (some v))
  | _, _, σ => σ
section
variable {K : PySem.W.Frag} {g : Gd} {O : List Nat} {F H F' H' : Hp} {σ : L2.St} {env : Env} {s s' : Sto}
theorem Hands.beside {i : Nat} {v : V} {m' : Bool} (hi : i < σ.length) : ∀ {ms : List Bool} {vs : List V} {ds : List Dt}, Hands K g O F H σ ms vs ds → (m' = true → NeL v ms vs) → Hands K g (ownX m' O i) F H (σ.set i (some v)) ms vs ds
  | [], [], [], _, _ => trivial
  | m :: ms, w :: vs, d :: ds, h, n => ⟨h.1.beside (fun a b => (n b).1 a) hi, h.2.1, Hands.beside hi h.2.2 fun b => (n b).2⟩
  | [], [], _ :: _, h, _ => h.elim
  | [], _ :: _, [], h, _ => h.elim
  | [], _ :: _, _ :: _, h, _ => h.elim
  | _ :: _, [], [], h, _ => h.elim
  | _ :: _, [], _ :: _, h, _ => h.elim
  | _ :: _, _ :: _, [], h, _ => h.elim
theorem Hands.store : ∀ {ms : List Bool} {is : List Nat} {vs : List V} {ds : List Dt} {O : List Nat} {σ : L2.St} {env : Env}, Stt K g O F H σ env s → Hands K g O F H σ ms vs ds → is.length = ds.length → is.all (fun i => decide (i < env.length)) = true →
    Stt K g (ownL ms is O) F H (setV is vs σ) (setL is ds env) s
  | [], [], [], [], _, _, _, st, _, _, _ => st
  | m :: ms, i :: is, v :: vs, d :: ds, O, σ, env, st, h, hl, ha => by
    rw [List.all_cons, Bool.and_eq_true] at ha
    have hi := of_decide_eq_true ha.1
    have e1 := st.setX h.1 hi
    exact Hands.store (ms := ms) (is := is) (vs := vs) (ds := ds) (O := ownX m O i) (σ := σ.set i (some v)) (env := env.set i (some d)) e1 (h.2.2.beside (by rw [st.sl.len]; exact hi) h.2.1) (Nat.succ.inj hl) (by rw [List.length_set]; exact ha.2)
  | [], [], [], _ :: _, _, _, _, _, h, _, _ => h.elim
  | [], [], _ :: _, [], _, _, _, _, h, _, _ => h.elim
  | [], [], _ :: _, _ :: _, _, _, _, _, h, _, _ => h.elim
  | [], _ :: _, [], [], _, _, _, _, _, hl, _ => nomatch hl
  | [], _ :: _, [], _ :: _, _, _, _, _, h, _, _ => h.elim
  | [], _ :: _, _ :: _, [], _, _, _, _, h, _, _ => h.elim
  | [], _ :: _, _ :: _, _ :: _, _, _, _, _, h, _, _ => h.elim
  | _ :: _, [], [], [], _, _, _, _, h, _, _ => h.elim
  | _ :: _, [], [], _ :: _, _, _, _, _, h, _, _ => h.elim
  | _ :: _, [], _ :: _, [], _, _, _, _, h, _, _ => h.elim
  | _ :: _, [], _ :: _, _ :: _, _, _, _, _, _, hl, _ => nomatch hl
  | _ :: _, _ :: _, [], [], _, _, _, _, h, _, _ => h.elim
  | _ :: _, _ :: _, [], _ :: _, _, _, _, _, h, _, _ => h.elim
  | _ :: _, _ :: _, _ :: _, [], _, _, _, _, h, _, _ => h.elim
theorem Go.dom (x : Go g.ft F H F' H') (b : Bs K g.ft F' H' s') {p : Addr} (n : H' p = none) : H p = none := by
  cases q : H p with
  | none => rfl
  | some o =>
    by_cases c : p ∈ g.ft
    · obtain ⟨d, o2, _, e, _⟩ := b.has c
      rw [n] at e; cases e
    · rw [x.ext p o q c] at n; cases n
theorem FrL.back (x : Go g.ft F H F' H') (b : Bs K g.ft F' H' s') : ∀ {ms : List Bool} {vs : List V}, FrL H' ms vs → FrL H ms vs
  | [], _, _ => trivial
  | _ :: _, [], _ => trivial
  | _ :: _, _ :: _, h => ⟨fun z => let ⟨p, e, n⟩ := h.1 z; ⟨p, e, Go.dom x b n⟩, FrL.back x b h.2⟩
theorem FrL.ne {p : Addr} {o : HO} (e : H p = some o) : ∀ {ms : List Bool} {vs : List V}, FrL H ms vs → NeL (.ref p) ms vs
  | [], _, _ => trivial
  | _ :: _, [], _ => trivial
  | _ :: _, _ :: _, h => ⟨fun z c => (by
    obtain ⟨q, e1, n⟩ := h.1 z
    rw [← c] at e1
    cases e1
    rw [e] at n; cases n), FrL.ne e h.2⟩
theorem tXs_hand : ∀ {ms : List Bool} {fs : List Fe} {F H : Hp} {s : Sto} {ds : List Dt} {Q : List V → Hp → Prop}, ms.length = fs.length → Stt K g O F H σ env s → evalL fs env s = some (ds, s') →
    (∀ vs F' H', Go g.ft F H F' H' → Bs K g.ft F' H' s' → Hands K g O F' H' σ ms vs ds → FrL H ms vs → Q vs H') → tXs K O ms fs σ H Q
  | [], [], F, H, s, ds, Q, _, st, hf, k => by
    cases hf
    exact k [] F H Go.refl st.bs trivial trivial
  | [], _ :: _, _, _, _, _, _, hl, _, _, _ => nomatch hl
  | _ :: _, [], _, _, _, _, _, hl, _, _, _ => nomatch hl
  | m :: ms, f :: fs, F, H, s, ds, Q, hl, st, hf, k => by
    unfold evalL at hf
    split at hf
    · rename_i d s1 q1
      split at hf <;> cases hf
      rename_i ds' q2
      refine tX_hand st q1 fun v F1 H1 x1 b1 r1 z1 => ?_
      refine tXs_hand (Nat.succ.inj hl) (st.step x1 b1) q2 fun vs F2 H2 x2 b2 r2 z2 => ?_
      refine k (v :: vs) F2 H2 (x1.trans x2 b1) b2 ⟨r1.step x2, fun e => ?_, r2⟩ ⟨z1, FrL.back x1 b1 z2⟩
      subst e
      obtain ⟨p1, o1, rfl, e1, _⟩ := (show ∃ p o, v = .ref p ∧ H1 p = some o ∧ ObR K F1 o d ∧ F1 p = none ∧ p ∉ g.ft ∧ g.he p = none ∧ ∀ j, j ∈ O → σ[j]? ≠ some (some (.ref p)) from r1)
      exact FrL.ne e1 z2
    · cases hf
theorem Hands.len : ∀ {ms : List Bool} {vs : List V} {ds : List Dt}, Hands K g O F H σ ms vs ds → vs.length = ds.length
  | [], [], [], _ => rfl
  | m :: ms, w :: vs, d :: ds, h => congrArg (· + 1) (Hands.len h.2.2)
  | [], [], _ :: _, h => h.elim
  | [], _ :: _, [], h => h.elim
  | [], _ :: _, _ :: _, h => h.elim
  | _ :: _, [], [], h => h.elim
  | _ :: _, [], _ :: _, h => h.elim
  | _ :: _, _ :: _, [], h => h.elim
theorem gXs_set {Q : L2.St → Hp → Prop} : ∀ {is : List Nat} {vs : List V} {σ : L2.St}, is.length = vs.length → Q (setV is vs σ) H → gXs is vs σ H Q
  | [], [], _, _, q => ⟨rfl, q⟩
  | i :: is, v :: vs, σ, hl, q => ⟨v, vs, rfl, gXs_set (Nat.succ.inj hl) q⟩
  | [], _ :: _, _, hl, _ => nomatch hl
  | _ :: _, [], _, hl, _ => nomatch hl
end
theorem s_parN {X : Cx} {L O : List Nat} {st : Stmt} {is : List Nat} {fs : List Fe} {n : Nat} (ms : List Bool) (h : PS X st (fun D σ H => tXs X.K O ms fs σ H fun vs H1 => vs.length = n ∧ gXs is vs σ H1 D.nx)) (hm : ms.length = fs.length) (hn : is.length = n) (O' : List Nat)
    (h1 : ∀ a, a ∈ O' → a ∈ ownL ms is O := by decide) : PS X st (tS X.K L O O' (parNS is fs)) := ps_imp (ps_lkout h) fun D σ H ⟨g, F, env, s, out, s', stt, hf, k⟩ => by
  unfold parNS at hf
  split at hf
  · rename_i hl
    split at hf
    · rename_i ds s1 q1
      split at hf <;> cases hf
      rename_i hz
      refine tXs_hand hm stt q1 fun vs F1 H1 x1 b1 r1 _ => ⟨by rw [r1.len, ← hz, hn], ?_⟩
      refine gXs_set (by rw [r1.len, hz]) ?_
      have st1 := Hands.store (stt.step x1 b1) r1 hz hl
      exact st1.weak h1 fun F2 H2 sm st2 => k _ H2 F2 (x1.sam.trans sm) st2
    · cases hf
  · cases hf

abbrev FeX := Env → Sto → Option (Dt × Env × Sto)
def tDX (K : PySem.W.Frag) (O : List Nat) (f : FeX) : TE := fun σ H Q => ∃ g F env s d env' s', Stt K g O F H σ env s ∧ f env s = some (d, env', s') ∧ ∀ v F' H', Same F F' → Stt K g O F' H' σ env' s' → Rep K F' v d → Q v H'
section
variable {X : Cx} {L O : List Nat} {tg e o ix iter : Expr} {i : Nat} {fa : Fe} {f : FeX} {fi : FiX} {t : Tg} {F : Fs} {body : List Stmt} {pos : Pos}
end
end DL

namespace DL
open PySem PySem.Spec PyProof.Rows L2
section
variable {X : Cx} {O : List Nat} {o e f : Expr} {apos cpos : Pos} {fa fb fc : Fe}
end
end DL

namespace DL
open PySem PySem.Spec PyProof.Rows L2
theorem meets_enumB {v : Value} {o : Obj} {H : Heap → Prop} (B : Begins v o H) :
    Meets (Builtin.«enumerate.__new__» ⟨[.type "enumerate", v], []⟩) (fun _ R s => H s.heap ∧
      R (.ok (.ret (.ref (s.heap.push o).objs.size))) { s with heap := (s.heap.push o).push { cls := .type "enumerate", data := .fields #[.none, .bool false, .ref s.heap.objs.size, rawInt 0, .none, .none] } }) :=
  .of_wp fun prog w A R s h => by
    obtain ⟨hp, g, d, tk, os⟩ := s; obtain ⟨h1, h⟩ := h
    have hsub := sub_enumerate
    have q1 : ∀ {A' : Around} {E : Value → Shared → Prop} {Q : Value → Shared → Prop}, Q (.ref hp.objs.size) ⟨hp.push o, g, d, tk, os⟩ → wpAny (model prog w) A' (pyIter v) Q E ⟨hp, g, d, tk, os⟩ :=
      fun q => B.iter prog w _ _ ⟨hp, g, d, tk, os⟩ _ h1 q
    wp_walk using q1
    refine wpAny_stack_any fun st => wpAny_pure ?_
    split
    · rename_i c _ _ _ _ _
      cases (c == Value.type "enumerate")
      · wp_walk using q1
        exact ⟨_, rfl, h⟩
      · wp_walk using q1
        exact ⟨_, rfl, h⟩
    · wp_walk using q1
      exact ⟨_, rfl, h⟩
theorem enum_new {prog : Program} {w : World} {A : Around} {E : Value → Shared → Prop} {s : Shared} {v : Value} {o : Obj} {H : Heap → Prop} {Q : Value → Shared → Prop} (B : Begins v o H) (h1 : H s.heap)
    (h : ∀ h', IsEnum h' (s.heap.objs.size + 1) s.heap.objs.size 0 .none → h'.get? s.heap.objs.size = some o → h'.objs.size = s.heap.objs.size + 2 →
      (∀ b o, s.heap.get? b = some o → h'.get? b = some o) → Q (.ref (s.heap.objs.size + 1)) { s with heap := h' }) :
    wpAny (model prog w) A (call (.type "enumerate") [v]) Q E s := by
  refine callType_new F.called_enumerate (by decide) (F.typeCall_enumerate_1 _) (F.newCall_enumerate_1 _) (fun obj => F.args_object_init_2 obj _) F.entry_enumerate_new
    (meets_enumB B) ⟨h1, ?_⟩
  have hz : (s.heap.push o).objs.size = s.heap.objs.size + 1 := Heap.size_push ..
  show _ ∧ _
  rw [hz]
  have he : IsEnum ((s.heap.push o).push { cls := .type "enumerate", data := .fields #[.none, .bool false, .ref s.heap.objs.size, rawInt 0, .none, .none] }) (s.heap.objs.size + 1) s.heap.objs.size 0 .none := by
    have := Heap.get?_push_size (s.heap.push o) (o := { cls := .type "enumerate", data := .fields #[.none, .bool false, .ref s.heap.objs.size, rawInt 0, .none, .none] }) rfl
    rw [hz] at this; exact this
  refine ⟨⟨_, he, rfl⟩, h _ he (Heap.get?_push_of_some _ (Heap.get?_push_size _ B.free)) (by rw [Heap.size_push, hz]) fun b o x => Heap.get?_push_of_some _ (Heap.get?_push_of_some _ x)⟩
def Itet (K : PySem.W.Frag) (a : Addr) : It :=
  ⟨fun i H => ∃ (xs : List V) (x : V), SqT K H a xs ∧ xs[i]? = some x, fun i H v H' => ∃ T x, v = .ref T ∧ H T = none ∧ H' = upd H T (.tup [.int (i : Nat), x]) ∧ ∀ xs, SqT K H a xs → xs[i]? = some x, fun i H => ∃ xs : List V, SqT K H a xs ∧ xs.length ≤ i⟩
theorem turn_enumT {P : Program} {w : World} {K : PySem.W.Frag} {elts : List Expr} {kk : Nat} {tpos : Pos} (a e it : Addr) :
    Turn P w K (.Tuple elts kk tpos) (Itet K a) [e, it] e (fun i h => (∃ old, IsEnum h e it ((i : Nat) : Int) old) ∧ h.IsTupleIter it a i ∧ e ≠ it) where
  mem := by simp
  obj := fun i h st b hb => by
    obtain ⟨⟨old, he⟩, ⟨o, ho, hc, hd⟩, _⟩ := st
    have e' : b = e ∨ b = it := by simpa using hb
    rcases e' with z | z
    · rw [z]; exact ⟨_, he, fun v q => nomatch q⟩
    · rw [z]; exact ⟨o, ho, fun v q => by rw [hd] at q; cases q⟩
  keep := fun i h h' st k => let ⟨⟨old, he⟩, hi, hne⟩ := st; ⟨⟨old, k e (by simp) _ he⟩, hi.at fun o q => k it (by simp) o q, hne⟩
  item := by
    intro X hP hw hK hc i pins s σ H E I hf st hg
    subst hP hw hK
    obtain ⟨⟨old, he⟩, hit, hne⟩ := st
    obtain ⟨xs, x, hq, hx⟩ := hg
    obtain ⟨its, rv, p, hz⟩ := I.tuple hq
    obtain ⟨u, hu, ru⟩ := rv.get hx
    have hel : e < s.heap.objs.size := Heap.lt_size he
    have hil : it < s.heap.objs.size := by obtain ⟨_, q, _⟩ := hit; exact Heap.lt_size q
    have hat : a ≠ it := fun z => by
      subst z
      obtain ⟨o1, g1, c1, _⟩ := hit
      obtain ⟨o2, g2, c2, _⟩ := p
      rw [g1] at g2; cases g2
      rw [c1] at c2
      injection c2 with c2
      exact absurd c2 (by decide)
    have hea : e ∉ [it, a] := fun z => by
      rcases List.mem_cons.mp z with z | z
      · exact hne z
      · have z := List.mem_singleton.mp z
        subst z
        obtain ⟨o2, g2, c2, _⟩ := p
        rw [he] at g2; cases g2
        injection c2 with c2
        exact absurd c2 (by decide)
    have hil2 : i < its.toArray.size := by have := (List.getElem?_eq_some_iff.mp hu).1; simpa using this
    refine wpAny_pyNext_enum_itemD (Draws.tuple (show X.A.in1.handled = none from I.ok.hd hc) it a hat its.toArray) he ⟨hit, p⟩ hil2 hne hea fun u' h' tk hp ho hst hT hsz hk => ?_
    have hu' : u' = u := by
      have hp' : its[i]? = some u' := by simpa using hp
      rw [hu] at hp'; cases hp'; rfl
    subst hu'
    refine ⟨_, rfl, wpAny_letOwnedTupleGo_enum (s := { s with heap := h', toks := tk + 1 }) ho fun h'' he' sb => ?_⟩
    have hT2 : h''.get? s.heap.objs.size = some { cls := .type "tuple", data := .seq #[.int i tk, u'] } := (sb.2 _ (Nat.ne_of_gt hel)).trans hT
    have new : ObjOk X.prog X.w (upd H s.heap.objs.size (.tup [.int (i : Nat), x])) h'' s.heap.objs.size (.tup [.int (i : Nat), x]) :=
      ⟨by show 2 ≤ sizeLine; decide, [.int i tk, u'], .cons ⟨_, rfl⟩ (.cons ru .nil), ⟨_, hT2, rfl, _, rfl⟩⟩
    have I1 : Inv X pins σ (upd H s.heap.objs.size (.tup [.int (i : Nat), x])) { s with heap := h'', toks := tk + 1 } :=
      I.turnedNew (ch := [e, it]) (fun b ob hb q => (sb.2 b (fun z => hb (by simp [z]))).trans (hk b ob (fun z => hb (by simp [z])) (fun z => hb (by simp [z])) q)) hf (Nat.le_refl _) new
    refine ⟨.ref s.heap.objs.size, _, I1, rfl, ⟨_, x, rfl, I.hok.fresh (Nat.le_refl _), rfl, fun ys hy => by rw [I.tuple_inj hy hq]; exact hx⟩, ⟨⟨u', ?_⟩, hst.1.at fun o q => (sb.2 it (Ne.symm hne)).trans q, hne⟩, fun b hb => ?_⟩
    · have e1 : ((i + 1 : Nat) : Int) = (i : Int) + 1 := by omega
      rw [e1]; exact he'
    · have hb' : b < s.heap.objs.size := by
        have e' : b = e ∨ b = it := by simpa using hb
        rcases e' with z | z
        · rw [z]; exact hel
        · rw [z]; exact hil
      rw [upd_ne (Nat.ne_of_lt hb')]
      exact (hf b hb).1
  done := by
    intro X hP hw hK hc i pins s σ H E I hf st hg
    subst hP hw hK
    obtain ⟨⟨old, he⟩, hit, hne⟩ := st
    obtain ⟨xs, hq, hx⟩ := hg
    obtain ⟨its, rv, p, hz⟩ := I.tuple hq
    obtain ⟨f0, f1, f2, f3, f4, f5⟩ := hf it (by simp)
    have hl := rv.length
    have hno : its.toArray[i]? = none := by simp; omega
    have hT : s.TypeIs (.ref e) "enumerate" := ⟨_, he, rfl⟩
    unfold pyNext
    refine wpAny_bind (wpAny_attempt (wpAny_callSpecial?_slot (name := Str.ofString "__next__") hT F.slot_enumerate_next
      (wpAny_call_entry F.slot_enumerate_next hT F.entry_enumerate_next ?_ (F.args_enumerate_next_1 _))))
    show wpAny _ _ (field (.ref e) 2 >>= _) _ _ _
    refine wpAny_bind (wpAny_field he rfl (x := .ref it) rfl ?_)
    refine wpAny_bind (wpAny_nextOf_tuple_end (show X.A.in1.handled = none from I.ok.hd hc) hit p hno fun h' x he' hx' => ?_)
    obtain ⟨o, ho, hcls⟩ := hx'
    refine wpAny_bind (wpAny_isInstance (T := "StopIteration") (b := true) ⟨o, ho, hcls⟩ isSubtype_stop ?_)
    exact wpAny_pure ⟨rfl, I.turned (t' := s.toks) (fun b o hb q => he' b o hb q) f0 f1 f3 f4 f5⟩
  self := fun A i s Q E st h => let ⟨⟨_, he⟩, _⟩ := st; wpAny_pyIter_enum he h

def Ites (x : Str) : It :=
  ⟨fun i _ => i < x.cps.size, fun i H v H' => ∃ T c, v = .ref T ∧ H T = none ∧ H' = upd H T (.tup [.int (i : Nat), .str ⟨#[c]⟩]) ∧ x.cps[i]? = some c, fun i _ => x.cps.size ≤ i⟩
theorem turn_enumS {P : Program} {w : World} {K : PySem.W.Frag} {elts : List Expr} {kk : Nat} {tpos : Pos} (x : Str) (t : Tok) (e it : Addr) :
    Turn P w K (.Tuple elts kk tpos) (Ites x) [e, it] e (fun i h => (∃ old, IsEnum h e it ((i : Nat) : Int) old) ∧ h.IsStrIter it (strIterType x) x t i ∧ e ≠ it ∧ i ≤ x.cps.size) where
  mem := by simp
  obj := fun i h st b hb => by
    obtain ⟨⟨old, he⟩, hit, _⟩ := st
    have e' : b = e ∨ b = it := by simpa using hb
    rcases e' with z | z
    · rw [z]; exact ⟨_, he, fun v q => nomatch q⟩
    · rw [z]
      obtain ⟨o, ho, hc, hd⟩ := hit
      exact ⟨o, ho, fun v q => by rw [hd] at q; cases q⟩
  keep := fun i h h' st k => by
    obtain ⟨⟨old, he⟩, hit, hne, hi⟩ := st
    refine ⟨⟨old, k e (by simp) _ he⟩, ?_, hne, hi⟩
    obtain ⟨o, ho, r⟩ := hit
    exact ⟨o, k it (by simp) o ho, r⟩
  item := by
    intro X hP hw hK hc i pins s σ H E I hf st hg
    subst hP hw hK
    obtain ⟨⟨old, he⟩, hit, hne, hi⟩ := st
    have hlt : i < x.cps.size := hg
    have hel : e < s.heap.objs.size := Heap.lt_size he
    have hil : it < s.heap.objs.size := by obtain ⟨_, q, _⟩ := hit; exact Heap.lt_size q
    have hea : e ∉ [it] := fun z => hne (List.mem_singleton.mp z)
    refine wpAny_pyNext_enum_itemD (Draws.text (show X.A.in1.handled = none from I.ok.hd hc) it x t) he hit hlt hne hea fun u' h' tk hp ho hst hT hsz hk => ?_
    obtain ⟨c, uc, hcx, rfl⟩ := hp
    refine ⟨_, rfl, wpAny_letOwnedTupleGo_enum (s := { s with heap := h', toks := tk + 1 }) ho fun h'' he' sb => ?_⟩
    have hT2 : h''.get? s.heap.objs.size = some { cls := .type "tuple", data := .seq #[.int i tk, .str ⟨#[c]⟩ uc] } := (sb.2 _ (Nat.ne_of_gt hel)).trans hT
    have new : ObjOk X.prog X.w (upd H s.heap.objs.size (.tup [.int (i : Nat), .str ⟨#[c]⟩])) h'' s.heap.objs.size (.tup [.int (i : Nat), .str ⟨#[c]⟩]) :=
      ⟨by show 2 ≤ sizeLine; decide, [.int i tk, .str ⟨#[c]⟩ uc], .cons ⟨_, rfl⟩ (.cons ⟨_, rfl⟩ .nil), ⟨_, hT2, rfl, _, rfl⟩⟩
    have I1 : Inv X pins σ (upd H s.heap.objs.size (.tup [.int (i : Nat), .str ⟨#[c]⟩])) { s with heap := h'', toks := tk + 1 } :=
      I.turnedNew (ch := [e, it]) (fun b ob hb q => (sb.2 b (fun z => hb (by simp [z]))).trans (hk b ob (fun z => hb (by simp [z])) (fun z => hb (by simp [z])) q)) hf (Nat.le_refl _) new
    refine ⟨.ref s.heap.objs.size, _, I1, rfl, ⟨_, c, rfl, I.hok.fresh (Nat.le_refl _), rfl, hcx⟩, ⟨⟨.str ⟨#[c]⟩ uc, ?_⟩, ?_, hne, hlt⟩, fun b hb => ?_⟩
    · have e1 : ((i + 1 : Nat) : Int) = (i : Int) + 1 := by omega
      rw [e1]; exact he'
    · obtain ⟨o, ho, r⟩ := hst
      exact ⟨o, (sb.2 it (Ne.symm hne)).trans ho, r⟩
    · have hb' : b < s.heap.objs.size := by
        have e' : b = e ∨ b = it := by simpa using hb
        rcases e' with z | z
        · rw [z]; exact hel
        · rw [z]; exact hil
      rw [upd_ne (Nat.ne_of_lt hb')]
      exact (hf b hb).1
  done := by
    intro X hP hw hK hc i pins s σ H E I hf st hg
    subst hP hw hK
    obtain ⟨⟨old, he⟩, hit, hne, hi⟩ := st
    have hin : i = x.cps.size := Nat.le_antisymm hi hg
    subst hin
    obtain ⟨f0, f1, f2, f3, f4, f5⟩ := hf it (by simp)
    exact wpAny_pyNext_enum_endD (Draws.text (show X.A.in1.handled = none from I.ok.hd hc) it x t) he hit fun h' eb => ⟨rfl, I.turned (t' := s.toks) (fun b o hb q => eb b o hb q) f0 f1 f3 f4 f5⟩
  self := fun A i s Q E st h => let ⟨⟨_, he⟩, _⟩ := st; wpAny_pyIter_enum he h
def iEnumT (K : PySem.W.Frag) (ta : TA) : TI := fun σ H R => ta σ H fun vs H1 => ∃ a xs, vs = [.ref a] ∧ SqT K H1 a xs ∧ R (Itet K a) H1
def iEnumS (ta : TA) : TI := fun σ H R => ta σ H fun vs H1 => ∃ x, vs = [.str x] ∧ R (Ites x) H1
section
variable {X : Cx} {e : Expr} {ta : TA} {p pos tpos : Pos} {elts : List Expr} {kk : Nat}
theorem pi_enumT (hg : Gl X "enumerate") (hm : X.mg "enumerate" = none) (ha : PA X [e] ta) (hs : starEach [e] X.env = [(false, eval e X.env)] := by rfl) :
    PI X (.Tuple elts kk tpos) (.Call (.Name "enumerate" p) [e] [] pos) (iEnumT X.K ta) := by
  refine ⟨fun pins s σ H R I h => ?_⟩
  refine Call_ (ld_blt I hg hm boot_enumerate (PyProof.Rows.callWith_type1 (thn (ha.run pos pins s σ H _ I h) fun us s1 ⟨vs, H1, I1, r1, q1⟩ => ?_) hs rfl))
  obtain ⟨a, xs, ex, hq, q⟩ := q1
  subst ex
  cases r1 with
  | cons r rr =>
    cases rr
    cases r
    obtain ⟨its, rv, p', hz⟩ := I1.tuple hq
    refine enum_new (begins_tuple a its.toArray) p' fun h' he hit hsz hk => wpAny_pyIter_enum he ?_
    have I2 : Inv X pins σ H1 { s1 with heap := h' } := I1.kept (t' := s1.toks) hk
    refine ⟨s1.heap.objs.size + 1, [s1.heap.objs.size + 1, s1.heap.objs.size], _, _, H1, rfl, I2, turn_enumT a (s1.heap.objs.size + 1) s1.heap.objs.size, ⟨⟨.none, he⟩, ⟨_, hit, rfl, rfl⟩, Nat.succ_ne_self _⟩, fun b hb => ?_, q⟩
    have e' : b = s1.heap.objs.size + 1 ∨ b = s1.heap.objs.size := by simpa using hb
    have hle : s1.heap.objs.size ≤ b := by
      rcases e' with z | z
      · rw [z]; exact Nat.le_add_right _ _
      · rw [z]; exact Nat.le_refl _
    exact I1.fpOk hle (I1.hok.fresh hle)
theorem pi_enumS (hg : Gl X "enumerate") (hm : X.mg "enumerate" = none) (ha : PA X [e] ta) (hs : starEach [e] X.env = [(false, eval e X.env)] := by rfl) :
    PI X (.Tuple elts kk tpos) (.Call (.Name "enumerate" p) [e] [] pos) (iEnumS ta) := by
  refine ⟨fun pins s σ H R I h => ?_⟩
  refine Call_ (ld_blt I hg hm boot_enumerate (PyProof.Rows.callWith_type1 (thn (ha.run pos pins s σ H _ I h) fun us s1 ⟨vs, H1, I1, r1, q1⟩ => ?_) hs rfl))
  obtain ⟨x, ex, q⟩ := q1
  subst ex
  cases r1 with
  | cons r rr =>
    cases rr
    obtain ⟨t, rfl⟩ := r
    refine enum_new (begins_text x t) trivial fun h' he hit hsz hk => wpAny_pyIter_enum he ?_
    have I2 : Inv X pins σ H1 { s1 with heap := h' } := I1.kept (t' := s1.toks) hk
    refine ⟨s1.heap.objs.size + 1, [s1.heap.objs.size + 1, s1.heap.objs.size], _, _, H1, rfl, I2, turn_enumS x t (s1.heap.objs.size + 1) s1.heap.objs.size, ⟨⟨.none, he⟩, ⟨_, hit, rfl, rfl⟩, Nat.succ_ne_self _, Nat.zero_le _⟩, fun b hb => ?_, q⟩
    have e' : b = s1.heap.objs.size + 1 ∨ b = s1.heap.objs.size := by simpa using hb
    have hle : s1.heap.objs.size ≤ b := by
      rcases e' with z | z
      · rw [z]; exact Nat.le_add_right _ _
      · rw [z]; exact Nat.le_refl _
    exact I1.fpOk hle (I1.hok.fresh hle)
end
end DL

namespace DL
open PySem PySem.Spec PyProof.Rows L2
def enD (k : Nat) : List Dt → List Dt
  | [] => []
  | d :: ds => .tup [.int ((k : Nat) : Int), d] :: enD (k + 1) ds
theorem enD_get : ∀ {ds : List Dt} {k i : Nat}, (enD k ds)[i]? = (ds[i]?).map fun d => .tup [.int ((k + i : Nat) : Int), d]
  | [], _, _ => by simp [enD]
  | d :: ds, k, 0 => by simp [enD]
  | d :: ds, k, i + 1 => by
    unfold enD
    rw [List.getElem?_cons_succ, enD_get, List.getElem?_cons_succ]
    congr 2
    funext d
    rw [show k + 1 + i = k + (i + 1) by omega]
theorem enD_len : ∀ {ds : List Dt} {k : Nat}, (enD k ds).length = ds.length
  | [], _ => rfl
  | d :: ds, k => by unfold enD; rw [List.length_cons, enD_len, List.length_cons]
section
variable {K : PySem.W.Frag} {ft : List Addr} {F F1 H : Hp} {s : Sto}
theorem pair_lay {T : Addr} {x : V} {d : Dt} {i : Nat} (b : Bs K ft F H s) (n : H T = none) (r : Rep K F x d) : ∃ F3, Go ft F H F3 (upd H T (.tup [.int (i : Nat), x])) ∧ Bs K ft F3 (upd H T (.tup [.int (i : Nat), x])) s ∧ Rep K F3 (.ref T) (.tup [.int ((i : Nat) : Int), d]) := by
  obtain ⟨x1, b1⟩ := Go.lay (o := .tup [.int (i : Nat), x]) b n
  exact ⟨_, x1, b1, .tup (.inl (.inl upd_same)) (.inr (.inr ⟨_, _, rfl, fun b z => by cases z⟩)) (.cons (.int _) (.cons (Rep.mono x1.sam _ _ r) .nil))⟩
theorem walk_enL {a : Addr} {vs : List V} {ds : List Dt} (h : ∀ F H, Same F1 F → Same F H → SqL K H a vs) (r : Reps K F1 vs ds) : WalkJ K ft F1 (Ite K a) (enD 0 ds) := fun F H s i e b => by
  have q := h F H e b.sub
  refine ⟨fun hl => ⟨vs, q, by rw [r.length]; rw [enD_len] at hl; exact hl⟩, fun d hd => ?_⟩
  rw [enD_get, Nat.zero_add] at hd
  cases qd : ds[i]? with
  | none => rw [qd] at hd; cases hd
  | some d0 =>
    rw [qd] at hd; cases hd
    obtain ⟨v, e1, r1⟩ := r.get qd
    refine ⟨⟨vs, v, q, e1⟩, fun x H3 ⟨T, y, f1, f2, f3, f4⟩ => ?_⟩
    subst f1 f3
    have e2 := f4 vs q
    rw [e1] at e2; cases e2
    exact pair_lay b f2 (Rep.mono e _ _ r1)
theorem walk_enT {a : Addr} {vs : List V} {ds : List Dt} (h : SqT K F1 a vs) (r : Reps K F1 vs ds) : WalkJ K ft F1 (Itet K a) (enD 0 ds) := fun F H s i e b => by
  have q : SqT K H a vs := sqT_same b.sub (sqT_same e h)
  refine ⟨fun hl => ⟨vs, q, by rw [r.length]; rw [enD_len] at hl; exact hl⟩, fun d hd => ?_⟩
  rw [enD_get, Nat.zero_add] at hd
  cases qd : ds[i]? with
  | none => rw [qd] at hd; cases hd
  | some d0 =>
    rw [qd] at hd; cases hd
    obtain ⟨v, e1, r1⟩ := r.get qd
    refine ⟨⟨vs, v, q, e1⟩, fun x H3 ⟨T, y, f1, f2, f3, f4⟩ => ?_⟩
    subst f1 f3
    have e2 := f4 vs q
    rw [e1] at e2; cases e2
    exact pair_lay b f2 (Rep.mono e _ _ r1)
theorem walk_enS (z : Str) : WalkJ K ft F1 (Ites z) (enD 0 (z.cps.toList.map fun c => .str ⟨#[c]⟩)) := fun F H s i e b => by
  refine ⟨fun hl => by rw [enD_len, List.length_map, Array.length_toList] at hl; exact hl, fun d hd => ?_⟩
  rw [enD_get, Nat.zero_add, List.getElem?_map, Array.getElem?_toList] at hd
  cases qd : z.cps[i]? with
  | none => rw [qd] at hd; cases hd
  | some c =>
    rw [qd] at hd; cases hd
    refine ⟨(Array.getElem?_eq_some_iff.mp qd).1, fun x H3 ⟨T, c', f1, f2, f3, f4⟩ => ?_⟩
    subst f1 f3
    rw [qd] at f4; cases f4
    exact pair_lay b f2 (.str _)
end
def enumF (f : Fe) : Fi := fun env s => match f env s with
  | some (.lst xs, s') => some (enD 0 xs, s')
  | some (.tup xs, s') => some (enD 0 xs, s')
  | some (.str z, s') => some (enD 0 (z.cps.toList.map fun c => .str ⟨#[c]⟩), s')
  | _ => none
theorem i_enum {X : Cx} {O : List Nat} {tg e : Expr} {f : Fe} (hl : PI X tg e (iEnum X.K (tCons (tD X.K O f) tNil))) (ht : PI X tg e (iEnumT X.K (tCons (tD X.K O f) tNil))) (hs : PI X tg e (iEnumS (tCons (tD X.K O f) tNil))) : PI X tg e (tI X.K O (enumF f)) := pi_imp (pi_or hl (pi_or ht hs)) fun σ H R ⟨g, F, env, s, ds, s', st, hf, k⟩ => by
  unfold enumF at hf
  split at hf
  · rename_i xs s1 q
    cases hf
    refine .inl ⟨g, F, env, s, _, _, st, q, fun v F' H' x b r => ?_⟩
    cases r with
    | lst h1 h2 => exact ⟨_, _, rfl, SqL.of (b.sub _ _ h1), k _ F' H' x b (walk_enL (fun F2 H2 e1 e2 => SqL.of (e2 _ _ (e1 _ _ h1))) h2)⟩
  · rename_i xs s1 q
    cases hf
    refine .inr (.inl ⟨g, F, env, s, _, _, st, q, fun v F' H' x b r => ?_⟩)
    cases r with
    | tup h1 hp h2 => exact ⟨_, _, rfl, sqT_same b.sub h1, k _ F' H' x b (walk_enT h1 h2)⟩
  · rename_i z s1 q
    cases hf
    refine .inr (.inr ⟨g, F, env, s, _, _, st, q, fun v F' H' x b r => ?_⟩)
    cases r
    exact ⟨_, rfl, k _ F' H' x b (walk_enS z)⟩
  · cases hf
end DL

namespace DL
open PySem PySem.Spec PyProof.Rows L2
section
variable {K : PySem.W.Frag}
end
end DL

namespace DL
open PySem PySem.Spec PyProof.Rows L2 PySem.Froz
section
variable {P : Program} {w : World} {A : Around} {E : Value → Shared → Prop} {s : Shared}
theorem add_old {a : Addr} {T : String} {D : SD} {l : List Str} {k : Str} {u : Tok} {Q : Bool → Shared → Prop} (ho : s.heap.get? a = some (sObj T D)) (F : TxOk P w D l) (hk : k ∈ l) (hb : l.length < scanBound)
    (h : Q false s) : wpAny (model P w) A (setAddHashed a (.str k u) (hashStr w k)) Q E s := by
  obtain ⟨es, ep, t⟩ := D
  have hd : (sObj T (es, ep, t)).data = .set es ep t := rfl
  have hf : t.fits es.size = true := F.fit
  have hel : ElemsOf (strKind P w) es.toList := F.el
  have hsz : es.size = l.length := F.sz
  have hb0 : es.size < scanBound := by omega
  have hkey : (strKind P w).is k (.str k u) = true := is_str k u
  have hsome : ∃ j, List.findIdx? (fun e => (strKind P w).is k e.2) es.toList = some j := by
    cases hr : List.findIdx? (fun e => (strKind P w).is k e.2) es.toList with
    | some j => exact ⟨j, rfl⟩
    | none =>
      obtain ⟨e, he, q⟩ := (F.mem k).mp hk
      have := List.findIdx?_eq_none_iff.mp hr e he
      rw [q] at this; cases this
  obtain ⟨j, hsome⟩ := hsome
  unfold setAddHashed setAddHashedIn
  refine wpAny_holding (wpAny_bind (wpAny_setState_of ho hd hf ?_))
  dsimp only
  rw [byScan_of rfl hb0 hel]
  simp only [↓reduceIte]
  unfold setAddByScan
  refine wpAny_bind ?_
  refine wpAny_bind (wpAny_rule ?_)
  refine wpAny_bind (wpAny_setScan_of (knd := strKind P w) (k := k) hkey ho hd hf hel ?_)
  rw [hsome]
  dsimp only
  exact wpAny_pure (wpAny_pure h)
theorem tailTx_ris {ep : Nat} {es : Array (Int × Value)} {t : SetTable} {b : Bool} (r : Ris t.place.toList) : Ris (tailTx ep es t b).2.2.place.toList := by
  unfold tailTx
  by_cases c : (!b && t.tooFull) = true
  · rw [if_pos c]; exact relayAll_ris _ _ _
  · rw [if_neg c]; exact r
theorem tailTx_led {ep : Nat} {es : Array (Int × Value)} {t : SetTable} {b : Bool} : (tailTx ep es t b).2.2.led = t.led := by
  unfold tailTx
  by_cases c : (!b && t.tooFull) = true
  · rw [if_pos c]; exact relayAll_led _ _ _
  · rw [if_neg c]
theorem addTx_ris {h : Int} {v : Value} {D : SD} (r : Ris D.2.2.place.toList) : Ris (addTx h v D).2.2.place.toList := by
  have h1 := layNew_ris D.2.2 D.1 h v r
  refine tailTx_ris ?_
  split
  · exact h1
  · exact h1
theorem addTx_led {h : Int} {v : Value} {D : SD} : (addTx h v D).2.2.led = D.2.2.led := by
  have h1 := layNew_led D.2.2 D.1 h v
  refine tailTx_led.trans ?_
  split
  · exact h1
  · exact h1
def TxS (P : Program) (w : World) (h : Heap) (S : Addr) (l : List Str) : Prop := l.Nodup ∧ ∃ D : SD, h.get? S = some (sObj "set" D) ∧ TxOk P w D l ∧ Ris D.2.2.place.toList ∧ (w.params.followText "set-order" = true ∨ D.2.2.led = true)
end
section
variable {prog : Program} {w : World} {A : Around} {R : Result → Shared → Prop} {I : Addr} {fp wr : List Addr} {G : Array GenState → Array GenState → Prop} {n : Nat} {P : Nat → Value → Prop} {St : Nat → Shared → Prop}
theorem loopTx (W : WalksS prog w A.in1 I fp wr G n P St) (S : Addr) (hSf : S ∉ fp) (xs : List Str) (hsz : xs.length = n) (hn1 : n + 1 < scanBound)
    (hval : ∀ i v, P i v → ∃ t, v = .str (xs.getD i Str.empty) t) :
    ∀ (k i : Nat) (s : Shared) (l : List Str), n - i = k → i ≤ n → St i s → TxS prog w s.heap S l → (∀ x, x ∈ l ↔ x ∈ xs.take i) →
      (∀ s' l', Moved (S :: wr) G s s' → TxS prog w s'.heap S l' → (∀ x, x ∈ l' ↔ x ∈ xs) → R (.ok (.ret .none)) s') →
      codeAny (model prog w) A (.builtin "set.update.loop" ⟨[.ref S, .ref I], []⟩) R s := by
  have hSw : S ∉ wr := fun h => hSf (W.sub _ h)
  have hsub : ∀ b ∈ wr, b ∈ S :: wr := fun b hb => List.mem_cons_of_mem _ hb
  intro k
  induction k with
  | zero =>
    intro i s l hk hi hst hS hl hR
    have hin : i = n := by omega
    subst hin
    refine codeAny_builtin PyProof.Rows.F.entry_set_update_loop ?_
    rw [Around.under_plainId PyProof.Rows.F.plain_set_update_loop _]
    show wpAny _ A.in1 (pyNext (.ref I) >>= _) _ _ s
    refine wpAny_bind (W.done s _ _ hst fun s' hm => ?_)
    show wpAny _ A.in1 (ret Value.none) _ _ s'
    refine wpAny_pure (hR s' l (hm.mono hsub) ?_ fun x => ?_)
    · obtain ⟨nd, D, ho, rest⟩ := hS
      exact ⟨nd, D, hm.heap S _ hSw ho, rest⟩
    · rw [hl, List.take_of_length_le (by omega)]
  | succ k ih =>
    intro i s l hk hi hst hS hl hR
    have hlt : i < n := by omega
    refine codeAny_builtin PyProof.Rows.F.entry_set_update_loop ?_
    rw [Around.under_plainId PyProof.Rows.F.plain_set_update_loop _]
    show wpAny _ A.in1 (pyNext (.ref I) >>= _) _ _ s
    refine wpAny_bind (W.item i s _ _ hlt hst fun v s' hP hst' hm => ?_)
    obtain ⟨t, rfl⟩ := hval i v hP
    obtain ⟨nd, D, ho, hT, hr, hled⟩ := hS
    have ho' : s'.heap.get? S = some (sObj "set" D) := hm.heap S _ hSw ho
    have hll : l.length ≤ i := by
      have key : ∀ {l m : List Str}, l.Nodup → (∀ x ∈ l, x ∈ m) → l.length ≤ m.length := by
        intro l
        induction l with
        | nil => exact fun _ _ => Nat.zero_le _
        | cons x l ih =>
          intro m h hs
          obtain ⟨h1, h2⟩ := List.nodup_cons.mp h
          have ih := ih (m := m.erase x) h2 fun y hy => (List.mem_erase_of_ne (fun e => h1 (by rw [← e]; exact hy))).mpr (hs y (List.mem_cons_of_mem _ hy))
          have hx := hs x List.mem_cons_self
          have := List.length_erase_of_mem hx
          have := List.length_pos_of_mem hx
          rw [List.length_cons]
          omega
      have := key nd fun x hx => (hl x).mp hx
      rw [List.length_take] at this
      omega
    have htake : ∀ x, x ∈ xs.take (i + 1) ↔ x ∈ xs.take i ∨ x = xs.getD i Str.empty := fun x => by
      rw [List.take_succ, List.mem_append]
      have : xs[i]? = some (xs.getD i Str.empty) := by rw [List.getD_eq_getElem?_getD, List.getElem?_eq_getElem (by omega)]; rfl
      rw [this]
      simp
    show wpAny _ A.in1 (holding [Value.str (xs.getD i Str.empty) t] (setAdd S (.str (xs.getD i Str.empty) t)) >>= _) _ _ s'
    refine wpAny_bind (wpAny_holding ?_)
    unfold setAdd
    refine wpAny_holding ?_
    refine wpAny_bind ((PySem.strKind prog w).pyHash (k := xs.getD i Str.empty) (strKind_is _ _ _ _) ?_)
    by_cases hx : xs.getD i Str.empty ∈ l
    · refine add_old (s := { s' with toks := s'.toks + 1 }) ho' hT hx (by omega) ?_
      refine wpAny_pure ⟨plainId_quiet PyProof.Rows.F.plain_set_update_loop _, ih (i + 1) _ l (by omega) hlt (W.frame _ s' _ _ hst' (Nat.le_succ _) fun b hb o e => e) ⟨nd, D, ho', hT, hr, hled⟩ (fun x => ?_) fun s'' l' hm'' hS'' hl'' => ?_⟩
      · rw [htake, hl]
        exact ⟨.inl, fun z => z.elim (fun z => z) fun z => by rw [z]; exact (hl _).mp hx⟩
      · exact hR s'' l' (Moved.trans W.gtrans ((hm.mono hsub).then_heap (Nat.le_succ _) fun b o hb e => e) hm'') hS'' hl''
    · refine add_x (s := { s' with toks := s'.toks + 1 }) ho' hT hx (by omega) ?_
      have hup : ∀ b o, b ≠ S → s'.heap.get? b = some o → (s'.heap.update S fun _ => sObj "set" (addTx (hashStr w (xs.getD i Str.empty)) (.str (xs.getD i Str.empty) t) D)).get? b = some o := fun b o hb e => (Heap.get?_update_other _ _ (Ne.symm hb)).trans e
      refine wpAny_pure ⟨plainId_quiet PyProof.Rows.F.plain_set_update_loop _, ih (i + 1) _ (xs.getD i Str.empty :: l) (by omega) hlt (W.frame _ s' _ _ hst' (Nat.le_succ _) fun b hb o e => hup b o (fun h : b = S => hSf (by rw [← h]; exact hb)) e)
        ⟨List.nodup_cons.mpr ⟨hx, nd⟩, addTx (hashStr w (xs.getD i Str.empty)) (.str (xs.getD i Str.empty) t) D, get_upd _ ho' rfl, add_ok t hT, addTx_ris hr, by rw [addTx_led]; exact hled⟩ (fun x => ?_) fun s'' l' hm'' hS'' hl'' => ?_⟩
      · rw [htake, List.mem_cons, hl]
        exact Or.comm
      · refine hR s'' l' (Moved.trans W.gtrans ((hm.mono hsub).then_heap (Nat.le_succ _) fun b o hb e => ?_) hm'') hS'' hl''
        exact hup b o (fun h : b = S => hb (by rw [h]; exact List.mem_cons_self)) e
end
end DL

namespace DL
open PySem PySem.Spec PyProof.Rows L2 PySem.Froz
section
variable {P : Program} {w : World} {A : Around} {E : Value → Shared → Prop} {s : Shared}
abbrev newSet (w : World) : Obj := { cls := .type "set", dict := none, data := .set #[] 0 (.fresh 0 0 (!w.params.followText "set-order")) }
theorem newSet_tx {h : Heap} {S : Addr} (e : h.get? S = some (newSet w)) : TxS P w h S [] := by
  refine ⟨.nil, (#[], 0, .fresh 0 0 (!w.params.followText "set-order")), e, TxOk.nil rfl, List.Pairwise.nil, ?_⟩
  cases q : w.params.followText "set-order" with
  | true => exact .inl rfl
  | false => exact .inr rfl
theorem set_list {l : Addr} {items : Array Value} {xs : List Str} {Q : Value → Shared → Prop} (hh : A.handled = none) (hl : s.heap.IsList l items) (hi : StrsAre items.toList xs) (hn1 : xs.length + 1 < scanBound)
    (h : ∀ (h' : Heap) (tk : Nat) (ys : List Str), TxS P w h' s.heap.objs.size ys → (∀ x, x ∈ ys ↔ x ∈ xs) → (∀ b o, s.heap.get? b = some o → h'.get? b = some o) → Q (.ref s.heap.objs.size) { s with heap := h', toks := tk }) :
    wpAny (model P w) A (call (.type "set") [.ref l]) Q E s := by
  obtain ⟨c, tl, hmro⟩ := F.called_set.mro
  have hmade := F.called_set.made
  have hsub := F.called_set.sub
  refine wpAny_call (codeAny_of_tree ?_)
  show wpAny _ _ (callAny (.type "set") _) _ _ _
  refine wpAny_pure ⟨Code.quiet_builtin _ (by decide +kernel), codeAny_builtin F.entry_type_call ?_⟩
  rw [Around.under_plain (weight_type_call_type "set" [.ref l] []) rfl]
  have h1 := F.called_set.notType
  have h2 := F.called_set.canCreate
  have hct := F.typeCall_set_1 (.ref l)
  repeat (any_goals (first | assumption | wp_step))
  refine codeAny_mono (code_set_led1 (.ref l) (E := E) (Q₁ := fun obj s₁ => obj = .ref s.heap.objs.size ∧ s₁ = { s with heap := s.heap.push (newSet w) }) ⟨rfl, rfl⟩) fun r s₁ hr => ?_
  cases r with
  | error e => exact hr
  | ok fl =>
    cases fl with
    | ret obj =>
      obtain ⟨rfl, rfl⟩ := hr
      have hS : (s.heap.push (newSet w)).get? s.heap.objs.size = some (newSet w) := Heap.get?_push_size _ rfl
      have hT : Shared.TypeIs { s with heap := s.heap.push (newSet w) } (.ref s.heap.objs.size) "set" := ⟨_, hS, rfl⟩
      have hli := F.called_set.init.lookup
      have hbi := F.called_set.init.bind (.ref s.heap.objs.size)
      repeat (any_goals (first | assumption | wp_step))
      refine codeAny_mono (codeAny_call_builtin (R := wants (fun r s₂ => r = .none ∧ ∃ h' tk ys, s₂ = { s with heap := h', toks := tk } ∧ TxS P w h' s.heap.objs.size ys ∧ (∀ x, x ∈ ys ↔ x ∈ xs) ∧
          (∀ b o, s.heap.get? b = some o → h'.get? b = some o)) E) F.called_set.init.plain F.entry_set_init (check_set_init_1 hT ?_)) fun r₂ s₂ hr₂ => ?_
      · obtain ⟨ol, hol, hcl, nl, hdl⟩ := hl
        obtain ⟨ocls, odict, odata, oslots⟩ := ol
        simp only at hcl hdl
        subst hcl; subst hdl
        have hol' : (s.heap.push (newSet w)).get? l = some { cls := .type "list", dict := odict, data := .seq items nl, slots := oslots } := Heap.get?_push_of_some _ hol
        have hsls := F.sub_list_set
        have hslf := F.sub_list_frozenset
        have hne : (Value.type "list" == Value.type "dict") = false := by decide
        have hl1 : (s.heap.push (newSet w)).IsList l items := ⟨_, hol', rfl, nl, rfl⟩
        unfold Builtin.«set.__init__» noKeywords Builtin.Frozenset.updateFrom
        generalize hPI : pyIter = PI
        wp_walk
        subst hPI
        refine wpAny_pyIter_list hl1 ?_
        refine wpAny_bind (wpAny_runValue ?_)
        have hlS : l < s.heap.objs.size := Heap.lt_size hol
        have hh3 : A.in1.in1.in1.handled = none := by simp [hh]
        have hz1 : (s.heap.push (newSet w)).objs.size = s.heap.objs.size + 1 := Heap.size_push ..
        have hneI : l ≠ (s.heap.push (newSet w)).objs.size := by rw [hz1]; exact Nat.ne_of_lt (Nat.lt_succ_of_lt hlS)
        have hSf : s.heap.objs.size ∉ [(s.heap.push (newSet w)).objs.size, l] := by
          rw [hz1]; simp only [List.mem_cons, List.mem_singleton, List.not_mem_nil, or_false, not_or]
          exact ⟨Nat.ne_of_lt (Nat.lt_succ_self _), Nat.ne_of_gt hlS⟩
        have hsz : xs.length = items.size := by rw [← StrsAre.len_eq hi, Array.length_toList]
        have hval : ∀ (i : Nat) (v : Value), items[i]? = some v → ∃ t, v = .str (xs.getD i Str.empty) t := fun i v hv => SS.strs_at hi i v (by rw [Array.getElem?_toList]; exact hv)
        refine loopTx ((Walks.list hh3 _ l hneI items).toS) s.heap.objs.size hSf xs hsz (by omega) hval (items.size - 0) 0 _ [] (by omega) (Nat.zero_le _)
          ⟨⟨_, Heap.get?_push_size _ rfl, rfl, rfl⟩, (hl1.push _)⟩ (newSet_tx (Heap.get?_push_of_some _ hS)) (fun x => by simp) fun s' ys hm hS' hy => ?_
        obtain ⟨h', g', d', tk', os'⟩ := s'
        have eg : g' = s.gens := hm.gens
        have ed : d' = s.drawn := hm.drawn
        have eo : os' = s.os := hm.os
        subst eg; subst ed; subst eo
        show wpAny _ _ _ _ _ _
        refine wpAny_pure ?_
        show wpAny _ _ (ret Value.none) _ _ _
        refine wpAny_pure ⟨rfl, h', tk', ys, rfl, hS', hy, fun b o e => ?_⟩
        have hb : b < s.heap.objs.size := Heap.lt_size e
        have hb1 : b ≠ s.heap.objs.size := Nat.ne_of_lt hb
        have hb2 : b ≠ (s.heap.push (newSet w)).objs.size := by rw [hz1]; exact Nat.ne_of_lt (Nat.lt_succ_of_lt hb)
        exact hm.heap b o (by simp only [List.mem_cons, List.mem_singleton, List.not_mem_nil, or_false, not_or]; exact ⟨hb1, hb2⟩) (Heap.get?_push_of_some _ (Heap.get?_push_of_some _ e))
      · cases r₂ with
        | error e => exact hr₂
        | ok fl₂ =>
          cases fl₂ with
          | ret r =>
            obtain ⟨rfl, h', tk, ys, rfl, hS', hy, hk'⟩ := hr₂
            repeat (any_goals (first | assumption | wp_step))
            exact h _ _ _ hS' hy hk'
          | _ => exact hr₂.elim
    | _ => exact hr.elim
end
end DL

namespace DL
open PySem PySem.Spec PyProof.Rows L2 PySem.Froz
theorem perm_of_sub {α : Type} [BEq α] [LawfulBEq α] : ∀ {l m : List α}, l.Nodup → (∀ x ∈ l, x ∈ m) → m.length ≤ l.length → m.Perm l
  | [], m, _, _, hl => by rw [List.eq_nil_of_length_eq_zero (Nat.le_zero.mp hl)]
  | x :: l, m, h, hs, hl => by
    obtain ⟨h1, h2⟩ := List.nodup_cons.mp h
    have hx := hs x List.mem_cons_self
    have := List.length_erase_of_mem hx
    have := List.length_pos_of_mem hx
    have ih := perm_of_sub (m := m.erase x) h2 (fun y hy => (List.mem_erase_of_ne (fun e => h1 (by rw [← e]; exact hy))).mpr (hs y (List.mem_cons_of_mem _ hy))) (by rw [List.length_cons] at hl; omega)
    exact (List.perm_cons_erase hx).trans (ih.cons x)
section
variable {P : Program} {w : World} {A : Around} {E : Value → Shared → Prop} {s : Shared}
theorem strs_of_members : ∀ {es : List (Int × Value)}, ElemsOf (strKind P w) es → ∃ zs, StrsAre (es.map (·.2)) zs ∧ ∀ k, (∃ e ∈ es, (strKind P w).is k e.2 = true) → k ∈ zs
  | [], _ => ⟨[], .nil, fun k ⟨e, he, _⟩ => absurd he List.not_mem_nil⟩
  | e :: es, h => by
    obtain ⟨zs, h1, h2⟩ := strs_of_members (es := es) fun x hx => h x (List.mem_cons_of_mem _ hx)
    obtain ⟨⟨k, hk, _⟩, _⟩ := h e List.mem_cons_self
    have hk' : ∃ t, e.2 = .str k t := by
      have hk : Value.isStrOf k e.2 = true := hk
      cases q : e.2 with
      | str x t =>
        rw [q] at hk
        have : x = k := by simpa [Value.isStrOf] using hk
        exact ⟨t, by rw [this]⟩
      | _ => rw [q] at hk; simp [Value.isStrOf] at hk
    obtain ⟨t, et⟩ := hk'
    refine ⟨k :: zs, ?_, fun k' ⟨e', he', q⟩ => ?_⟩
    · rw [List.map_cons, et]
      exact .cons k t h1
    · rcases List.mem_cons.mp he' with rfl | he'
      · rw [(strKind P w).inj e'.2 k' k q hk]
        exact List.mem_cons_self
      · exact List.mem_cons_of_mem _ (h2 k' ⟨e', he', q⟩)
theorem sorted_setX {a : Addr} {ys : List Str} {Q : Value → Shared → Prop} (R : TxS P w s.heap a ys) (hh : A.handled = none) (hb : ys.length < scanBound)
    (hQ : ∀ s' p (out : Array Value) (c : Nat) (zs : List Str), (∀ b o, s.heap.get? b = some o → s'.heap.get? b = some o) → s'.gens = s.gens → s'.os = s.os → s.heap.objs.size ≤ p →
      s'.heap.get? p = some (seqObj "list" out c) → StrsAre out.toList zs → zs.Perm ys → sortedS zs = true → Q (.ref p) s') :
    wpAny (model P w) A (call (.builtin "sorted") [.ref a]) Q E s := by
  obtain ⟨nd, ⟨es, ep, t⟩, ho, hT, hr, hled⟩ := R
  have hsz : es.size = ys.length := hT.sz
  obtain ⟨zs0, hs0, hm0⟩ := strs_of_members (P := P) (w := w) (es := es.toList) hT.el
  have hl0 : zs0.length = es.size := by
    have := StrsAre.length hs0
    rw [List.length_map, Array.length_toList] at this
    first | exact this | exact this.symm
  have p0 : zs0.Perm ys := perm_of_sub nd (fun x hx => hm0 x ((hT.mem x).mp hx)) (Nat.le_of_eq (hl0.trans hsz))
  refine Calls.call_function_entry kind_sorted plain_sorted entry_sorted (args_sorted1 _) ?_
  unfold Builtin.«sorted»
  refine wpAny_bind (m := checkCount "sorted" 1 1 _) (wpAny_pure ?_)
  refine wpAny_bind (collect_set (A := A.in1) hh ⟨_, ho, rfl, rfl⟩ hT.fit (show es.size < scanBound by omega) hr hled fun s1 vs k1 hz g1 o1 pm => ?_)
  have hvl : vs.length = ys.length := by rw [pm.length_eq, List.length_map, Array.length_toList, hsz]
  have hvs : ∃ zs, StrsAre vs zs ∧ zs.Perm ys := by
    have key : ∀ {us vs : List Value}, us.Perm vs → ∀ {ks : List Str}, StrsAre vs ks → ∃ zs, StrsAre us zs ∧ zs.Perm ks := by
      intro us vs p
      induction p with
      | nil => intro ks h; exact ⟨ks, h, .refl _⟩
      | cons x p ih =>
        intro ks h
        cases h with
        | cons k t h =>
          obtain ⟨zs, h1, h2⟩ := ih h
          exact ⟨k :: zs, .cons k t h1, h2.cons k⟩
      | swap x y l =>
        intro ks h
        cases h with
        | cons k t h =>
          cases h with
          | cons k2 t2 h => exact ⟨_, .cons k2 t2 (.cons k t h), List.Perm.swap _ _ _⟩
      | trans _ _ ih1 ih2 =>
        intro ks h
        obtain ⟨z1, h1, h2⟩ := ih2 h
        obtain ⟨z2, h3, h4⟩ := ih1 h1
        exact ⟨z2, h3, h4.trans h2⟩
    obtain ⟨zs, h1, h2⟩ := key pm hs0
    exact ⟨zs, h1, h2.trans p0⟩
  obtain ⟨zs, hzs, pz⟩ := hvs
  have hsl : vs.length ≤ sizeLine := by rw [sizeLine_eq]; unfold scanBound at hb; omega
  refine wpAny_bind (wpAny_newList ?_ (by simpa using hsl))
  have hoL : (s1.heap.push (seqObj "list" vs.toArray 0)).get? s1.heap.objs.size = some (seqObj "list" vs.toArray 0) := Heap.get?_push_size _ rfl
  refine wpAny_bind (wpAny_holding (wpAny_call_entry slot_list_sort ⟨_, hoL, rfl⟩ entry_list_sort (list_sort_treeKAny (s := { s1 with heap := s1.heap.push (seqObj "list" vs.toArray 0) }) strKind_oneLt hoL hzs.keysOf (fun v₁ v₂ rest e => keyKind_strs (by rw [← e]; exact hzs)) hsl fun st' a1 a2 => ⟨_, rfl, ?_⟩) (args_list_sort _)))
  obtain ⟨zs', b1, b2, b3⟩ := sorted_out_str hzs a1 a2
  obtain ⟨c, hc⟩ := sortedHeap_at (vs := vs) (out := (arrOf st').map (·.2)) hoL
  refine wpAny_pure ⟨_, rfl, hQ _ s1.heap.objs.size _ c zs' (fun b u e => ?_) g1 o1 hz hc b1 (b2.trans pz) b3⟩
  have q := k1 b u e
  have hlt := Heap.lt_size q
  show (sortedHeap (s1.heap.push (seqObj "list" vs.toArray 0)) s1.heap.objs.size vs _).get? b = some u
  rw [sortedHeap_old (Nat.ne_of_lt hlt) (by rw [size_push']; exact Nat.lt_succ_of_lt hlt)]
  exact Heap.get?_push_of_some _ q
end
end DL

namespace DL
open PySem PySem.Spec PyProof.Rows L2 PySem.Froz
def SetX (P : Program) (w : World) (a : Addr) (ys : List Str) : HO := .ext fun h => TxS P w h a ys
theorem setX_new {P : Program} {w : World} {H : Hp} {h : Heap} {a : Addr} {ys : List Str} (R : TxS P w h a ys) : ObjOk P w H h a (SetX P w a ys) := by
  have ⟨nd, D, ho, q⟩ := R
  refine ⟨R, ⟨_, ho⟩, fun h1 h2 p k => ?_⟩
  have ⟨nd', D', ho', q'⟩ := (show TxS P w h1 a ys from p)
  exact ⟨nd', D', k _ ho', q'⟩
def rSetX (K : PySem.W.Frag) (P : Program) (w : World) : List V → Hp → VK → Prop := fun xs H Q => ∃ (l : Addr) (zs : List Str), xs = [V.ref l] ∧ SqL K H l (zs.map V.str) ∧ zs.length + 1 < scanBound ∧
  ∀ a ys, H a = none → ys.Nodup → (∀ x, x ∈ ys ↔ x ∈ zs) → Q (.ref a) (upd H a (SetX P w a ys))
def rSortedX (P : Program) (w : World) : List V → Hp → VK → Prop := fun xs H Q => ∃ (a : Addr) (ys : List Str), xs = [V.ref a] ∧ H a = some (SetX P w a ys) ∧ ys.length < scanBound ∧
  ∀ (zs : List Str) (p : Addr), zs.Perm ys → sortedS zs = true → H p = none → Q (.ref p) (upd H p (.lst (zs.map V.str)))
section
variable {X : Cx}
theorem cr_setX (hc : X.calm = true) : CallR X (.type "set") (rSetX X.K X.prog X.w) := by
  intro pins s σ H xs us Q I r h
  obtain ⟨l, zs, rfl, hl, hb, q⟩ := h
  rw [Vals.ref1 r]
  obtain ⟨its, rv, pl, hz⟩ := I.list hl
  have hn : H s.heap.objs.size = none := I.hok.fresh (Nat.le_refl _)
  refine set_list (I.ok.hd hc) pl.isList (by simpa using rv.strs) hb fun h' tk ys R hy k => ?_
  exact ⟨.ref s.heap.objs.size, upd H s.heap.objs.size (SetX X.prog X.w s.heap.objs.size ys), I.laid (t' := tk) k (Nat.le_refl _) (setX_new R), rfl, q _ ys hn R.1 hy⟩
theorem cr_sortedX (hc : X.calm = true) : CallR X (.builtin "sorted") (rSortedX X.prog X.w) := by
  intro pins s σ H vs us Q I r h
  obtain ⟨a, ys, rfl, ha, hb, q⟩ := h
  have R0 : TxS X.prog X.w s.heap a ys := (I.hok a _ ha).1
  rw [Vals.ref1 r]
  refine sorted_setX R0 (I.ok.hd hc) hb fun s' p out c zs k g o hp hg hout pm pw => ?_
  have hlen : (zs.map V.str).length ≤ sizeLine := by rw [List.length_map, pm.length_eq, sizeLine_eq]; unfold scanBound at hb; omega
  have hn : H p = none := I.hok.fresh hp
  have J : Inv X pins σ (upd H p (.lst (zs.map V.str))) { s with heap := s'.heap, gens := s'.gens, drawn := s'.drawn, toks := s'.toks } :=
    I.call (ch := []) (Un.laid k hp hn) (I.hok.laid k hp ⟨hlen, out.toList, c, vals_of_strs hout, hg⟩) (by rw [g]; exact I.bare) (fun _ z => nomatch z)
  have e : s' = { s with heap := s'.heap, gens := s'.gens, drawn := s'.drawn, toks := s'.toks } := by
    cases s'
    cases s
    cases o
    rfl
  rw [e]
  exact ⟨.ref p, _, J, rfl, q zs p pm pw hn⟩
end
end DL

namespace DL
open PySem PySem.Spec PyProof.Rows L2 PySem.Froz
def ddS : List Str → List Str
  | [] => []
  | x :: r => if x ∈ r then ddS r else x :: ddS r
theorem ddS_mem {y : Str} : ∀ {l : List Str}, y ∈ ddS l ↔ y ∈ l
  | [] => Iff.rfl
  | x :: r => by
    unfold ddS
    split
    · rename_i h
      rw [ddS_mem]
      exact ⟨fun z => List.mem_cons_of_mem _ z, fun z => (List.mem_cons.mp z).elim (fun e => e ▸ h) fun z => z⟩
    · rw [List.mem_cons, List.mem_cons, ddS_mem]
theorem ddS_nd : ∀ {l : List Str}, (ddS l).Nodup
  | [] => .nil
  | x :: r => by
    unfold ddS
    split
    · exact ddS_nd
    · rename_i h
      exact List.nodup_cons.mpr ⟨fun z => h (ddS_mem.mp z), ddS_nd⟩
def sortSetG (_ : Sto) : Dt → Option Dt
  | .lst xs => match strsOf xs with
    | some zs => if zs.length + 1 < scanBound then some (.lst ((sortS (ddS zs)).map .str)) else none
    | none => none
  | _ => none
section
variable {X : Cx} {O : List Nat} {e : Expr} {f : Fe} {p1 p2 p3 p4 : Pos}
theorem n_sortset (hc : X.calm = true) (hg : Gl X "sorted") (hm : X.mg "sorted" = none) (hg2 : Gl X "set") (hm2 : X.mg "set" = none) (he : PE X e (tB X.K O f))
    (h1 : starEach [e] X.env = (false, eval e X.env) :: starEach [] X.env := by rfl) (h2 : starEach [.Call (.Name "set" p1) [e] [] p2] X.env = (false, eval (.Call (.Name "set" p1) [e] [] p2) X.env) :: starEach [] X.env := by rfl) :
    PE X (.Call (.Name "sorted" p3) [.Call (.Name "set" p1) [e] [] p2] [] p4) (tN X.K O (bind1 f sortSetG)) := by
  have hs := pe_callTy (pos := p2) (p := p1) (cr_setX hc) hg2 hm2 (by rfl) (pa_cons he pa_nil h1) (by decide) (by decide) h1 (by rfl)
  have ho := pe_callB (pos := p4) (p := p3) (cr_sortedX hc) hg hm (by rfl) (pa_cons hs pa_nil h2) (by decide) (by decide) h2 (by rfl)
  refine pe_imp ho fun σ H Q ⟨g, F, env, s, d, s', st, hf, k⟩ => ?_
  obtain ⟨x, q1, q2⟩ := bind1_some hf
  refine ⟨g, F, env, s, x, s', st, q1, fun v F1 H1 x1 b1 r1 => ?_⟩
  unfold sortSetG at q2
  split at q2
  · rename_i xs
    split at q2
    · rename_i zs qz
      split at q2 <;> cases q2
      rename_i hb
      obtain ⟨a, vs, rfl, ea, rs⟩ := r1.lst b1
      rw [strs_map qz] at rs
      rw [rs.of_strs] at ea
      refine ⟨a, zs, rfl, SqL.of ea, hb, fun a2 ys n2 nd hy => ?_⟩
      have py : ys.Perm (ddS zs) := (List.perm_ext_iff_of_nodup nd ddS_nd).mpr fun x => by rw [hy, ddS_mem]
      obtain ⟨x2, b2, nF2⟩ := Go.made (o := SetX X.prog X.w a2 ys) b1 n2
      have hys : ys.length < scanBound := by
        have := perm_of_sub (l := ys) (m := ys) nd (fun x h => h) (Nat.le_refl _)
        have key : ∀ l : List Str, (ddS l).length ≤ l.length := by
          intro l
          induction l with
          | nil => exact Nat.le_refl _
          | cons x r ih => unfold ddS; split <;> simp only [List.length_cons] <;> omega
        have := key zs
        rw [← py.length_eq] at this
        omega
      refine ⟨a2, ys, rfl, upd_same, hys, fun zs' p pm so np => ?_⟩
      obtain ⟨x3, b3, nF3⟩ := Go.made (o := .lst (zs'.map V.str)) b2 np
      have ez : zs' = sortS (ddS zs) := sortK_eq (pm.trans py) (sortedS_pw so) fun a b _ _ h => h
      exact k p (.lst (zs'.map V.str)) F1 _ ((x1.trans x2 b1).trans x3 b2) b3 (x1.free b1 (x2.free b2 np)) nF3 upd_same (by rw [← ez]; exact .lst (Reps.strs _))
    · cases q2
  · cases q2
end
end DL

namespace DL
open PySem PySem.Spec PyProof.Rows L2
structure CstAt (K : PySem.W.Frag) (mg : Str → Option Value) (x : Str) (d : Dt) : Prop where
  ex : ∃ v u, mg x = some u ∧ RelV v u ∧ ∀ F, Rep K F v d
def relsB : List Value → List Str → Bool
  | [], [] => true
  | .str y _ :: us, x :: xs => y == x && relsB us xs
  | _, _ => false
theorem relsB_ok : ∀ {us : List Value} {xs : List Str}, relsB us xs = true → Vals (xs.map V.str) us
  | [], [], _ => .nil
  | [], _ :: _, h => by cases h
  | u :: us, [], h => by cases u <;> cases h
  | u :: us, x :: xs, h => by
    cases u with
    | str y t =>
      simp only [relsB, Bool.and_eq_true, beq_iff_eq] at h
      obtain ⟨rfl, h⟩ := h
      exact .cons ⟨t, rfl⟩ (relsB_ok h)
    | _ => cases h
theorem cst_then {g : Prop} {K : PySem.W.Frag} {mg : Str → Option Value} (x : Str) (xs : List Str) {h : Heap} {a : Addr} {its : Array Value} {n : Nat} {osl : Array (Option Value)} (KX : K.In h) (G : h.Ns mainGlobals mg) (e : PySem.W.nsIn K mainGlobals x = some (some (.ref a)))
    (l : K.lookup a = some ⟨.type "tuple", none, .seq its n, osl⟩) (hz : its.size ≤ sizeLine) (hv : relsB its.toList xs = true) (go : CstAt K mg x (.tup (xs.map Dt.str)) → g) : g := by
  refine go ⟨.ref a, .ref a, PySem.W.mg_of KX G e, rfl, fun F => .tup (xs := xs.map V.str) (.inr ⟨_, its, n, l, rfl, rfl, hz, relsB_ok hv⟩) (.inr (.inl ⟨_, l, rfl⟩)) (Reps.strs xs)⟩
section
variable {X : Cx} {O : List Nat} {x : Str} {d : Dt} {pos : Pos}
theorem d_glob (C : CstAt X.K X.mg x d) (hg : Gl X x) (hd : (x == ("__debug__" : Str)) = false := by decide) : PE X (.Name x pos) (tD X.K O (fC d)) := by
  obtain ⟨v, u, m, r, q⟩ := C.ex
  exact d_c (pe_glob hg m r hd) q
end
end DL

namespace DL
open PySem PySem.Spec PyProof.Rows L2 PySem.Froz
section
variable {prog : Program} {w : World} {A : Around} {E : Value → Shared → Prop} {s : Shared} {T : String} {r d : Addr} {n : Nat} {P : Nat → Value → Prop} {OK : Heap → Prop}
end
end DL

namespace DL
open PySem PySem.Spec PyProof.Rows L2 PySem.Froz
end DL

namespace DL
open PySem PySem.Spec PyProof.Rows L2 PySem.Froz
section
variable {X : Cx} {o : Expr} {td : TE} {apos cpos : Pos}
end
section
variable {X : Cx} {O : List Nat} {e : Expr} {f : Fe} {p1 p2 p3 p4 : Pos}
end
section
variable {X : Cx} {O : List Nat} {e : Expr} {f : Fe} {p1 p2 p3 p4 : Pos}
end
end DL

namespace DL
open PySem PySem.Spec PyProof.Rows L2
section
variable {prog : Program} {w : World} {A : Around} {E : Value → Shared → Prop} {s : Shared}
end
end DL

namespace DL
open PySem PySem.Spec PyProof.Rows L2 PySem.Froz
section
variable {X : Cx} {L O : List Nat} {e : Expr} {f : Fe} {i : Nat} {x : Str} {p1 pos : Pos}
end
def sidxG (_ : Sto) : Dt → Dt → Option Dt
  | .str a, .str b => match Builtin.Str.occurrences a b 0 a.length 1 with
    | i :: _ => some (.int (i : Nat))
    | [] => none
  | _, _ => none
section
variable {X : Cx} {O : List Nat} {o e : Expr} {fa fb : Fe} {apos cpos : Pos}
theorem d_sindex (ha : PE X o (tB X.K O fa)) (hb : PE X e (tB X.K O fb))
    (hbase : attributeBase o "index" X.env (eval o X.env) = eval o X.env := by rfl)
    (hfew : ((backTo cpos (starEach [e] X.env)).all (fun x => !x.1) && (backToKw cpos (keywordEach [] X.env)).all (fun x => x.1.isSome)
      && decide ([e].length + ([] : List Keyword).length + (if ([] : List Keyword).isEmpty then 0 else 1) < 30)) = true := by rfl)
    (hline : (apos.endLine == cpos.line) = true := by rfl) (hs : starEach [e] X.env = (false, eval e X.env) :: starEach [] X.env := by rfl) (hplain : (backTo cpos (starEach [] X.env)).any (·.1) = false := by rfl) :
    PE X (.Call (.Attribute o "index" apos) [e] [] cpos) (tD X.K O (bind2 (toStrOnly fa) fb sidxG)) :=
  pe_imp (pe_bm PySem.F.plainAttrs_str PySem.F.slot_str_index PySem.F.type_str_index mt_sindex ha (pa_cons hb pa_nil hs) hbase hfew hline hs hplain) fun σ H Q ⟨g, F, env, s, d, s', st, hf, k⟩ => by
  obtain ⟨x, s1, y, q1, q2, q3⟩ := bind2_some hf
  obtain ⟨z, rfl, qz⟩ := toStr_some q1
  refine ⟨g, F, env, s, _, s1, st, qz, fun v F1 H1 x1 b1 r1 => ?_⟩
  obtain rfl := r1.str
  refine ⟨rfl, g, F1, env, s1, y, s', st.step x1 b1, q2, fun w F2 H2 x2 b2 r2 => ?_⟩
  cases y <;> simp only [sidxG] at q3 <;> try (cases q3; done)
  rename_i b
  obtain rfl := r2.str
  split at q3
  · rename_i i rest qo
    cases q3
    exact ⟨z, b, i, rest, rfl, rfl, qo, k _ F2 H2 (x1.trans x2 b1) b2 (.int _)⟩
  · cases q3
end
end DL

namespace DL
open PySem PySem.Spec PyProof.Rows L2 PySem.Froz
section
variable {P : Program} {w : World} {A : Around} {E : Value → Shared → Prop} {s : Shared}
end
section
variable {X : Cx}
end
section
variable {X : Cx} {O : List Nat} {e : Expr} {f : Fe} {p1 p2 p3 p4 : Pos}
end
end DL

namespace DL
open PySem PySem.Spec PyProof.Rows L2 PySem.Froz
section
variable {X : Cx} {O : List Nat} {tg e : Expr} {f : Fe}
end
section
variable {K : PySem.W.Frag} {O : List Nat} {fi : Fi} {st : Tg} {tt : Ft} {te : Fe} {vs : List Nat}
end
section
variable {X : Cx} {O : List Nat} {elt tg iter kx vx c : Expr} {ifs : List Expr} {scope : Scope} {own : List (Str × Nat)} {pos : Pos} {fi : Fi} {tt : Ft} {te tk : Fe}
end
end DL

namespace DL
open PySem PySem.Spec PyProof.Rows L2
def popF (i : Nat) : FeX := fun env s => match lstAt env i with
  | some ds => match ds[ds.length - 1]? with
    | some d => some (d, env.set i (some (.lst ds.dropLast)), s)
    | none => none
  | none => none
def setX (i : Nat) (f : FeX) : Fs := fun env s => match f env s with
  | some (d, e', s1) => some (.nx (e'.set i (some d)), s1)
  | none => none
section
variable {K : PySem.W.Frag} {F : Hp}
theorem Reps.erase : ∀ {vs : List V} {ds : List Dt} (n : Nat), Reps K F vs ds → Reps K F (vs.eraseIdx n) (ds.eraseIdx n)
  | [], [], _, _ => .nil
  | [], _ :: _, _, h => by cases h
  | _ :: _, [], _, h => by cases h
  | _ :: _, _ :: _, 0, h => by cases h with | cons h1 h2 => exact h2
  | _ :: _, _ :: _, n + 1, h => by cases h with | cons h1 h2 => exact .cons h1 (Reps.erase n h2)
end
section
variable {X : Cx} {L O O' : List Nat} {e : Expr} {es : List Expr} {i j k : Nat} {fk f : Fe} {fx : FeX} {r : Fa} {rx : FaX} {pos p pos' : Pos} {call : Expr}
theorem x_pop (hp : PE X e (tBM0 X.K "list" rPop (tVar i))) (hi : i ∈ O := by decide) : PE X e (tDX X.K O (popF i)) := pe_imp hp fun σ H Q ⟨g, F, env, s, d, env', s', st, hf, k⟩ => by
  unfold popF at hf
  split at hf
  · rename_i ds q2
    split at hf <;> cases hf
    rename_i q3
    obtain ⟨p, o, d0, e1, e2, e3, r, n, nf, nh⟩ := st.sl.ow i hi
    rw [lstAt_some q2] at e2
    cases e2
    cases r with
    | lst r =>
      rename_i vs
      obtain ⟨v, e5, r5⟩ := r.get q3
      refine ⟨.ref p, e1, .inl ⟨rfl, vs, SqL.of e3⟩, p, vs, v, rfl, rfl, e3, by rw [r.length]; exact e5, ?_⟩
      have rd : Reps X.K F vs.dropLast ds.dropLast := by
        rw [List.dropLast_eq_take, List.dropLast_eq_take, r.length]
        exact r.take _
      exact k v F _ (Same.refl _) (st.change hi e1 e3 (.lst rd)) r5
  · cases hf
end
def unpX (i j : Nat) (f : FeX) : Fs := fun env s => match f env s with
  | some (.lst [x, y], e', s') => some (.nx ((e'.set i (some x)).set j (some y)), s')
  | some (.tup [x, y], e', s') => some (.nx ((e'.set i (some x)).set j (some y)), s')
  | _ => none
theorem s_unpX {X : Cx} {L O O' : List Nat} {e tg : Expr} {i j : Nat} {fx : FeX} {pos : Pos} (h : PS X (.Assign [tg] e pos) (tAsg (tDX X.K O fx) (gUnl X.K 2 (gCons (gName i) (gCons (gName j) gNil))))) (h' : PS X (.Assign [tg] e pos) (tAsg (tDX X.K O fx) (gTup X.K 2 (gCons (gName i) (gCons (gName j) gNil)))))
    (h1 : ∀ a, a ∈ O' → a ∈ O ∧ a ≠ i ∧ a ≠ j := by decide) : PS X (.Assign [tg] e pos) (tS X.K L O O' (unpX i j fx)) := ps_imp (ps_lkout (ps_or h h')) fun D σ H ⟨g, F, env, s, out, s', st, hf, k⟩ => by
  have key : ∀ F1 H1 env' x y v w, Same F F1 → Stt X.K g O F1 H1 σ env' s' → Rep X.K F1 v x → Rep X.K F1 w y → out = .nx ((env'.set i (some x)).set j (some y)) → Lk (D.nx ((σ.set i (some v)).set j (some w))) H1 := fun F1 H1 env' x y v w sm0 st1 r1 r2 eo => by
    subst eo
    have a1 := st1.setD (O' := O.filter fun a => decide (a ≠ i)) r1 (fun a ha => by
      have := List.mem_filter.mp ha
      exact ⟨this.1, of_decide_eq_true this.2⟩) fun a ha c => List.mem_filter.mpr ⟨ha, decide_eq_true c⟩
    have a2 := a1.setD (O' := (O.filter fun a => decide (a ≠ i)).filter fun a => decide (a ≠ j)) r2 (fun a ha => by
      have := List.mem_filter.mp ha
      exact ⟨this.1, of_decide_eq_true this.2⟩) fun a ha c => List.mem_filter.mpr ⟨ha, decide_eq_true c⟩
    exact a2.weak (O' := O') (fun a ha => by
      obtain ⟨z1, z2, z3⟩ := h1 a ha
      exact List.mem_filter.mpr ⟨List.mem_filter.mpr ⟨z1, decide_eq_true z2⟩, decide_eq_true z3⟩) fun F3 H3 sm st3 => k _ H3 F3 (sm0.trans sm) st3
  unfold unpX at hf
  split at hf
  · rename_i x y e' s1 q
    cases hf
    refine .inl ⟨g, F, env, s, _, _, _, st, q, fun v F1 H1 sm st1 r1 => ?_⟩
    cases r1 with
    | lst e1 rs =>
      cases rs with
      | cons r1 t1 =>
        cases t1 with
        | cons r2 t2 =>
          cases t2
          exact ⟨_, _, rfl, SqL.of (st1.bs.sub _ _ e1), rfl, _, _, rfl, _, _, rfl, rfl, key F1 H1 _ x y _ _ sm st1 r1 r2 rfl⟩
  · rename_i x y e' s1 q
    cases hf
    refine .inr ⟨g, F, env, s, _, _, _, st, q, fun v F1 H1 sm st1 r1 => ?_⟩
    cases r1 with
    | tup e1 hp rs =>
      cases rs with
      | cons r1 t1 =>
        cases t1 with
        | cons r2 t2 =>
          cases t2
          exact ⟨_, _, rfl, sqT_same st1.bs.sub e1, rfl, _, _, rfl, _, _, rfl, rfl, key F1 H1 _ x y _ _ sm st1 r1 r2 rfl⟩
  · cases hf
end DL

namespace DL
open PySem PySem.Spec PyProof.Rows L2
structure Ck (P : Program) (w : World) (K : PySem.W.Frag) (mg : Str → Option Value) (base : Heap) (k : Nat) (x : Str) (st : Stmt) (ps : List Str) (Fn : List Dt → Sto → Option (Dt × Sto)) : Prop where
  ex : ∃ f fd, L2.Fun K x x st f fd ∧ FnG P w K mg base k f fd ps (spF K ps.length Fn) ∧ mg x = some (.ref f)
section
variable {P : Program} {w : World} {K : PySem.W.Frag} {mg : Str → Option Value} {base : Heap} {x : Str} {st : Stmt} {k : Nat} {ps : List Str} {Fn : List Dt → Sto → Option (Dt × Sto)}
theorem Cg.ck (C : Cg P w K mg base k x st ps Fn) : Ck P w K mg base k x st ps Fn := by
  obtain ⟨f, fd, F, G, m, _⟩ := C.ex
  exact ⟨f, fd, F, G, m⟩
end
def callM (Fn : List Dt → Sto → Option (Dt × Sto)) (ix : List Nat) (fa fk : Fa) : Fe := fun env s => match fa env s with
  | some (ds, s1) => match fk env s1 with
    | some (zs, s2) => Fn (permL ix (ds ++ zs)) s2
    | none => none
  | none => none
section
variable {X : Cx} {O : List Nat} {j k : Nat} {ps : List Str} {x : Str} {st : Stmt} {p pos : Pos} {e : Expr} {es : List Expr} {kws : List Keyword} {fa fk : Fa} {Fn : List Dt → Sto → Option (Dt × Sto)}
theorem d_ckM (C : Ck X.prog X.w X.K X.mg X.base k x st ps Fn) (hr : Room j X.A) (hk : k ≤ j) (hgd : X.A.guards = some []) (hg : Gl X x) (ix : List Nat) (ks : List Str)
    (hb : ∀ (kV doc pm : Value) (an : Option Addr) (cdv ct : Value) (us ws : List Value), us.length = es.length + 1 → ws.length = kws.length → bindArgs (PySem.W.fnOf x x (defArgs st) (defBody st) (defScope st) .none kV doc pm an cdv ct) ⟨us, ks.zip ws⟩ = pure (ps.zip (permL ix (us ++ ws))))
    (ha : PA X (e :: es) (tAD X.K O fa)) (hal : AL (es.length + 1) fa) (hkw : PK X kws (tAD X.K O fk)) (hkl : AL kws.length fk) (hix : ∀ ds zs : List Dt, ds.length = es.length + 1 → zs.length = kws.length → (permL ix (ds ++ zs)).length = ps.length)
    (hall : (backToKw pos (keywordEach kws X.env)).all (·.1.isSome) = true := by rfl) (hks : (backToKw pos (keywordEach kws X.env)).filterMap (·.1) = ks := by rfl)
    (hdb : (x == ("__debug__" : Str)) = false := by decide) (he : starEach (e :: es) X.env = (false, eval e X.env) :: starEach es X.env := by rfl)
    (hpl : ((backTo pos (starEach (e :: es) X.env)).any (·.1) || (backToKw pos (keywordEach kws X.env)).any (·.1.isNone)) = false := by rfl) :
    PE X (.Call (.Name x p) (e :: es) kws pos) (tD X.K O (callM Fn ix fa fk)) := by
  obtain ⟨f, fd, F, G, m⟩ := C.ex
  have kp := F.kp
  obtain ⟨oc, od, kV, doc, pm, an, cdv, ct, osl, rfl, lk, hcd⟩ := F.ex
  refine ⟨fun pins s σ H Q I ⟨g, F0, env, s0, d, s', stt, hf, kk⟩ => ?_⟩
  unfold callM at hf
  split at hf
  · rename_i ds s1 q1
    split at hf
    · rename_i zs s2 q2
      refine wpAny_Call_Name_kw (ld_glob I hg m ?_ hdb)
      refine PySem.W.callWith_KW (h₀ := X.base) I.ok.mod.kin kp hall (thn (ha.run pos pins s σ H (fun vs H1 => vs.length = es.length + 1 ∧ tAD X.K O fk σ H1 fun zs H2 => zs.length = kws.length ∧ spF X.K ps.length Fn (permL ix (vs ++ zs)) H2 Q E0) I ⟨g, F0, env, s0, ds, s1, stt, q1, fun vs F1 H1 x1 b1 r1 => ⟨by rw [r1.length]; exact hal _ _ _ _ q1, ?_⟩⟩) ?_) hpl he
      · refine ⟨g, F1, env, s1, zs, s2, stt.step x1 b1, q2, fun ws F2 H2 x2 b2 r2 => ⟨by rw [r2.length]; exact hkl _ _ _ _ q2, ?_⟩⟩
        have r12 := permL_reps ix ((Reps.mono x2.sam _ _ r1).append r2)
        exact ⟨g.ft, F2, s2, permL ix (ds ++ zs), d, s', by rw [r12.length]; exact hix _ _ (hal _ _ _ _ q1) (hkl _ _ _ _ q2), b2, r12, hf, fun v F3 H3 x3 b3 r3 => kk v F3 H3 ((x1.trans x2 b1).trans x3 b2) b3 r3⟩
      · rintro us s3 ⟨vs, H1, I1, rv, hl, want⟩
        refine thn (hkw.run pos pins s3 σ H1 _ I1 want) ?_
        rintro ws s4 ⟨zs', H2, I2, rz, hz, want2⟩
        refine ⟨I2.kIn, ?_⟩
        rw [hks]
        exact run_g (ar := ⟨us, ks.zip ws⟩) G (hr.mono hk) hgd I2 (permL_vals ix (rv.append rz)) (fun _ => .of_eq (hb kV doc pm an cdv ct us ws (by rw [← rv.length]; exact hl) (by rw [← rz.length]; exact hz))) want2
    · cases hf
  · cases hf
end
section
variable {X : Cx} {O : List Nat} {elt tg iter tg1 iter1 : Expr} {ifs1 : List Expr} {scope : Scope} {own : List (Str × Nat)} {pos spos py : Pos} {y : Str} {fi fi1 : Fi} {tt1 : Ft} {te : Fe}
theorem n_lc2PN {i j i1 : Nat} (hc : X.calm = true) (hN : X.N.Nodup) (hi : PI X tg iter (tI X.K O fi)) (ok : BlkOk X.N X.env.scope scope own)
    (hg : ∀ (s : Shared) (H : Hp) (C : Addr) (cl : List (Str × Addr)) (fp : List Addr), PG (X.blk s H scope (compEnvC scope cl C X.env) fp) tg (gTup X.K 2 (gCons (gName i) (gCons (gName j) gNil))))
    (hi1 : ∀ (s : Shared) (H : Hp) (C : Addr) (cl : List (Str × Addr)) (fp : List Addr), PI (X.blk s H scope (compEnvC scope cl C X.env) fp) tg1 iter1 (tI X.K O fi1))
    (hg1 : ∀ (s : Shared) (H : Hp) (C : Addr) (cl : List (Str × Addr)) (fp : List Addr), PG (X.blk s H scope (compEnvC scope cl C X.env) fp) tg1 (gName i1))
    (ht1 : ∀ (s : Shared) (H : Hp) (C : Addr) (cl : List (Str × Addr)) (fp : List Addr), PTs (X.blk s H scope (compEnvC scope cl C X.env) fp) ifs1 (tT X.K O tt1))
    (he : ∀ (s : Shared) (H : Hp) (C : Addr) (cl : List (Str × Addr)) (fp : List Addr), PE (X.blk s H scope (compEnvC scope cl C X.env) fp) elt (tD X.K O te))
    (hv : ∀ j, j ∈ own.map (·.2) → j ∉ O := by decide) (hm : i ∈ own.map (·.2) := by decide) (hmj : j ∈ own.map (·.2) := by decide) (hm1 : i1 ∈ own.map (·.2) := by decide)
    (hs : ∀ x, foldedSetIterable iter X.env x = pure x := by intro _; rfl) (hs1 : ∀ env x, foldedSetIterable iter1 env x = pure x := by intro _ _; rfl) :
    PE X (.ListComp elt [⟨tg, iter, [], 0⟩, ⟨tg1, iter1, ifs1, 0⟩] scope pos) (tN X.K O (lc2F fi (tgP (tgN i) (tgN j)) fi1 (tgN i1) tt1 te (own.map (·.2)) [i1])) :=
  pe_imp (pe_lc2 (vs1 := [i1]) hc hN hi ok (fun q hq => by rw [List.mem_singleton.mp hq]; exact hm1) hg (fun _ _ _ _ _ => pts_nil) hi1 hg1 ht1 he hs hs1)
    (lc2_n hv (fun q hq => by rw [List.mem_singleton.mp hq]; exact hm1) (pairT (hv _ hm) (hv _ hmj)) (fun v σ H Q ⟨a, xs, e1, e2, e3, v1, r1, e4, v2, r2, e5, e6, q⟩ => ⟨a, xs, e1, e2, e3, v1, r1, e4, v2, r2, e5, e6, wipe_set _ _ hmj (wipe_set _ _ hm (wipe_wipe _ _)), q⟩) (nameT (hv _ hm1)) (fun v σ H Q h => ⟨wipe_set _ _ List.mem_cons_self (wipe_wipe _ _), h⟩))
end
end DL

namespace L2.HT
open PySem PySem.Spec PyProof.Rows PySem.W
section
variable {prog : Program} {w : World} {A : Around} {E : Value → Shared → Prop} {s : Shared}
theorem places_rev (n : Nat) : Builtin.Slice.slicePlaces ((n : Int) - 1) (-1) (-1) = n := by
  unfold Builtin.Slice.slicePlaces
  rw [if_neg (by decide)]
  by_cases h : (n : Int) - 1 > -1
  · rw [if_pos h, show (- -1 : Int) = 1 by decide, Int.ediv_one]
    omega
  · rw [if_neg h]
    have : n = 0 := by omega
    subst this
    rfl
theorem sliceApplied_rev {sl : Addr} {vl vu vs : Value} {n : Nat} {Q : Int × Int × Nat → Shared → Prop} (hs : s.heap.IsSliceOf sl vl vu vs) (pl : IsPart vl none) (pu : IsPart vu none) (ps : IsPart vs (some (-1)))
    (h : Q ((n : Int) - 1, -1, n) s) : wpAny (model prog w) A (Builtin.Slice.sliceApplied (.ref sl) (pure (n : Int))) Q E s := by
  obtain ⟨os, hos, hcs, hds⟩ := id hs
  cases ps with
  | int _ t =>
  unfold Builtin.Slice.sliceApplied Builtin.Slice.sliceFields
  refine wpAny_bind (wpAny_bind (wpAny_field hos hds (x := vl) rfl (wpAny_bind (wpAny_field hos hds (x := vu) rfl (wpAny_bind (wpAny_field hos hds (x := .int (-1) t) rfl (wpAny_pure ?_)))))))
  refine wpAny_bind (slicePart_int ?_)
  show wpAny _ _ (if ((-1 : Int) == 0) = true then _ else _) _ _ s
  rw [if_neg (by decide)]
  cases pl
  cases pu
  refine wpAny_bind (slicePart_none (wpAny_bind (slicePart_none (wpAny_bind (wpAny_pure ?_)))))
  show wpAny _ _ (match Builtin.Slice.sliceAdjust none none (-1) (n : Int) with | (lo, hi) => pure (lo, (-1 : Int), Builtin.Slice.slicePlaces lo hi (-1))) _ _ s
  show wpAny _ _ (pure ((n : Int) - 1, (-1 : Int), Builtin.Slice.slicePlaces ((n : Int) - 1) (-1) (-1))) _ _ s
  rw [places_rev]
  exact wpAny_pure h
theorem fm_cong {α β : Type} {f g : α → Option β} : ∀ {l : List α}, (∀ x ∈ l, f x = g x) → l.filterMap f = l.filterMap g
  | [], _ => rfl
  | x :: l, h => by
    have h1 := h x List.mem_cons_self
    have h2 := fm_cong (l := l) fun y hy => h y (List.mem_cons_of_mem _ hy)
    rw [List.filterMap_cons, List.filterMap_cons, h1, h2]
theorem pick_rev (xs : Array Value) : ((List.range xs.size).filterMap fun (m : Nat) => xs[(((xs.size : Nat) : Int) - 1 + (m : Int) * (-1)).toNat]?).toArray = xs.toList.reverse.toArray := by
  have e : ((List.range xs.size).filterMap fun (m : Nat) => xs[(((xs.size : Nat) : Int) - 1 + (m : Int) * (-1)).toNat]?) = ((List.range xs.size).map fun k => xs.size - 1 - k).filterMap (xs[·]?) := by
    rw [List.filterMap_map]
    apply fm_cong
    intro m hm
    have := List.mem_range.mp hm
    show xs[(((xs.size : Nat) : Int) - 1 + (m : Int) * (-1)).toNat]? = xs[xs.size - 1 - m]?
    rw [show (((xs.size : Nat) : Int) - 1 + (m : Int) * (-1)).toNat = xs.size - 1 - m by omega]
  rw [e, krv_range, List.filterMap_reverse, krv_all]
theorem getItem_tuple_rev {t sl : Addr} {items : Array Value} {vl vu vs : Value} {Q : Value → Shared → Prop} (ht : IsTup s.heap t items) (hs : s.heap.IsSliceOf sl vl vu vs) (pl : IsPart vl none) (pu : IsPart vu none) (ps : IsPart vs (some (-1)))
    (h : Q (.ref s.heap.objs.size) { s with heap := s.heap.push { cls := .type "tuple", data := .seq items.toList.reverse.toArray } })
    (hsz : items.size ≤ sizeLine) : wpAny (model prog w) A (getItem (.ref t) (.ref sl)) Q E s := by
  have htake : sizeOk (.seq items.toList.reverse.toArray) := by
    show items.toList.reverse.toArray.size ≤ sizeLine
    rw [List.size_toArray, List.length_reverse, Array.length_toList]
    exact hsz
  obtain ⟨os, hos, hcs, hds⟩ := id hs
  have hTs : s.TypeIs (.ref sl) "slice" := ⟨os, hos, hcs⟩
  unfold getItem
  try with_reducible refine wpAny_holding ?_
  first | refine wpAny_bind (wpAny_pure ?_) | skip
  refine wpAny_bind (wpAny_sequenceKey ht.typeIs (by decide) ?_)
  refine wpAny_bind (wpAny_callSpecial?_slot (name := Str.ofString "__getitem__") ht.typeIs PyProof.Rows.slot_tuple_getitem
    (wpAny_call_entry PyProof.Rows.slot_tuple_getitem ht.typeIs entry_tuple_getitem ?_ (args_tuple_getitem _ _)))
  show wpAny _ _ (Builtin.Tuple.tupleItemsOf (.ref t) >>= _) _ _ s
  refine wpAny_bind (tupleItemsOf_ ht ?_)
  refine wpAny_bind (wpAny_typeOf hTs ?_)
  rw [if_pos (by decide)]
  refine wpAny_bind (sliceApplied_rev (n := items.size) hs pl pu ps ?_)
  have hno : ¬ ((((items.size : Nat) : Int) - 1 == 0 && (-1 : Int) == 1 && items.size == items.size) = true) := by
    intro q
    rw [Bool.and_eq_true, Bool.and_eq_true] at q
    exact absurd q.1.2 (by decide)
  show wpAny _ _ (if (((items.size : Nat) : Int) - 1 == 0 && (-1 : Int) == 1 && items.size == items.size) = true then _ else _) _ _ s
  rw [if_neg hno, pick_rev]
  first
    | exact wpAny_bind (m := Builtin.Tuple.tupleExact _) (wpAny_newObj_type (wpAny_pure ⟨_, rfl, wpAny_pure h⟩) htake)
    | exact wpAny_bind (m := Builtin.Tuple.tupleExact _) (wpAny_newObj_type (wpAny_bind (wpAny_pure (wpAny_pure ⟨_, rfl, wpAny_pure h⟩))) htake)
    | exact wpAny_bind (wpAny_bind (m := Builtin.Tuple.tupleExact _) (wpAny_newObj_type (wpAny_pure (wpAny_pure ⟨_, rfl, wpAny_pure h⟩)) htake))
    | exact wpAny_bind (wpAny_bind (m := Builtin.Tuple.tupleExact _) (wpAny_newObj_type (wpAny_pure ⟨_, rfl, wpAny_pure h⟩) htake))
end
end L2.HT
namespace DL
open PySem PySem.Spec PyProof.Rows L2
def tRevT (K : PySem.W.Frag) (te : TE) : TE := fun σ H Q => te σ H fun x H1 => ∃ a xs, x = .ref a ∧ SqT K H1 a xs ∧ NewT H1 xs.reverse Q
section
variable {X : Cx} {O : List Nat} {f : Fe}
theorem pe_revT {e : Expr} {te : TE} {k : Nat} {p1 p2 p3 pos : Pos} (he : PE X e te) : PE X (.Subscript e (.Slice none none (some (.UnaryOp .USub (.Constant (.int 1) k p1) p2)) p3) pos) (tRevT X.K te) := by
  refine ⟨fun pins s σ H Q I h => ?_⟩
  refine Subscript_ (thn (he.run pins s σ H _ I h) fun v s1 ⟨x, H1, I1, r1, q1⟩ => ?_)
  obtain ⟨a, xs, ex, hx, q⟩ := q1
  subst ex
  cases r1
  have hst : PO X (some (.UnaryOp .USub (.Constant (.int 1) k p1) p2)) (tPart (tUn (rU fun i => .int (-i)) (tC (.int 1)))) := po_some (pe_un un_neg pe_int)
  refine wpAny_Slice (thn (po_none.run pins s1 σ H1 (fun o H2 => o = none ∧ H2 = H1) I1 ⟨rfl, rfl⟩) fun vl s2 ⟨l, H2, I2, pl, el, e2⟩ => ?_)
  subst el e2
  refine thn (po_none.run pins s2 σ H2 (fun o H3 => o = none ∧ H3 = H2) I2 ⟨rfl, rfl⟩) fun vu s3 ⟨u, H3, I3, pu, eu, e3⟩ => ?_
  subst eu e3
  refine thn (hst.run pins s3 σ H3 (fun o H4 => o = some (-1) ∧ H4 = H3) I3 ⟨1, rfl, -1, rfl, rfl, rfl⟩) fun vs s4 ⟨o, H4, I4, ps, eo, e4⟩ => ?_
  subst eo e4
  have I5 : Inv X pins σ H4 { s4 with heap := s4.heap.push { cls := .type "slice", data := .fields #[vl, vu, vs] } } := I4.kept (t' := s4.toks) fun b ob q => Heap.get?_push_of_some _ q
  obtain ⟨its, r, ht, hz⟩ := I5.tuple hx
  have hlen := r.length
  show wpAny (model X.prog X.w) X.A (subscriptTail e (.Slice none none (some (.UnaryOp .USub (.Constant (.int 1) k p1) p2)) p3) (.ref a) (.ref s4.heap.objs.size)) (EP X pins σ Q) X.xe { s4 with heap := s4.heap.push { cls := .type "slice", data := .fields #[vl, vu, vs] } }
  refine tail_any (ops := [.ref a, .ref s4.heap.objs.size]) ht.typeIs (PyProof.Rows.slot_tuple_getitem.lookup) ?_ (by with_unfolding_all rfl)
  refine HT.getItem_tuple_rev ht (Heap.IsSliceOf.new _ vl vu vs) pl pu ps ?_ (by rw [List.size_toArray]; omega)
  exact newT_ok I5 r.reverse (by rw [List.length_reverse]; exact hz) q
def revAG (s : Sto) : Dt → Option Dt
  | .tup xs => some (.tup xs.reverse)
  | d => revSG s d
theorem d_revA {k : Nat} {p1 p2 p3 pos : Pos} {e : Expr} (he : PE X e (tB X.K O f)) : PE X (.Subscript e (.Slice none none (some (.UnaryOp .USub (.Constant (.int 1) k p1) p2)) p3) pos) (tD X.K O (bind1 f revAG)) := by
  refine ⟨fun pins s σ H Q I h => ?_⟩
  obtain ⟨g, F, env, s0, d, s', st, hf, kk⟩ := id h
  obtain ⟨x, q1, q2⟩ := bind1_some hf
  cases x with
  | tup xs =>
    have e2 : d = .tup xs.reverse := by
      have : some (Dt.tup xs.reverse) = some d := q2
      cases this; rfl
    subst e2
    refine (pe_revT he).run pins s σ H Q I ⟨g, F, env, s0, .tup xs, s', st, q1, fun v F1 H1 x1 b1 r1 => ?_⟩
    obtain ⟨a, vs, rfl, e, q⟩ := r1.tup b1
    refine ⟨a, vs, rfl, e, fun p o np ho => ?_⟩
    obtain ⟨x4, b4, r4⟩ := Go.layT b1 np ho q.reverse
    exact kk (.ref p) _ _ (x1.trans x4 b1) b4 r4
  | _ =>
    refine (d_revS he).run pins s σ H Q I ⟨g, F, env, s0, d, s', st, ?_, kk⟩
    simp only [revAG] at q2
    unfold bind1
    rw [q1]
    simp only [Option.bind_eq_bind, Option.bind_some]
    rw [q2]
    rfl
end
end DL

namespace DL
open PySem PySem.Spec PyProof.Rows L2
section
variable {K : PySem.W.Frag}
end
section
variable {X : Cx} {O : List Nat} {a b : Expr} {fa fb : Fe} {pos : Pos}
end
end DL

namespace DL
open PySem PySem.Spec PyProof.Rows L2
structure FdAt (K : PySem.W.Frag) (mg : Str → Option Value) (x : Str) (st : Stmt) (kws : List (Str × V)) : Prop where
  ex : ∃ f fd, L2.FunD K x x (defArgs st) (defBody st) (defScope st) [] kws f fd ∧ mg x = some (.ref f)
structure Cd (P : Program) (w : World) (K : PySem.W.Frag) (mg : Str → Option Value) (base : Heap) (k : Nat) (x : Str) (st : Stmt) (ps : List Str) (Fn : List Dt → Sto → Option (Dt × Sto)) (kws : List (Str × V)) : Prop where
  ex : ∃ f fd, L2.FunD K x x (defArgs st) (defBody st) (defScope st) [] kws f fd ∧ FnG P w K mg base k f fd ps (spF K ps.length Fn) ∧ mg x = some (.ref f)
section
variable {P : Program} {w : World} {K : PySem.W.Frag} {mg : Str → Option Value} {base : Heap} {x : Str} {st : Stmt} {k : Nat} {ps : List Str} {Fn : List Dt → Sto → Option (Dt × Sto)} {kws : List (Str × V)}
theorem fd_then {g : Prop} (x : Str) (st : Stmt) (kws : List (Str × V)) {h : Heap} {f : Addr} {oc : Value} {od an : Option Addr} {osl : Array (Option Value)} {kV doc pm cdv ct : Value} (KX : K.In h) (G : h.Ns mainGlobals mg) (a : PySem.W.nsIn K mainGlobals x = some (some (.ref f)))
    (l : K.lookup f = some ⟨oc, od, .func (PySem.W.fnOf x x (defArgs st) (defBody st) (defScope st) .none kV doc pm an cdv ct), osl⟩) (c : PySem.W.codeIn K cdv x = true) (kp : PySem.W.keepIn K (.ref f) = true) (kd : L2.KwdV K kV kws) (go : FdAt K mg x st kws → g) : g :=
  go ⟨f, _, ⟨⟨oc, od, .none, kV, doc, pm, an, cdv, ct, osl, rfl, l, c, .inl ⟨rfl, rfl⟩, kd⟩, kp⟩, PySem.W.mg_of KX G a⟩
theorem kwd1 {D : Addr} {q : Str × V} {u : Value} (n : PySem.W.nsIn K D q.1 = some (some u)) (r : RelV q.2 u) : L2.KwdV K (.ref D) [q] := .inr ⟨D, rfl, fun p hp => by rw [List.mem_singleton.mp hp]; exact ⟨u, n, r⟩⟩
theorem FdAt.fn (A : FdAt K mg x st kws) : FnAt K mg x st := by
  obtain ⟨f, fd, F, m⟩ := A.ex
  exact ⟨f, fd, He5.fun_of F, m⟩
theorem cd_mk (A : FdAt K mg x st kws) (G : ∀ f fd, L2.Fun K x x st f fd → FnG P w K mg base k f fd ps (spF K ps.length Fn)) : Cd P w K mg base k x st ps Fn kws := by
  obtain ⟨f, fd, F, m⟩ := A.ex
  exact ⟨f, fd, F, G f fd (He5.fun_of F), m⟩
theorem Cd.ck (C : Cd P w K mg base k x st ps Fn kws) : Ck P w K mg base k x st ps Fn := by
  obtain ⟨f, fd, F, G, m⟩ := C.ex
  exact ⟨f, fd, He5.fun_of F, G, m⟩
end
def callD (Fn : List Dt → Sto → Option (Dt × Sto)) (ix : List Nat) (fa fk : Fa) (md : List Dt) : Fe := fun env s => match fa env s with
  | some (ds, s1) => match fk env s1 with
    | some (zs, s2) => Fn (permL ix (ds ++ zs ++ md)) s2
    | none => none
  | none => none
section
variable {X : Cx} {O : List Nat} {j k : Nat} {ps : List Str} {x : Str} {st : Stmt} {p pos : Pos} {e : Expr} {es : List Expr} {kws : List Keyword} {fa fk : Fa} {Fn : List Dt → Sto → Option (Dt × Sto)} {dk : List (Str × V)}
theorem d_cdM (C : Cd X.prog X.w X.K X.mg X.base k x st ps Fn dk) (hr : Room j X.A) (hk : k ≤ j) (hgd : X.A.guards = some []) (hg : Gl X x) (ix : List Nat) (ks : List Str) (ms : List (Str × V)) (md : List Dt) (hdk : dk ≠ []) (hms : ∀ q ∈ ms, q ∈ dk) (hmd : ∀ F, Reps X.K F (ms.map (·.2)) md)
    (hb : ∀ (D : Addr) (doc pm : Value) (an : Option Addr) (cdv ct : Value) (us mv ws : List Value), us.length = es.length + 1 → mv.length = ms.length → ws.length = kws.length → L2.KwChain D ((ms.map (·.1)).zip mv) (bindArgs (PySem.W.fnOf x x (defArgs st) (defBody st) (defScope st) .none (.ref D) doc pm an cdv ct) ⟨us, ks.zip ws⟩) (ps.zip (permL ix (us ++ ws ++ mv))))
    (ha : PA X (e :: es) (tAD X.K O fa)) (hal : AL (es.length + 1) fa) (hkw : PK X kws (tAD X.K O fk)) (hkl : AL kws.length fk) (hix : ∀ ds zs : List Dt, ds.length = es.length + 1 → zs.length = kws.length → (permL ix (ds ++ zs ++ md)).length = ps.length)
    (hks0 : ks.length = kws.length := by rfl)
    (hall : (backToKw pos (keywordEach kws X.env)).all (·.1.isSome) = true := by rfl) (hks : (backToKw pos (keywordEach kws X.env)).filterMap (·.1) = ks := by rfl)
    (hdb : (x == ("__debug__" : Str)) = false := by decide) (he : starEach (e :: es) X.env = (false, eval e X.env) :: starEach es X.env := by rfl)
    (hpl : ((backTo pos (starEach (e :: es) X.env)).any (·.1) || (backToKw pos (keywordEach kws X.env)).any (·.1.isNone)) = false := by rfl) :
    PE X (.Call (.Name x p) (e :: es) kws pos) (tD X.K O (callD Fn ix fa fk md)) := by
  obtain ⟨f, fd, F, G, m⟩ := C.ex
  obtain ⟨mv, B⟩ := L2.FunD.kbinds0 (ps := ps) F (es.length + 1) ks ms (fun us mv ws => permL ix (us ++ ws ++ mv)) hdk hms (fun r1 r2 r3 => permL_vals ix ((r1.append r3).append r2)) (fun D doc pm an cdv ct us mv ws l1 l2 l3 => hb D doc pm an cdv ct us mv ws l1 l2 (by rw [l3, hks0]))
  refine ⟨fun pins s σ H Q I ⟨g, F0, env, s0, d, s', stt, hf, kk⟩ => ?_⟩
  unfold callD at hf
  split at hf
  · rename_i ds s1 q1
    split at hf
    · rename_i zs s2 q2
      refine wpAny_Call_Name_kw (ld_glob I hg m ?_ hdb)
      refine PySem.W.callWith_KW (h₀ := X.base) I.ok.mod.kin F.kp hall (thn (ha.run pos pins s σ H (fun vs H1 => vs.length = es.length + 1 ∧ tAD X.K O fk σ H1 fun zs H2 => zs.length = kws.length ∧ spF X.K ps.length Fn (permL ix (vs ++ zs ++ ms.map (·.2))) H2 Q E0) I ⟨g, F0, env, s0, ds, s1, stt, q1, fun vs F1 H1 x1 b1 r1 => ⟨by rw [r1.length]; exact hal _ _ _ _ q1, ?_⟩⟩) ?_) hpl he
      · refine ⟨g, F1, env, s1, zs, s2, stt.step x1 b1, q2, fun ws F2 H2 x2 b2 r2 => ⟨by rw [r2.length]; exact hkl _ _ _ _ q2, ?_⟩⟩
        have r12 := permL_reps ix (((Reps.mono x2.sam _ _ r1).append r2).append (hmd F2))
        exact ⟨g.ft, F2, s2, permL ix (ds ++ zs ++ md), d, s', by rw [r12.length]; exact hix _ _ (hal _ _ _ _ q1) (hkl _ _ _ _ q2), b2, r12, hf, fun v F3 H3 x3 b3 r3 => kk v F3 H3 ((x1.trans x2 b1).trans x3 b2) b3 r3⟩
      · rintro us s3 ⟨vs, H1, I1, rv, hl, want⟩
        refine thn (hkw.run pos pins s3 σ H1 _ I1 want) ?_
        rintro ws s4 ⟨zs', H2, I2, rz, hz, want2⟩
        refine ⟨I2.kIn, ?_⟩
        rw [hks]
        exact run_g (ar := ⟨us, ks.zip ws⟩) G (hr.mono hk) hgd I2 (B.rel rv rz) (fun _ => B.to s4 us ws I2.kIn (by rw [← rv.length]; exact hl) (by rw [← rz.length, hks0]; exact hz)) want2
    · cases hf
  · cases hf
end
theorem Reps.flat {K : PySem.W.Frag} {F : Hp} {vs : List V} {ds : List Dt} (h : Reps K F vs ds) : ∀ n : Nat, Reps K F (List.replicate n vs).flatten (List.replicate n ds).flatten
  | 0 => .nil
  | n + 1 => by
    rw [List.replicate_succ, List.replicate_succ, List.flatten_cons, List.flatten_cons]
    exact h.append (Reps.flat h n)
end DL

namespace DL
open PySem PySem.Spec PyProof.Rows L2
def Fis_thing : Fs := (retS (andV (bind1 (fVar 0) (isiG "str")) (bindA (aCons (lcF (seqF (fVar 0)) (tgN 1) yesT (chain3 (fC (.str "a")) (fVar 1) (fC (.str "z")) leG leG) [1]) aNil) allG)))
def Vis_thing : List Dt → Sto → Option (Dt × Sto) := fnV 2 Fis_thing
def Fletters_reached : Fs := (seqS (setNS 2 emptyG) (seqS (setNS 3 (bindA (aCons (bind2 (fVar 0) (fVar 1) ixA) aNil) toLstG)) (seqS (whileS (truF (fVar 3)) (seqS (popS 3 4) (ifS (asB (bind2 (fVar 4) (fVar 2) notinA)) (seqS (dputS 2 (fVar 4) (fC (.bl true))) (extA 3 (bind2 (fVar 0) (fVar 4) ixA))) skipS)) FUEL) (retS (bindA (aCons (bindA (aCons (bindA (aCons (fVar 2) aNil) toLstG) aNil) sortedG_) aNil) toTupG)))))
def Vletters_reached : List Dt → Sto → Option (Dt × Sto) := fnV 5 Fletters_reached
def Fletters_of : Fs := (retS (bindA (aCons (lcF (seqF (bind2 (fVar 0) (fC (.int 0)) ixA)) (tgN 1) yesT (bind2 (fVar 1) (fC (.int 0)) ixA) [1]) aNil) toTupG))
def Vletters_of : List Dt → Sto → Option (Dt × Sto) := fnV 2 Fletters_of
def Fhas_letters : Fs := (seqS (setS 2 (callF Vletters_of (aCons (fVar 0) aNil))) (retS (andV (callF Vis_thing (aCons (fVar 1) aNil)) (bindA (aCons (lcF (seqF (fVar 1)) (tgN 3) yesT (bind2 (fVar 3) (fVar 2) inA) [3]) aNil) allG))))
def Vhas_letters : List Dt → Sto → Option (Dt × Sto) := fnV 4 Fhas_letters
def Fneed_letter : Fs := (ifS (asB (bind2 (fVar 1) (callF Vletters_of (aCons (fVar 0) aNil)) notinA)) neverS skipS)
def Vneed_letter : List Dt → Sto → Option (Dt × Sto) := fnV 2 Fneed_letter
def Fletters_below : Fs := (seqS (dropS (callF Vneed_letter (aCons (fVar 0) (aCons (fVar 1) aNil)))) (retS (callF Vletters_reached (aCons (bindA (aCons (bind2 (fVar 0) (fC (.int 0)) ixA) aNil) toDctG) (aCons (fVar 1) aNil)))))
def Vletters_below : List Dt → Sto → Option (Dt × Sto) := fnV 2 Fletters_below
def Fcomes_from : Fs := (seqS (setS 3 (fC (.int 0))) (seqS (forF (seqF (fVar 2)) (tgN 4) (ifS (andT (asB (bind2 (fVar 3) (bindA (aCons (fVar 1) aNil) lenG) ltG)) (asB (bind2 (bind2 (fVar 1) (fVar 3) ixA) (bind2 (fVar 0) (fVar 4) ixA) inA))) (setS 3 (bind2 (fVar 3) (fC (.int 1)) addAll)) skipS)) (retS (bind2 (fVar 3) (bindA (aCons (fVar 1) aNil) lenG) eqG))))
def Vcomes_from : List Dt → Sto → Option (Dt × Sto) := fnV 5 Fcomes_from
def Fdowns_of : Fs := (seqS (setS 1 (bindA (aCons (bind2 (fVar 0) (fC (.int 0)) ixA) aNil) toDctG)) (retS (dcF (seqF (fVar 1)) (tgN 2) yesT (fVar 2) (bind2 (bindA (aCons (fVar 2) aNil) tupG) (callF Vletters_reached (aCons (fVar 1) (aCons (fVar 2) aNil))) addAll) [2])))
def Vdowns_of : List Dt → Sto → Option (Dt × Sto) := fnV 3 Fdowns_of
def Fneed_thing : Fs := (ifS (notT (truF (callF Vhas_letters (aCons (fVar 0) (aCons (fVar 1) aNil))))) neverS skipS)
def Vneed_thing : List Dt → Sto → Option (Dt × Sto) := fnV 3 Fneed_thing
def Fthings_at_most : Fs := (seqS (dropS (callF Vneed_thing (aCons (fVar 0) (aCons (fVar 1) (aCons (fC (.str "x")) aNil))))) (seqS (setS 2 (callF Vdowns_of (aCons (fVar 0) aNil))) (seqS (setNS 3 (dispF [((fC (.str "")), (fC (.bl true)))])) (seqS (forF (seqF (fVar 1)) (tgN 4) (forF (seqF (bindA (aCons (fVar 3) aNil) toLstG)) (tgN 5) (forF (seqF (bind2 (fVar 2) (fVar 4) ixA)) (tgN 6) (dputS 3 (bind2 (fVar 5) (fVar 6) addAll) (fC (.bl true)))))) (retS (bindA (aCons (bindA (aCons (bindA (aCons (fVar 3) aNil) toLstG) aNil) sortedG_) aNil) toTupG))))))
def Vthings_at_most : List Dt → Sto → Option (Dt × Sto) := fnV 7 Fthings_at_most
def Fplaces : Fs := (seqS (setS 2 (bind1 (fVar 0) rg1G)) (retS (ifV (asB (bind2 (fVar 1) (fC (.str "left")) eqG)) (fVar 2) (bind1 (fVar 2) revG))))
def Vplaces : List Dt → Sto → Option (Dt × Sto) := fnV 3 Fplaces
def Fresults_of : Fs := (seqS (setS 3 (bind2 (fVar 1) (fC (.int 0)) ixA)) (seqS (ifS (asB (bind2 (fVar 3) (fC (.str "drop")) eqG)) (seqS (setS 4 (bind2 (fVar 1) (fC (.int 1)) ixA)) (retS (lcF (seqF (callF Vplaces (aCons (bind2 (bind2 (bindA (aCons (fVar 2) aNil) lenG) (fVar 4) subG) (fC (.int 1)) addAll) (aCons (bind2 (fVar 1) (fC (.int 2)) ixA) aNil)))) (tgN 7) yesT (bind2 (bindS (fVar 2) oNone (oSome (fVar 7)) sliceG) (bindS (fVar 2) (oSome (bind2 (fVar 7) (fVar 4) addAll)) oNone sliceG) addAll) [7]))) skipS) (seqS (ifS (asB (bind2 (fVar 3) (fC (.str "half")) eqG)) (seqS (setS 5 (bind2 (bindA (aCons (fVar 2) aNil) lenG) (fC (.int 2)) divG)) (retS (bindA (aCons (ifV (asB (bind2 (bind2 (fVar 1) (fC (.int 1)) ixA) (fC (.str "left")) eqG)) (bindS (fVar 2) oNone (oSome (fVar 5)) sliceG) (bindS (fVar 2) (oSome (bind2 (bindA (aCons (fVar 2) aNil) lenG) (fVar 5) subG)) oNone sliceG)) aNil) lstG))) skipS) (seqS (ifS (asB (bind2 (fVar 3) (fC (.str "empty")) eqG)) (retS (bindA (aCons (fC (.str "")) aNil) lstG)) skipS) (seqS (ifS (asB (bind2 (fVar 3) (fC (.str "lower")) eqG)) (seqS (setS 6 (bindA (aCons (bind2 (fVar 0) (fC (.int 0)) ixA) aNil) toDctG)) (retS (lc2F (seqF (callF Vplaces (aCons (bindA (aCons (fVar 2) aNil) lenG) (aCons (bind2 (fVar 1) (fC (.int 1)) ixA) aNil)))) (tgN 7) (seqF (bind2 (fVar 6) (bind2 (fVar 2) (fVar 7) ixA) ixA)) (tgN 8) yesT (bind2 (bind2 (bindS (fVar 2) oNone (oSome (fVar 7)) sliceG) (fVar 8) addAll) (bindS (fVar 2) (oSome (bind2 (fVar 7) (fC (.int 1)) addAll)) oNone sliceG) addAll) [7, 8] [8]))) skipS) (retS (lcF (seqF (callF Vplaces (aCons (bindA (aCons (fVar 2) aNil) lenG) (aCons (bind2 (fVar 1) (fC (.int 3)) ixA) aNil)))) (tgN 7) (asB (bind2 (bind2 (fVar 2) (fVar 7) ixA) (bind2 (fVar 1) (fC (.int 1)) ixA) eqG)) (bind2 (bind2 (bindS (fVar 2) oNone (oSome (fVar 7)) sliceG) (bind2 (fVar 1) (fC (.int 2)) ixA) addAll) (bindS (fVar 2) (oSome (bind2 (fVar 7) (fC (.int 1)) addAll)) oNone sliceG) addAll) [7])))))))
def Vresults_of : List Dt → Sto → Option (Dt × Sto) := fnV 9 Fresults_of
def Fled_steps : Fs := (seqS (setS 3 (bind2 (bind2 (fVar 2) (bindA (aCons (bind2 (fVar 0) (fC (.int 1)) ixA) aNil) lenG) rg2G) (bind1 (fVar 2) rg1G) catG)) (seqS (setNS 4 emptyG) (seqS (forF (seqF (fVar 3)) (tgN 5) (forF (seqF (callF Vresults_of (aCons (fVar 0) (aCons (bind2 (bind2 (fVar 0) (fC (.int 1)) ixA) (fVar 5) ixA) (aCons (fVar 1) aNil))))) (tgN 6) (ifS (andT (asB (bind2 (fVar 6) (fVar 1) neG)) (asB (bind2 (fVar 6) (fVar 4) notinA))) (dputS 4 (fVar 6) (fVar 5)) skipS))) (retS (bindA (aCons (lcF (itemsI (fVar 4)) (tgP (tgN 6) (tgN 5)) yesT (bindA (aCons (fVar 6) (aCons (fVar 5) aNil)) tupG) [6, 5]) aNil) toTupG)))))
def Vled_steps : List Dt → Sto → Option (Dt × Sto) := fnV 7 Fled_steps
def Fdoes_fall : Fs := (retS (orV (bind2 (bind2 (fVar 1) (fC (.int 0)) ixA) (fC (.str "put")) neG) (orV (bind2 (bind2 (fVar 1) (fC (.int 2)) ixA) (fC (.str "")) eqG) (bind2 (bind2 (fVar 1) (fC (.int 2)) ixA) (callF Vletters_below (aCons (fVar 0) (aCons (bind2 (fVar 1) (fC (.int 1)) ixA) aNil))) inA))))
def Vdoes_fall : List Dt → Sto → Option (Dt × Sto) := fnV 2 Fdoes_fall
def Fneed_manner : Fs := (ifS (asB (bind2 (fVar 0) (fC (.tup [.str "again", .str "on"])) notinA)) neverS skipS)
def Vneed_manner : List Dt → Sto → Option (Dt × Sto) := fnV 2 Fneed_manner
def Franking_from : Fs := (seqS (setNS 4 emptyG) (seqS (setNS 5 emptyG) (seqS (setNS 6 (bindA (aCons (bindA (aCons (fVar 1) (aCons (fVar 2) aNil)) tupG) aNil) lstG)) (seqS (whileS (truF (fVar 6)) (seqS (unpX 7 8 (popF 6)) (ifS (asB (bind2 (fVar 7) (fVar 5) inA)) (dputS 4 (fVar 7) (fC (.bl true))) (seqS (dputS 5 (fVar 7) (fC (.bl true))) (seqS (appS 6 (bindA (aCons (fVar 7) (aCons (fVar 8) aNil)) tupG)) (seqS (setS 9 (callF Vled_steps (aCons (fVar 0) (aCons (fVar 7) (aCons (ifV (asB (bind2 (fVar 3) (fC (.str "on")) eqG)) (fVar 8) (fC (.int 0))) aNil))))) (extA 6 (bind1 (fVar 9) revAG))))))) FUEL) (retS (bindA (aCons (bindA (aCons (fVar 4) aNil) toLstG) aNil) toTupG))))))
def Vranking_from : List Dt → Sto → Option (Dt × Sto) := fnV 10 Franking_from
def Fneed_falling : Fs := (forF (enumF (bind2 (fVar 0) (fC (.int 1)) ixA)) (tgP (tgN 1) (tgN 2)) (ifS (notT (truF (callF Vdoes_fall (aCons (fVar 0) (aCons (fVar 2) aNil))))) neverS skipS))
def Vneed_falling : List Dt → Sto → Option (Dt × Sto) := fnV 3 Fneed_falling
def Franking_of : Fs := (seqS (dropS (callF Vneed_thing (aCons (fVar 0) (aCons (fVar 1) (aCons (fC (.str "x")) aNil))))) (seqS (dropS (callF Vneed_manner (aCons (fVar 2) (aCons (fC (.str "manner")) aNil)))) (seqS (dropS (callF Vneed_falling (aCons (fVar 0) aNil))) (retS (callF Vranking_from (aCons (fVar 0) (aCons (fVar 1) (aCons (fC (.int 0)) (aCons (fVar 2) aNil)))))))))
def Vranking_of : List Dt → Sto → Option (Dt × Sto) := fnV 3 Franking_of
def Ffinds_least : Fs := (seqS (setS 3 (callM Vranking_of [0, 1, 2] (aCons (fVar 0) (aCons (fVar 1) aNil)) (aCons (fVar 2) aNil))) (seqS (ifS (asB (bind2 (bindA (aCons (fVar 3) aNil) lenG) (bindA (aCons (callF Vthings_at_most (aCons (fVar 0) (aCons (fVar 1) aNil))) aNil) lenG) ltG)) (retS (fC (.bl false))) skipS) (seqS (setS 4 (callF Vdowns_of (aCons (fVar 0) aNil))) (retS (notV (bindA (aCons (lc2F (enumF (fVar 3)) (tgP (tgN 5) (tgN 6)) (seqF (bindS (fVar 3) oNone (oSome (fVar 5)) sliceG)) (tgN 7) yesT (callF Vcomes_from (aCons (fVar 4) (aCons (fVar 6) (aCons (fVar 7) aNil)))) [5, 6, 7] [7]) aNil) anyG))))))
def Vfinds_least : List Dt → Sto → Option (Dt × Sto) := fnV 8 Ffinds_least
end DL

namespace DL
open PySem PySem.Spec PyProof.Rows L2
def F_law_pick_k01 (dp : List Dt → Sto → Option (Dt × Sto)) : Fs := (retS (bind2 (fVar 1) (callF dp (aCons (fVar 0) (aCons (bindA (aCons (fVar 1) aNil) lenG) aNil))) ixA))
def V_law_pick_k01 (dp : List Dt → Sto → Option (Dt × Sto)) : List Dt → Sto → Option (Dt × Sto) := fnV 2 (F_law_pick_k01 dp)
def F_law_word_k01 (dp : List Dt → Sto → Option (Dt × Sto)) : Fs := (seqS (ifS (asB (bind2 (fVar 1) (bindA aNil lstG) eqG)) (retS (fC (.str ""))) skipS) (seqS (setS 3 (ifV (asB (bind2 (callF dp (aCons (fVar 0) (aCons (fC (.int 2)) aNil))) (fC (.int 0)) eqG)) (bind2 (fVar 2) (callF dp (aCons (fVar 0) (aCons (fC (.int 2)) aNil))) subG) (callF dp (aCons (fVar 0) (aCons (bind2 (fVar 2) (fC (.int 1)) addAll) aNil))))) (retS (bind2 (toStrOnly (fC (.str ""))) (lcF (rngF1 (fVar 3)) (tgN 4) yesT (callF (V_law_pick_k01 dp) (aCons (fVar 0) (aCons (fVar 1) aNil))) [4]) joinG))))
def V_law_word_k01 (dp : List Dt → Sto → Option (Dt × Sto)) : List Dt → Sto → Option (Dt × Sto) := fnV 5 (F_law_word_k01 dp)
end DL

namespace DL
open PySem PySem.Spec PyProof.Rows L2
end DL

namespace DL
open PySem PySem.Spec PyProof.Rows L2
section
variable {A B : Fs} {c : Ft} {f fa fb : Fe} {env e' : Env} {s s' s1 : Sto} {d x y z : Dt} {i k : Nat} {o : Out}
theorem seq_nx (h : A env s = some (.nx e', s')) : seqS A B env s = B e' s' := by unfold seqS; rw [h]
theorem seq_rt (h : A env s = some (.rt d, s')) : seqS A B env s = some (.rt d, s') := by unfold seqS; rw [h]
theorem set_ev (h : f env s = some (d, s')) : setS i f env s = some (.nx (env.set i (some d)), s') := by unfold setS; rw [h]; rfl
theorem setN_ev (hl : i < env.length) (h : f env s = some (d, s')) : setNS i f env s = some (.nx (env.set i (some d)), s') := by unfold setNS; rw [if_pos hl, h]; rfl
theorem ret_ev (h : f env s = some (d, s')) : retS f env s = some (.rt d, s') := by unfold retS; rw [h]; rfl
theorem if_t (h : c env s = some (true, s')) : ifS c A B env s = A env s' := by unfold ifS; rw [h]; rfl
theorem if_f (h : c env s = some (false, s')) : ifS c A B env s = B env s' := by unfold ifS; rw [h]; rfl
theorem ifV_t (h : c env s = some (true, s')) : ifV c fa fb env s = fa env s' := by unfold ifV; rw [h]; rfl
theorem ifV_f (h : c env s = some (false, s')) : ifV c fa fb env s = fb env s' := by unfold ifV; rw [h]; rfl
theorem bind2_ev {g : Sto → Dt → Dt → Option Dt} {s2 : Sto} (h1 : fa env s = some (x, s1)) (h2 : fb env s1 = some (y, s2)) (h3 : g s2 x y = some z) : bind2 fa fb g env s = some (z, s2) := by
  unfold bind2; rw [h1]; simp only [Option.bind_eq_bind, Option.bind_some]; rw [h2]; simp only [Option.bind_some]; rw [h3]; rfl
theorem bind1_ev {g : Sto → Dt → Option Dt} (h1 : fa env s = some (x, s1)) (h3 : g s1 x = some z) : bind1 fa g env s = some (z, s1) := by
  unfold bind1; rw [h1]; simp only [Option.bind_eq_bind, Option.bind_some]; rw [h3]; rfl
theorem asB_ev {b : Bool} (h : f env s = some (.bl b, s')) : asB f env s = some (b, s') := by unfold asB; rw [h]
theorem bindA_ev {r : Fa} {g : Sto → List Dt → Option Dt} {xs : List Dt} (h1 : r env s = some (xs, s1)) (h3 : g s1 xs = some z) : bindA r g env s = some (z, s1) := by
  unfold bindA; rw [h1]; simp only [Option.bind_eq_bind, Option.bind_some]; rw [h3]; rfl
theorem aCons_ev {r : Fa} {xs : List Dt} (h1 : f env s = some (x, s1)) (h2 : r env s1 = some (xs, s')) : aCons f r env s = some (x :: xs, s') := by
  unfold aCons; rw [h1]; simp only [Option.bind_eq_bind, Option.bind_some]; rw [h2]; rfl
theorem call_ev {Fn : List Dt → Sto → Option (Dt × Sto)} {fa : Fa} {xs : List Dt} (h1 : fa env s = some (xs, s1)) (h2 : Fn xs s1 = some (d, s')) : callF Fn fa env s = some (d, s') := by
  unfold callF; rw [h1]; exact h2
theorem a0 : aNil env s = some ([], s) := rfl
theorem c0 : fC d env s = some (d, s) := rfl
theorem v0 (h : env[i]? = some (some d)) : fVar i env s = some (d, s) := by unfold fVar; rw [h]; rfl
theorem fn_rt {m : Nat} {F : Fs} {ds : List Dt} (h : F (ds.map some ++ List.replicate (m - ds.length) none) s = some (.rt d, s')) : fnV m F ds s = some (d, s') := by unfold fnV; rw [h]
theorem fn_nx {m : Nat} {F : Fs} {ds : List Dt} (h : F (ds.map some ++ List.replicate (m - ds.length) none) s = some (.nx e', s')) : fnV m F ds s = some (.non, s') := by unfold fnV; rw [h]
end
theorem lcL_map {te : Fe} {w : Env} {k : Nat} {g : Dt → Dt} {s : Sto} : ∀ {ds : List Dt}, (∀ d, d ∈ ds → te (w.set k (some d)) s = some (g d, s)) → lcL (tgN k) yesT te w ds s = some (ds.map g, s)
  | [], _ => rfl
  | d :: ds, h => by
    have ih := lcL_map (te := te) (w := w) (k := k) (g := g) (s := s) (ds := ds) fun d' h' => h d' (List.mem_cons_of_mem _ h')
    unfold lcL
    simp only [tgN, yesT]
    rw [h d List.mem_cons_self]
    dsimp only
    rw [ih]
    rfl
theorem lc_map {fi : Fi} {te : Fe} {env : Env} {vs : List Nat} {k : Nat} {g : Dt → Dt} {s s1 : Sto} {ds : List Dt} (hi : fi env s = some (ds, s1)) (hl : ds.length ≤ sizeLine) (h : ∀ d, d ∈ ds → te ((wipeE env vs).set k (some d)) s1 = some (g d, s1)) : lcF fi (tgN k) yesT te vs env s = some (.lst (ds.map g), s1) := by
  unfold lcF
  rw [hi]
  dsimp only
  rw [lcL_map h]
  dsimp only
  rw [if_pos (by rw [List.length_map]; exact hl)]
theorem lcL_filter {te : Fe} {tt : Ft} {w : Env} {k : Nat} {g : Dt → Dt} {q : Dt → Bool} {s : Sto} : ∀ {ds : List Dt}, (∀ d, d ∈ ds → tt (w.set k (some d)) s = some (q d, s)) → (∀ d, d ∈ ds → q d = true → te (w.set k (some d)) s = some (g d, s)) → lcL (tgN k) tt te w ds s = some ((ds.filter q).map g, s)
  | [], _, _ => rfl
  | d :: ds, h1, h => by
    have ih := lcL_filter (te := te) (tt := tt) (w := w) (k := k) (g := g) (q := q) (s := s) (ds := ds) (fun d' h' => h1 d' (List.mem_cons_of_mem _ h')) fun d' h' => h d' (List.mem_cons_of_mem _ h')
    unfold lcL
    simp only [tgN]
    rw [h1 d List.mem_cons_self]
    cases hq : q d with
    | true =>
      dsimp only
      rw [h d List.mem_cons_self hq]
      dsimp only
      rw [ih]
      rw [List.filter_cons_of_pos hq]
      rfl
    | false =>
      dsimp only
      rw [ih]
      rw [List.filter_cons_of_neg (by rw [hq]; exact Bool.false_ne_true)]
theorem lc_filter {fi : Fi} {te : Fe} {tt : Ft} {env : Env} {vs : List Nat} {k : Nat} {g : Dt → Dt} {q : Dt → Bool} {s s1 : Sto} {ds : List Dt} (hi : fi env s = some (ds, s1)) (hl : ds.length ≤ sizeLine) (h1 : ∀ d, d ∈ ds → tt ((wipeE env vs).set k (some d)) s1 = some (q d, s1))
    (h : ∀ d, d ∈ ds → q d = true → te ((wipeE env vs).set k (some d)) s1 = some (g d, s1)) : lcF fi (tgN k) tt te vs env s = some (.lst ((ds.filter q).map g), s1) := by
  unfold lcF
  rw [hi]
  dsimp only
  rw [lcL_filter h1 h]
  dsimp only
  rw [if_pos (by rw [List.length_map]; exact Nat.le_trans (List.length_filter_le _ _) hl)]
theorem small {n : Nat} (h : n ≤ 16777215) : n ≤ sizeLine := by rw [sizeLine_eq]; omega
theorem small' {n : Nat} (h : n < 16777215) : n < sizeLine := by rw [sizeLine_eq]; omega
section
variable (l : List Int) (y z u v : Int)
end
theorem ix_one {p : Addr} {ks : List (Key × Dt)} {x : Str} : ixA [(p, .dct ks)] (.ref p) (.str x) = valD ks (.inr x) := by
  simp [ixA, dctOf, dgetG, keyOf, List.lookup]
theorem get_ev {env : Env} {p : Addr} {ks : List (Key × Dt)} {x : Str} {d : Dt} {i : Nat} (h : env[i]? = some (some (.ref p))) (hv : valD ks (.inr x) = some d) : bind2 (fVar i) (fC (.str x)) ixA env [(p, .dct ks)] = some (d, [(p, .dct ks)]) :=
  bind2_ev (v0 h) c0 (ix_one.trans hv)
theorem hput_ev {env : Env} {p : Addr} {ks ks' : List (Key × Dt)} {x : Str} {d : Dt} {i : Nat} {fv : Fe} (h : env[i]? = some (some (.ref p))) (hf : fv env [(p, .dct ks)] = some (d, [(p, .dct ks)])) (hl : ks.length < sizeLine) (hp : putD ks (.inr x) d = ks') : hputS i (fC (.str x)) fv env [(p, .dct ks)] = some (.nx env, [(p, .dct ks')]) := by
  unfold hputS
  rw [hf]
  dsimp only
  rw [c0, h]
  simp [keyOf, List.lookup, hl, hp]
theorem shaped_ints (l : List Int) : plain (.lst (l.map .int)) = true ∧ SeqAt.shaped (py (.lst (l.map .int))) = true := by
  have h1 : ∀ l : List Int, plains (l.map Dt.int) = true := fun l => by
    induction l with
    | nil => rfl
    | cons x l ih => simpa [plains, plain] using ih
  have h2 : ∀ l : List Int, PyData.canLayAll0 (pys (l.map Dt.int)) = true := fun l => by
    induction l with
    | nil => rfl
    | cons x l ih => simpa [pys, py, PyData.canLayAll0, PyData.canLay0] using ih
  have h3 : ∀ l : List Int, PyData.depthAll (pys (l.map Dt.int)) = 0 := fun l => by
    induction l with
    | nil => rfl
    | cons x l ih => simpa [pys, py, PyData.depthAll, PyData.depth] using ih
  refine ⟨by simpa [plain] using h1 l, ?_⟩
  simp [SeqAt.shaped, py, PyData.canLay0, PyData.depth, h2 l, h3 l]
theorem ne_cells (s : Sto) (l : List Int) : neG s (.lst (l.map .int)) (.lst []) = some (.bl (!l.isEmpty)) := by
  obtain ⟨h1, h2⟩ := shaped_ints l
  obtain ⟨h3, h4⟩ := shaped_ints []
  unfold neG eqG
  dsimp only
  rw [if_pos ⟨h1, h3, h2, h4⟩]
  cases l <;> rfl
end DL

namespace DL
open PySem PySem.Spec PyProof.Rows L2
theorem atI_mod {l : List Int} (h : l ≠ []) (y : Int) : ∃ c, atI (l.map Dt.int) (y % ((l.length : Nat) : Int)) = some (.int c) := by
  have hl : 0 < l.length := List.length_pos_iff.mpr h
  have h1 : 0 ≤ y % (l.length : Int) := Int.emod_nonneg _ (by omega)
  have h2 : y % (l.length : Int) < l.length := Int.emod_lt_of_pos _ (by omega)
  obtain ⟨n, hn⟩ := Int.eq_ofNat_of_zero_le h1
  rw [hn] at h2 ⊢
  have hn2 : n < l.length := by omega
  exact ⟨l[n], atI_nat (j := n) (by rw [List.getElem?_map, List.getElem?_eq_getElem hn2]; rfl)⟩
end DL

namespace DL
open PySem PySem.Spec PyProof.Rows L2
abbrev Fn := List Dt → Sto → Option (Dt × Sto)
structure Dip (dp : Fn) (Sp : Addr → Nat → Sto → Prop) : Prop where
  draw : ∀ {p : Addr} {n : Nat} {s : Sto} {m : Int}, Sp p n s → n < 1000000 → 0 < m → m < 1073741824 → ∃ r s', dp [.ref p, .int m] s = some (.int r, s') ∧ 0 ≤ r ∧ r < m ∧ Sp p (n + 1) s'
  mono : ∀ {p : Addr} {n m : Nat} {s : Sto}, Sp p n s → n ≤ m → Sp p m s
variable {dp : Fn} {Sp : Addr → Nat → Sto → Prop}
theorem ixA_lst {s : Sto} {ds : List Dt} {n : Nat} {d : Dt} (h : ds[n]? = some d) : ixA s (.lst ds) (.int n) = some d := by
  show atI ds (n : Int) = some d
  exact atI_nat h
theorem ixA_tup {s : Sto} {ds : List Dt} {n : Nat} {d : Dt} (h : ds[n]? = some d) : ixA s (.tup ds) (.int n) = some d := by
  show atI ds (n : Int) = some d
  exact atI_nat h
theorem pick_sp (D : Dip dp Sp) {p : Addr} {n : Nat} {s : Sto} {ds : List Dt} (h : Sp p n s) (hn : n < 1000000) (h0 : ds ≠ []) (hl : ds.length < 1000000) : ∃ d s', (V_law_pick_k01 dp) [.ref p, .lst ds] s = some (d, s') ∧ d ∈ ds ∧ Sp p (n + 1) s' := by
  have hp : 0 < ds.length := List.length_pos_iff.mpr h0
  obtain ⟨r, s', e, r1, r2, h'⟩ := D.draw (m := ((ds.length : Nat) : Int)) h hn (by omega) (by omega)
  obtain ⟨k, rfl⟩ := Int.eq_ofNat_of_zero_le r1
  have hk : k < ds.length := by omega
  refine ⟨ds[k], s', fn_rt (ret_ev (bind2_ev (v0 rfl) (call_ev (aCons_ev (v0 rfl) (aCons_ev (bindA_ev (aCons_ev (v0 rfl) a0) rfl) a0)) e) (ixA_lst (List.getElem?_eq_getElem hk)))), List.getElem_mem hk, h'⟩
end DL

namespace DL
open PySem PySem.Spec PyProof.Rows L2
inductive Ru where
  | drop (n : Nat) (l : Bool) | half (l : Bool) | empty | lower (l : Bool) | put (c : Nat) (w : List Nat) (l : Bool)
def wd (w : List Nat) : Dt := .str ⟨w.toArray⟩
def sideD (l : Bool) : Dt := .str (if l then "left" else "right")
def Ru.d : Ru → Dt
  | .drop n l => .tup [.str "drop", .int n, sideD l]
  | .half l => .tup [.str "half", sideD l]
  | .empty => .tup [.str "empty"]
  | .lower l => .tup [.str "lower", sideD l]
  | .put c w l => .tup [.str "put", wd [c], wd w, sideD l]
def menuS : List Str := ["d1l", "d1r", "d2l", "d2r", "d3l", "d4r", "hl", "hr", "e", "ll", "lr", "pa:.l", "pb:.r", "pb:a.l", "pc:a.r", "pc:ab.l", "pb:aa.l", "pa:b.l", "pc:.l", "pa:bb.r", "pc:abb.l", "pb:aaa.r"]
end DL

namespace DL
open PySem PySem.Spec PyProof.Rows L2
def fitG (f g : Str) : Bool := match g.cps.toList with
  | 112 :: c :: _ :: r => (c :: r.take (r.length - 2)).all fun x => f.cps.toList.contains x
  | _ => true
end DL

namespace DL
open PySem PySem.Spec PyProof.Rows L2
variable {dp : Fn} {Sp : Addr → Nat → Sto → Prop}
theorem strsOf_map : ∀ l : List Str, strsOf (l.map .str) = some l
  | [] => rfl
  | x :: l => by
    show (strsOf (l.map .str)).map (x :: ·) = _
    rw [strsOf_map l]
    rfl
theorem sum_le {l : List Str} {k : Nat} (h : ∀ x ∈ l, x.length ≤ k) : (l.map (·.length)).sum ≤ l.length * k := by
  induction l with
  | nil => exact Nat.zero_le _
  | cons x l ih =>
    have h1 := h x List.mem_cons_self
    have h2 := ih fun y hy => h y (List.mem_cons_of_mem _ hy)
    rw [List.map_cons, List.sum_cons, List.length_cons, Nat.add_mul]
    omega
def I5 (Sp : Addr → Nat → Sto → Prop) (p : Addr) (n : Nat) (f : Str) (r : List Dt) (env : Env) (s : Sto) : Prop := ∃ (gs : List Str) (x4 x5 : Option Dt), env = [some (.ref p), some (.lst (menuS.map .str)), some (.str f), some (.lst (gs.map .str)), x4, x5, none] ∧ (∀ g ∈ gs, g ∈ menuS ∧ fitG f g = true) ∧ gs.length + r.length ≤ 6 ∧ Sp p (n + (6 - r.length)) s
end DL

namespace DL
open PySem PySem.Spec PyProof.Rows L2
def words (l : List Nat) : List (List Nat) := if l = [] then [] else l.foldr (fun c acc => if c = 32 then [] :: acc else match acc with | [] => [[c]] | w :: r => (c :: w) :: r) [[]]
def insN (x : Nat) : List Nat → List Nat
  | [] => [x]
  | y :: r => if x ≤ y then x :: y :: r else y :: insN x r
def sortN (l : List Nat) : List Nat := l.foldr insN []
def strW (l : List Nat) : Str := ⟨l.toArray⟩
end DL

namespace DL
open PySem PySem.Spec PyProof.Rows L2
end DL

namespace DL
open PySem PySem.Spec PyProof.Rows L2
end DL

namespace DL
open PySem PySem.Spec PyProof.Rows L2
variable {dp : Fn} {Sp : Addr → Nat → Sto → Prop}
end DL

namespace DL
open PySem PySem.Spec PyProof.Rows L2
variable {dp : Fn} {Sp : Addr → Nat → Sto → Prop}
theorem ne_nil (s : Sto) {ds : List Dt} (h1 : plain (.lst ds) = true) (h2 : SeqAt.shaped (py (.lst ds)) = true) : neG s (.lst ds) (.lst []) = some (.bl (!ds.isEmpty)) := by
  obtain ⟨h3, h4⟩ := shaped_ints []
  unfold neG eqG
  dsimp only
  rw [if_pos ⟨h1, h3, h2, h4⟩]
  cases ds <;> rfl
theorem join0 : ∀ w : List Nat, TL.joinL [] (w.map fun c => [c]) = w
  | [] => rfl
  | [c] => rfl
  | c :: d :: r => by
    show [c] ++ ([] ++ TL.joinL [] ((d :: r).map fun c => [c])) = _
    rw [join0 (d :: r)]
    rfl
theorem join_w (w : List Nat) : Txt.join "" (w.map fun c => strW [c]) = strW w := by
  have h : TL.tl (Txt.join "" (w.map fun c => strW [c])) = w := by
    rw [TL.join_eq, TL.tl_join, List.map_map]
    exact join0 w
  have e : ∀ x : Str, x = strW (TL.tl x) := fun x => by
    obtain ⟨⟨l⟩⟩ := x
    rfl
  rw [e (Txt.join _ _), h]
end DL

namespace DL
open PySem PySem.Spec PyProof.Rows L2
theorem strW_tl (x : Str) : x = strW (TL.tl x) := by
  obtain ⟨⟨l⟩⟩ := x
  rfl
theorem strW_len (w : List Nat) : (strW w).length = w.length := rfl
theorem strW_cat (a b : List Nat) : strW a ++ strW b = strW (a ++ b) := by
  rw [strW_tl (strW a ++ strW b), TL.tl_append]
  rfl
theorem cut_take (w : List Nat) (k : Nat) : cutS (strW w) none (some ((k : Nat) : Int)) = strW (w.take k) := by
  unfold cutS
  rw [HT.sIx_none, HT.sIx_nat, strW_len]
  show strW ((w.drop 0).take (min k w.length - 0)) = _
  rw [List.drop_zero, Nat.sub_zero]
  by_cases h : k ≤ w.length
  · rw [Nat.min_eq_left h]
  · rw [Nat.min_eq_right (by omega), List.take_of_length_le (Nat.le_refl _), List.take_of_length_le (by omega)]
theorem cut_drop (w : List Nat) (k : Nat) : cutS (strW w) (some ((k : Nat) : Int)) none = strW (w.drop k) := by
  unfold cutS
  rw [HT.sIx_none, HT.sIx_nat, strW_len]
  show strW ((w.drop (min k w.length)).take (w.length - min k w.length)) = _
  rw [List.take_of_length_le (by rw [List.length_drop]; exact Nat.le_refl _)]
  by_cases h : k ≤ w.length
  · rw [Nat.min_eq_left h]
  · rw [Nat.min_eq_right (by omega), List.drop_of_length_le (Nat.le_refl _), List.drop_of_length_le (by omega)]
section
variable {env : Env} {s : Sto} {f g : Fe} {w a b : List Nat} {k : Nat}
theorem take_ev (hx : f env s = some (wd w, s)) (hk : g env s = some (.int ((k : Nat) : Int), s)) (hl : w.length ≤ 100) : bindS f oNone (oSome g) sliceG env s = some (wd (w.take k), s) := by
  unfold bindS
  rw [hx]
  simp only [Option.bind_eq_bind, Option.bind_some, oNone, oSome, hk]
  show (sliceG s (.str (strW w)) none (some ((k : Nat) : Int))).bind (fun z => some (z, s)) = _
  unfold sliceG
  dsimp only
  rw [if_pos (small (by rw [strW_len]; omega)), cut_take]
  rfl
theorem drop_ev (hx : f env s = some (wd w, s)) (hk : g env s = some (.int ((k : Nat) : Int), s)) (hl : w.length ≤ 100) : bindS f (oSome g) oNone sliceG env s = some (wd (w.drop k), s) := by
  unfold bindS
  rw [hx]
  simp only [Option.bind_eq_bind, Option.bind_some, oNone, oSome, hk]
  show (sliceG s (.str (strW w)) (some ((k : Nat) : Int)) none).bind (fun z => some (z, s)) = _
  unfold sliceG
  dsimp only
  rw [if_pos (small (by rw [strW_len]; omega)), cut_drop]
  rfl
theorem cat_ev (ha : f env s = some (wd a, s)) (hb : g env s = some (wd b, s)) (hl : a.length + b.length ≤ 1000) : bind2 f g addAll env s = some (wd (a ++ b), s) := by
  refine bind2_ev ha hb ?_
  show (if (strW a).length + (strW b).length ≤ sizeLine then some (Dt.str (strW a ++ strW b)) else none) = _
  rw [if_pos (small (by rw [strW_len, strW_len]; omega)), strW_cat]
  rfl
theorem len_ev (hx : f env s = some (wd w, s)) (hl : w.length ≤ 100) : bindA (aCons f aNil) lenG env s = some (.int ((w.length : Nat) : Int), s) :=
  bindA_ev (aCons_ev hx a0) (if_pos (small (by show w.length ≤ 16777215; omega)))
theorem at_ev {c : Nat} (hx : f env s = some (wd w, s)) (hk : g env s = some (.int ((k : Nat) : Int), s)) (hl : w.length ≤ 100) (hc : w[k]? = some c) : bind2 f g ixA env s = some (wd [c], s) := by
  refine bind2_ev hx hk ?_
  show (if (strW w).length ≤ sizeLine then (atI w ((k : Nat) : Int)).map (fun c => Dt.str ⟨#[c]⟩) else none) = _
  rw [if_pos (small (by rw [strW_len]; omega)), atI_nat hc]
  rfl
end
def pos (n : Nat) (l : Bool) : List Nat := if l then List.range n else (List.range n).reverse
def posD (n : Nat) (l : Bool) : List Dt := (pos n l).map fun k => .int ((k : Nat) : Int)
theorem rgD_range (m : Int) : rgD 0 m = (List.range m.toNat).map fun k => Dt.int ((k : Nat) : Int) := by
  unfold rgD
  rw [Int.sub_zero]
  refine List.map_congr_left fun k _ => ?_
  rw [Int.zero_add]
theorem rg_ev {f : Fe} {env : Env} {s : Sto} {m : Int} (h : f env s = some (.int m, s)) (h1 : -1000 ≤ m) (h2 : m ≤ 1000) : bind1 f rg1G env s = some (.lst ((List.range m.toNat).map fun k => .int ((k : Nat) : Int)), s) := by
  refine bind1_ev h ?_
  unfold rg1G
  dsimp only
  rw [if_pos (show rgOk 0 m = true from decide_eq_true ⟨by decide, by decide, by omega, by omega, by omega⟩), rgD_range]
theorem side_ev {env : Env} {s : Sto} {f : Fe} {l : Bool} (h : f env s = some (sideD l, s)) : asB (bind2 f (fC (.str "left")) eqG) env s = some (l, s) := by
  refine asB_ev (bind2_ev h c0 ?_)
  cases l <;> rfl
theorem pick_side {env : Env} {s : Sto} {f : Fe} {t : Ft} {n : Nat} {l : Bool} (ht : t env s = some (l, s)) (h : f env s = some (.lst ((List.range n).map fun k => .int ((k : Nat) : Int)), s)) : ifV t f (bind1 f revG) env s = some (.lst (posD n l), s) := by
  cases l with
  | true => rw [ifV_t ht, h]; rfl
  | false =>
    rw [ifV_f ht]
    refine bind1_ev h ?_
    show some (Dt.lst ((List.range n).map fun k => Dt.int ((k : Nat) : Int)).reverse) = _
    rw [← List.map_reverse]
    rfl
theorem places_ok (m : Int) (l : Bool) (s : Sto) (h1 : -1000 ≤ m) (h2 : m ≤ 1000) : Vplaces [.int m, sideD l] s = some (.lst (posD m.toNat l), s) :=
  fn_rt ((seq_nx (set_ev (rg_ev (v0 rfl) h1 h2))).trans (ret_ev (pick_side (side_ev (v0 rfl)) (v0 rfl))))
theorem pos_lt {n k : Nat} {l : Bool} (h : k ∈ pos n l) : k < n := by
  unfold pos at h
  split at h
  · exact List.mem_range.mp h
  · exact List.mem_range.mp (List.mem_reverse.mp h)
theorem pos_len (n : Nat) (l : Bool) : (pos n l).length = n := by
  unfold pos
  split
  · exact List.length_range
  · rw [List.length_reverse]; exact List.length_range
end DL

namespace DL
open PySem PySem.Spec PyProof.Rows L2
abbrev Ents := List (Nat × List Nat)
def entL (E : Ents) : List Dt := E.map fun e => .tup [wd [e.1], .tup (e.2.map fun c => wd [c])]
def lesN (E : Ents) (c : Nat) : List Nat := ((E.find? fun e => decide (e.1 = c)).map (·.2)).getD []
def resN (E : Ents) (w : List Nat) : Ru → List (List Nat)
  | .drop n l => (pos ((w.length : Int) - n + 1).toNat l).map fun k => w.take k ++ w.drop (k + n)
  | .half l => [if l then w.take (w.length / 2) else w.drop (w.length - w.length / 2)]
  | .empty => [[]]
  | .lower l => (pos w.length l).flatMap fun k => (lesN E (w.getD k 0)).map fun c => w.take k ++ [c] ++ w.drop (k + 1)
  | .put c v l => ((pos w.length l).filter fun k => decide (w[k]? = some c)).map fun k => w.take k ++ v ++ w.drop (k + 1)
def wsD (l : List (List Nat)) : Dt := .lst (l.map wd)
def okR : Ru → Bool
  | .drop n _ => decide (n ≤ 10)
  | .put _ v _ => decide (v.length ≤ 10)
  | _ => true
section
variable {B : Dt} {w : List Nat} {s : Sto}
theorem res_drop (n : Nat) (l : Bool) (hn : n ≤ 10) (hw : w.length ≤ 50) : Vresults_of [B, (Ru.drop n l).d, wd w] s = some (wsD ((pos ((w.length : Int) - n + 1).toNat l).map fun k => w.take k ++ w.drop (k + n)), s) := by
  refine fn_rt ?_
  have t : asB (bind2 (fVar 3) (fC (.str "drop")) eqG) [some B, some (Ru.drop n l).d, some (wd w), some (.str "drop"), none, none, none, none, none] s = some (true, s) := asB_ev (bind2_ev (v0 rfl) c0 rfl)
  refine (seq_nx (set_ev (bind2_ev (v0 rfl) c0 (z := .str "drop") rfl))).trans (seq_rt ((if_t t).trans ((seq_nx (set_ev (bind2_ev (v0 rfl) c0 (z := .int n) rfl))).trans (ret_ev ?_))))
  refine (lc_map (s1 := s) (ds := posD ((w.length : Int) - n + 1).toNat l) (g := fun d => match d with | .int k => wd (w.take k.toNat ++ w.drop (k.toNat + n)) | _ => .non) ?_ (small (by unfold posD; rw [List.length_map, pos_len]; omega)) fun d hd => ?_).trans ?_
  · unfold seqF
    rw [call_ev (aCons_ev (bind2_ev (bind2_ev (len_ev (v0 rfl) (by omega)) (v0 (d := .int n) rfl) rfl) c0 rfl) (aCons_ev (bind2_ev (v0 rfl) c0 (z := sideD l) rfl) a0)) (places_ok _ l s (by omega) (by omega))]
    rfl
  · obtain ⟨k, hk, rfl⟩ := List.mem_map.mp hd
    have hk2 := pos_lt hk
    refine cat_ev (take_ev (k := k) (v0 rfl) (v0 rfl) (by omega)) (drop_ev (k := k + n) (v0 rfl) (bind2_ev (v0 (d := .int ((k : Nat) : Int)) rfl) (v0 (d := .int n) rfl) ?_) (by omega)) ?_
    · show some (Dt.int ((k : Int) + n)) = _
      rw [Int.natCast_add]
    · rw [List.length_take, List.length_drop]; omega
  · unfold posD wsD
    rw [List.map_map, List.map_map]
    rfl
theorem res_half (l : Bool) (hw : w.length ≤ 50) : Vresults_of [B, (Ru.half l).d, wd w] s = some (wsD [if l then w.take (w.length / 2) else w.drop (w.length - w.length / 2)], s) := by
  refine fn_rt ?_
  have t1 : asB (bind2 (fVar 3) (fC (.str "drop")) eqG) [some B, some (Ru.half l).d, some (wd w), some (.str "half"), none, none, none, none, none] s = some (false, s) := asB_ev (bind2_ev (v0 rfl) c0 rfl)
  have t2 : asB (bind2 (fVar 3) (fC (.str "half")) eqG) [some B, some (Ru.half l).d, some (wd w), some (.str "half"), none, none, none, none, none] s = some (true, s) := asB_ev (bind2_ev (v0 rfl) c0 rfl)
  have hdv : divG s (.int ((w.length : Nat) : Int)) (.int 2) = some (.int ((w.length / 2 : Nat) : Int)) := by
    unfold divG
    dsimp only
    rw [if_pos ⟨by decide, by decide⟩, Int.natCast_ediv]
    rfl
  refine (seq_nx (set_ev (bind2_ev (v0 rfl) c0 (z := .str "half") rfl))).trans ((seq_nx ((if_f t1).trans rfl)).trans (seq_rt ((if_t t2).trans ((seq_nx (set_ev (bind2_ev (len_ev (v0 rfl) (by omega)) c0 hdv))).trans (ret_ev (bindA_ev (aCons_ev (x := wd (if l then w.take (w.length / 2) else w.drop (w.length - w.length / 2))) ?_ a0) (if_pos (small (by show 1 ≤ 16777215; decide)))))))))
  have t3 : asB (bind2 (bind2 (fVar 1) (fC (.int 1)) ixA) (fC (.str "left")) eqG) [some B, some (Ru.half l).d, some (wd w), some (.str "half"), none, some (.int ((w.length / 2 : Nat) : Int)), none, none, none] s = some (l, s) := side_ev (bind2_ev (v0 rfl) c0 rfl)
  cases l with
  | true => exact (ifV_t t3).trans (take_ev (v0 rfl) (v0 rfl) (by omega))
  | false =>
    refine (ifV_f t3).trans (drop_ev (k := w.length - w.length / 2) (v0 rfl) (bind2_ev (len_ev (v0 rfl) (by omega)) (v0 rfl) ?_) (by omega))
    show some (Dt.int (((w.length : Nat) : Int) - ((w.length / 2 : Nat) : Int))) = _
    rw [Int.natCast_sub (Nat.div_le_self _ _)]
theorem res_empty : Vresults_of [B, Ru.empty.d, wd w] s = some (wsD [[]], s) := by rfl
theorem res_put (c : Nat) (v : List Nat) (l : Bool) (hv : v.length ≤ 10) (hw : w.length ≤ 50) : Vresults_of [B, (Ru.put c v l).d, wd w] s = some (wsD (((pos w.length l).filter fun k => decide (w[k]? = some c)).map fun k => w.take k ++ v ++ w.drop (k + 1)), s) := by
  refine fn_rt ?_
  let env : Env := [some B, some (Ru.put c v l).d, some (wd w), some (.str "put"), none, none, none, none, none]
  have t1 : asB (bind2 (fVar 3) (fC (.str "drop")) eqG) env s = some (false, s) := asB_ev (bind2_ev (v0 rfl) c0 rfl)
  have t2 : asB (bind2 (fVar 3) (fC (.str "half")) eqG) env s = some (false, s) := asB_ev (bind2_ev (v0 rfl) c0 rfl)
  have t3 : asB (bind2 (fVar 3) (fC (.str "empty")) eqG) env s = some (false, s) := asB_ev (bind2_ev (v0 rfl) c0 rfl)
  have t4 : asB (bind2 (fVar 3) (fC (.str "lower")) eqG) env s = some (false, s) := asB_ev (bind2_ev (v0 rfl) c0 rfl)
  refine (seq_nx (set_ev (bind2_ev (v0 rfl) c0 (z := .str "put") rfl))).trans ((seq_nx ((if_f t1).trans rfl)).trans ((seq_nx ((if_f t2).trans rfl)).trans ((seq_nx ((if_f t3).trans rfl)).trans ((seq_nx ((if_f t4).trans rfl)).trans (ret_ev ?_)))))
  refine (lc_filter (s1 := s) (ds := posD w.length l) (q := fun d => match d with | .int k => decide (w[k.toNat]? = some c) | _ => false) (g := fun d => match d with | .int k => wd (w.take k.toNat ++ v ++ w.drop (k.toNat + 1)) | _ => .non) ?_ (small (by unfold posD; rw [List.length_map, pos_len]; omega)) (fun d hd => ?_) fun d hd _ => ?_).trans ?_
  · unfold seqF
    rw [call_ev (aCons_ev (len_ev (v0 rfl) (by omega)) (aCons_ev (bind2_ev (v0 rfl) c0 (z := sideD l) rfl) a0)) (places_ok _ l s (by omega) (by omega))]
    rfl
  · obtain ⟨k, hk, rfl⟩ := List.mem_map.mp hd
    have hk2 := pos_lt hk
    have hc : w[k]? = some w[k] := List.getElem?_eq_getElem hk2
    refine asB_ev (bind2_ev (at_ev (k := k) (v0 rfl) (v0 rfl) (by omega) hc) (bind2_ev (v0 rfl) c0 (z := wd [c]) rfl) ?_)
    show some (Dt.bl (decide (strW [w[k]] = strW [c]))) = some (Dt.bl (decide (w[k]? = some c)))
    rw [hc]
    have e : (strW [w[k]] = strW [c]) ↔ (some w[k] = some c) := by
      constructor
      · intro h
        have h' := congrArg TL.tl h
        have h'' : [w[k]] = [c] := h'
        rw [List.cons.inj h'' |>.1]
      · intro h
        rw [Option.some.inj h]
    rw [decide_eq_decide.mpr e]
  · obtain ⟨k, hk, rfl⟩ := List.mem_map.mp hd
    have hk2 := pos_lt hk
    refine cat_ev (cat_ev (take_ev (k := k) (v0 rfl) (v0 rfl) (by omega)) (bind2_ev (v0 rfl) c0 (z := wd v) rfl) ?_) (drop_ev (k := k + 1) (v0 rfl) (bind2_ev (v0 (d := .int ((k : Nat) : Int)) rfl) c0 ?_) (by omega)) ?_
    · rw [List.length_take]; omega
    · show some (Dt.int ((k : Int) + 1)) = _
      rw [Int.natCast_add]
      rfl
    · rw [List.length_append, List.length_take, List.length_drop]; omega
  · unfold posD wsD
    rw [List.filter_map, List.map_map, List.map_map]
    rfl
end
end DL

namespace DL
open PySem PySem.Spec PyProof.Rows L2
theorem lc2I_map {te : Fe} {e : Env} {k : Nat} {g : Dt → Dt} {s : Sto} : ∀ {ds : List Dt}, (∀ d, d ∈ ds → te (e.set k (some d)) s = some (g d, s)) → lc2I (tgN k) yesT te e ds s = some (ds.map g, s)
  | [], _ => rfl
  | d :: ds, h => by
    have ih := lc2I_map (te := te) (e := e) (k := k) (g := g) (s := s) (ds := ds) fun d' h' => h d' (List.mem_cons_of_mem _ h')
    unfold lc2I
    simp only [tgN, yesT]
    rw [h d List.mem_cons_self]
    dsimp only
    rw [ih]
    rfl
theorem lc2L_map {fi1 : Fi} {te : Fe} {w : Env} {i i1 : Nat} {vs1 : List Nat} {h : Dt → List Dt} {g : Dt → Dt → Dt} {s : Sto} : ∀ {ds : List Dt}, (∀ d, d ∈ ds → fi1 (w.set i (some d)) s = some (h d, s)) → (∀ d d1, d ∈ ds → d1 ∈ h d → te ((wipeE (w.set i (some d)) vs1).set i1 (some d1)) s = some (g d d1, s)) →
    lc2L (tgN i) fi1 (tgN i1) yesT te vs1 w ds s = some (ds.flatMap fun d => (h d).map (g d), s)
  | [], _, _ => rfl
  | d :: ds, h1, h2 => by
    have ih := lc2L_map (fi1 := fi1) (te := te) (w := w) (i := i) (i1 := i1) (vs1 := vs1) (h := h) (g := g) (s := s) (ds := ds) (fun d' h' => h1 d' (List.mem_cons_of_mem _ h')) fun d' d1 h' => h2 d' d1 (List.mem_cons_of_mem _ h')
    unfold lc2L
    simp only [tgN]
    rw [h1 d List.mem_cons_self]
    dsimp only
    rw [lc2I_map (g := g d) fun d1 hd1 => h2 d d1 List.mem_cons_self hd1]
    dsimp only
    rw [ih]
    rfl
def lesD (l : List Nat) : Dt := .tup (l.map fun c => wd [c])
def prD (e : Nat × List Nat) : Key × Dt := (.inr (strW [e.1]), lesD e.2)
theorem pairs_ent : ∀ E : Ents, pairsOfD (entL E) = some (E.map prD)
  | [] => rfl
  | e :: E => by
    show (match keyOf (wd [e.1]), pairsOfD (entL E) with | some key, some ps => some ((key, lesD e.2) :: ps) | _, _ => none) = _
    rw [pairs_ent E]
    rfl
theorem strW_inj {a b : List Nat} (h : strW a = strW b) : a = b := congrArg TL.tl h
theorem mergeD_new : ∀ {ps acc : List (Key × Dt)}, ((acc ++ ps).map (·.1)).Nodup → mergeD acc ps = acc ++ ps
  | [], acc, _ => by rw [List.append_nil]; rfl
  | p :: ps, acc, h => by
    have hn : ∀ q ∈ acc, q.1 ≠ p.1 := fun q hq e => by
      rw [List.map_append, List.nodup_append] at h
      exact h.2.2 q.1 (List.mem_map.mpr ⟨q, hq, rfl⟩) p.1 (List.mem_map.mpr ⟨p, List.mem_cons_self, rfl⟩) e
    have e : putD acc p.1 p.2 = acc ++ [p] := by
      unfold putD
      rw [if_neg]
      intro z
      rw [List.any_eq_true] at z
      obtain ⟨q, hq, z⟩ := z
      exact hn q hq (of_decide_eq_true z)
    show mergeD (putD acc p.1 p.2) ps = _
    rw [e, mergeD_new (by rw [List.append_assoc]; exact h), List.append_assoc]
    rfl
theorem keys_nodup {E : Ents} (h : (E.map (·.1)).Nodup) : ((E.map prD).map (·.1)).Nodup := by
  rw [List.map_map]
  induction E with
  | nil => exact .nil
  | cons e E ih =>
    rw [List.map_cons, List.nodup_cons] at h ⊢
    refine ⟨fun z => h.1 ?_, ih h.2⟩
    obtain ⟨q, hq, z⟩ := List.mem_map.mp z
    have z' := Sum.inr.inj z
    have z'' := strW_inj z'
    rw [← (List.cons.inj z'').1]
    exact List.mem_map.mpr ⟨q, hq, rfl⟩
theorem val_ent {c : Nat} : ∀ {E : Ents}, c ∈ E.map (·.1) → valD (E.map prD) (.inr (strW [c])) = some (lesD (lesN E c))
  | [], h => absurd h List.not_mem_nil
  | e :: E, h => by
    unfold valD lesN
    rw [List.map_cons]
    by_cases he : e.1 = c
    · rw [List.find?_cons_of_pos (by subst he; exact decide_eq_true rfl), List.find?_cons_of_pos (by exact decide_eq_true he)]
      rfl
    · have hk : ¬ decide ((prD e).1 = Sum.inr (strW [c])) = true := fun z => by
        have z' := strW_inj (Sum.inr.inj (of_decide_eq_true z))
        exact he (List.cons.inj z').1
      have q1 : List.find? (fun kv : Key × Dt => decide (kv.1 = .inr (strW [c]))) (prD e :: E.map prD) = List.find? (fun kv : Key × Dt => decide (kv.1 = .inr (strW [c]))) (E.map prD) := List.find?_cons_of_neg hk
      have q2 : List.find? (fun e : Nat × List Nat => decide (e.1 = c)) (e :: E) = List.find? (fun e : Nat × List Nat => decide (e.1 = c)) E := List.find?_cons_of_neg (fun z => he (of_decide_eq_true z))
      rw [q1, q2]
      rw [List.map_cons] at h
      rcases List.mem_cons.mp h with rfl | h
      · exact absurd rfl he
      · exact val_ent h
theorem toDct_ent (s : Sto) {E : Ents} (h : (E.map (·.1)).Nodup) : toDctG s [.tup (entL E)] = some (.dct (E.map prD)) ∧ toDctG s [.lst (entL E)] = some (.dct (E.map prD)) := by
  have z : (pairsOfD (entL E)).map (fun ps => Dt.dct (mergeD [] ps)) = some (.dct (E.map prD)) := by
    rw [pairs_ent]
    show some (Dt.dct (mergeD [] (E.map prD))) = _
    rw [mergeD_new (by rw [List.nil_append]; exact keys_nodup h), List.nil_append]
  exact ⟨z, z⟩
theorem les_ev {env : Env} {s : Sto} {fd fx fk : Fe} {E : Ents} {w : List Nat} {k : Nat} (hd : fd env s = some (.dct (E.map prD), s)) (hx : fx env s = some (wd w, s)) (hk : fk env s = some (.int ((k : Nat) : Int), s)) (hl : w.length ≤ 100) (hkw : k < w.length) (hc : ∀ c ∈ w, c ∈ E.map (·.1)) :
    seqF (bind2 fd (bind2 fx fk ixA) ixA) env s = some ((lesN E (w.getD k 0)).map fun c => wd [c], s) := by
  have e : w[k]? = some w[k] := List.getElem?_eq_getElem hkw
  have e2 : w.getD k 0 = w[k] := by rw [List.getD_eq_getElem?_getD, e]; rfl
  unfold seqF
  rw [bind2_ev hd (at_ev hx hk hl e) (z := lesD (lesN E w[k])) (val_ent (hc _ (List.getElem_mem hkw))), e2]
  rfl
section
variable {w : List Nat} {s : Sto}
theorem res_lower {E : Ents} (R : Dt) (l : Bool) (hE : (E.map (·.1)).Nodup) (hl : ∀ e ∈ E, e.2.length ≤ 10) (hc : ∀ c ∈ w, c ∈ E.map (·.1)) (hw : w.length ≤ 50) :
    Vresults_of [.tup [.tup (entL E), R], (Ru.lower l).d, wd w] s = some (wsD ((pos w.length l).flatMap fun k => (lesN E (w.getD k 0)).map fun c => w.take k ++ [c] ++ w.drop (k + 1)), s) := by
  refine fn_rt ?_
  let env : Env := [some (.tup [.tup (entL E), R]), some (Ru.lower l).d, some (wd w), some (.str "lower"), none, none, none, none, none]
  have t1 : asB (bind2 (fVar 3) (fC (.str "drop")) eqG) env s = some (false, s) := asB_ev (bind2_ev (v0 rfl) c0 rfl)
  have t2 : asB (bind2 (fVar 3) (fC (.str "half")) eqG) env s = some (false, s) := asB_ev (bind2_ev (v0 rfl) c0 rfl)
  have t3 : asB (bind2 (fVar 3) (fC (.str "empty")) eqG) env s = some (false, s) := asB_ev (bind2_ev (v0 rfl) c0 rfl)
  have t4 : asB (bind2 (fVar 3) (fC (.str "lower")) eqG) env s = some (true, s) := asB_ev (bind2_ev (v0 rfl) c0 rfl)
  refine (seq_nx (set_ev (bind2_ev (v0 rfl) c0 (z := .str "lower") rfl))).trans ((seq_nx ((if_f t1).trans rfl)).trans ((seq_nx ((if_f t2).trans rfl)).trans ((seq_nx ((if_f t3).trans rfl)).trans (seq_rt ((if_t t4).trans ((seq_nx (set_ev (bindA_ev (aCons_ev (bind2_ev (v0 rfl) c0 (z := .tup (entL E)) rfl) a0) (toDct_ent s hE).1))).trans (ret_ev ?_)))))))
  have hles : ∀ k, (lesN E (w.getD k 0)).length ≤ 10 := fun k => by
    unfold lesN
    cases q : E.find? fun e => decide (e.1 = w.getD k 0) with
    | none => exact Nat.zero_le _
    | some e => exact hl e (List.mem_of_find?_eq_some q)
  have hit : seqF (callF Vplaces (aCons (bindA (aCons (fVar 2) aNil) lenG) (aCons (bind2 (fVar 1) (fC (.int 1)) ixA) aNil))) [some (.tup [.tup (entL E), R]), some (Ru.lower l).d, some (wd w), some (.str "lower"), none, none, some (.dct (E.map prD)), none, none] s = some (posD w.length l, s) := by
    unfold seqF
    rw [call_ev (aCons_ev (len_ev (v0 rfl) (by omega)) (aCons_ev (bind2_ev (v0 rfl) c0 (z := sideD l) rfl) a0)) (places_ok _ l s (by omega) (by omega))]
    rfl
  show lc2F _ _ _ _ _ _ _ _ [some (.tup [.tup (entL E), R]), some (Ru.lower l).d, some (wd w), some (.str "lower"), none, none, some (.dct (E.map prD)), none, none] s = _
  unfold lc2F
  rw [hit]
  dsimp only
  rw [lc2L_map (ds := posD w.length l) (h := fun d => match d with | .int k => (lesN E (w.getD k.toNat 0)).map (fun c => wd [c]) | _ => []) (g := fun d d1 => match d, d1 with | .int k, .str x => wd (w.take k.toNat ++ TL.tl x ++ w.drop (k.toNat + 1)) | _, _ => .non) (fun d hd => ?_) fun d d1 hd hd1 => ?_]
  · dsimp only
    have e : ((posD w.length l).flatMap fun d => (match d with | Dt.int k => (lesN E (w.getD k.toNat 0)).map (fun c => wd [c]) | _ => []).map fun (d1 : Dt) => match d, d1 with | Dt.int k, Dt.str x => wd (w.take k.toNat ++ TL.tl x ++ w.drop (k.toNat + 1)) | _, _ => Dt.non) = ((pos w.length l).flatMap fun k => (lesN E (w.getD k 0)).map fun c => w.take k ++ [c] ++ w.drop (k + 1)).map wd := by
      unfold posD
      rw [List.flatMap_map, List.map_flatMap]
      congr 1
      funext k
      rw [List.map_map]
      rw [List.map_map]
      rfl
    rw [e, if_pos]
    · rfl
    · refine small ?_
      rw [List.length_map, List.length_flatMap]
      have z : ∀ ks : List Nat, (ks.map fun k => ((lesN E (w.getD k 0)).map fun c => w.take k ++ [c] ++ w.drop (k + 1)).length).sum ≤ ks.length * 10 := fun ks => by
        induction ks with
        | nil => exact Nat.zero_le _
        | cons k ks ih =>
          rw [List.map_cons, List.sum_cons, List.length_cons, Nat.add_mul, List.length_map]
          have := hles k
          omega
      have z2 := z (pos w.length l)
      rw [pos_len] at z2
      omega
  · obtain ⟨k, hk, rfl⟩ := List.mem_map.mp hd
    exact les_ev (k := k) (v0 rfl) (v0 rfl) (v0 rfl) (by omega) (pos_lt hk) hc
  · obtain ⟨k, hk, rfl⟩ := List.mem_map.mp hd
    have hk2 := pos_lt hk
    obtain ⟨c, hcm, rfl⟩ := List.mem_map.mp hd1
    refine cat_ev (cat_ev (take_ev (k := k) (v0 rfl) (v0 rfl) (by omega)) (b := [c]) (v0 rfl) ?_) (drop_ev (k := k + 1) (v0 rfl) (bind2_ev (v0 (d := .int ((k : Nat) : Int)) rfl) c0 ?_) (by omega)) ?_
    · rw [List.length_take]; show _ + 1 ≤ _; omega
    · show some (Dt.int ((k : Int) + 1)) = _
      rw [Int.natCast_add]
      rfl
    · rw [List.length_append, List.length_take, List.length_drop]; show _ + 1 + _ ≤ _; omega
end
end DL

namespace DL
open PySem PySem.Spec PyProof.Rows L2
structure OkE (E : Ents) : Prop where
  nd : (E.map (·.1)).Nodup
  few : ∀ e ∈ E, e.2.length ≤ 10
theorem results_ok {E : Ents} {w : List Nat} (R : Dt) (hE : OkE E) (r : Ru) (hr : okR r = true) (hc : ∀ c ∈ w, c ∈ E.map (·.1)) (hw : w.length ≤ 50) (s : Sto) : Vresults_of [.tup [.tup (entL E), R], r.d, wd w] s = some (wsD (resN E w r), s) := by
  cases r with
  | drop n l => exact res_drop n l (of_decide_eq_true hr) hw
  | half l => exact res_half l hw
  | empty => exact res_empty
  | lower l => exact res_lower R l hE.nd hE.few hc hw
  | put c v l => exact res_put c v l (of_decide_eq_true hr) hw
section
variable {E : Ents} {w : List Nat} {s : Sto}
end
end DL

namespace DL
open PySem PySem.Spec PyProof.Rows L2
theorem ext_ev {i : Nat} {f : Fe} {env : Env} {s s' : Sto} {es ds : List Dt} (h : f env s = some (.lst es, s')) (hi : env[i]? = some (some (.lst ds))) (hl : ds.length + es.length ≤ sizeLine) : extS i f env s = some (.nx (env.set i (some (.lst (ds ++ es)))), s') := by
  unfold extS lstAt
  rw [h, hi]
  dsimp only
  rw [if_pos hl]
theorem app_ev {i : Nat} {f : Fe} {env : Env} {s s' : Sto} {d : Dt} {ds : List Dt} (h : f env s = some (d, s')) (hi : env[i]? = some (some (.lst ds))) (hl : ds.length < sizeLine) : appS i f env s = some (.nx (env.set i (some (.lst (ds ++ [d])))), s') := by
  unfold appS lstAt
  rw [h, hi]
  dsimp only
  rw [if_pos hl]
section
variable {E : Ents} {w : List Nat} {s : Sto}
end
theorem extT_ev {i : Nat} {f : Fe} {env : Env} {s s' : Sto} {es ds : List Dt} (h : f env s = some (.tup es, s')) (hi : env[i]? = some (some (.lst ds))) (hl : ds.length + es.length ≤ sizeLine) : extA i f env s = some (.nx (env.set i (some (.lst (ds ++ es)))), s') := by
  unfold extA lstAt
  rw [h, hi]
  dsimp only
  rw [if_pos hl]
end DL

namespace DL
open PySem PySem.Spec PyProof.Rows L2
theorem wd_flat (l : List (List Nat)) : (l.map wd).all flatD = true := by
  rw [List.all_eq_true]
  intro d hd
  obtain ⟨x, _, rfl⟩ := List.mem_map.mp hd
  rfl
theorem in_words (s : Sto) (x : List Nat) (acc : List (List Nat)) : inB s (wd x) (.lst (acc.map wd)) = some (decide (x ∈ acc)) := by
  have h1 := wd_flat acc
  have e : (acc.map wd).any (fun y => eqF y (wd x)) = decide (x ∈ acc) := by
    induction acc with
    | nil => rfl
    | cons y acc ih =>
      rw [List.map_cons, List.any_cons, ih (wd_flat acc)]
      have e1 : eqF (wd y) (wd x) = decide (y = x) := by
        show (strW y == strW x) = _
        by_cases h : y = x
        · rw [decide_eq_true h, h]
          exact beq_self_eq_true _
        · rw [decide_eq_false h]
          exact beq_eq_false_iff_ne.mpr fun z => h (strW_inj z)
      rw [e1]
      by_cases h : y = x
      · subst h
        rw [decide_eq_true rfl, Bool.true_or, decide_eq_true List.mem_cons_self]
      · rw [decide_eq_false h, Bool.false_or]
        by_cases h2 : x ∈ acc
        · rw [decide_eq_true h2, decide_eq_true (List.mem_cons_of_mem _ h2)]
        · rw [decide_eq_false h2, decide_eq_false fun z => (List.mem_cons.mp z).elim (fun z => h z.symm) h2]
  show (if flatD (wd x) = true ∧ (acc.map wd).all flatD = true then some ((acc.map wd).any fun y => eqF y (wd x)) else none) = _
  rw [if_pos ⟨rfl, h1⟩, e]
theorem res_len {E : Ents} (hE : OkE E) (w : List Nat) (hw : w.length ≤ 50) (r : Ru) (hr : okR r = true) : (resN E w r).length ≤ 500 := by
  cases r with
  | drop n l =>
    show ((pos ((w.length : Int) - n + 1).toNat l).map _).length ≤ 500
    rw [List.length_map, pos_len]; omega
  | half l => show 1 ≤ 500; decide
  | empty => show 1 ≤ 500; decide
  | lower l =>
    show ((pos w.length l).flatMap fun k => (lesN E (w.getD k 0)).map fun c => w.take k ++ [c] ++ w.drop (k + 1)).length ≤ 500
    rw [List.length_flatMap]
    have z : ∀ ks : List Nat, (ks.map fun k => ((lesN E (w.getD k 0)).map fun c => w.take k ++ [c] ++ w.drop (k + 1)).length).sum ≤ ks.length * 10 := fun ks => by
      induction ks with
      | nil => exact Nat.zero_le _
      | cons k ks ih =>
        rw [List.map_cons, List.sum_cons, List.length_cons, Nat.add_mul, List.length_map]
        have : (lesN E (w.getD k 0)).length ≤ 10 := by
          unfold lesN
          cases q : E.find? fun e => decide (e.1 = w.getD k 0) with
          | none => exact Nat.zero_le _
          | some e => exact hE.few e (List.mem_of_find?_eq_some q)
        omega
    have z2 := z (pos w.length l)
    rw [pos_len] at z2
    omega
  | put c v l =>
    show (((pos w.length l).filter fun k => decide (w[k]? = some c)).map _).length ≤ 500
    rw [List.length_map]
    have h := List.length_filter_le (fun k => decide (w[k]? = some c)) (pos w.length l)
    rw [pos_len] at h
    omega
end DL

namespace DL
open PySem PySem.Spec PyProof.Rows L2
abbrev Led := List (List Nat × Nat)
def dk (q : Led) : List (Key × Dt) := q.map fun p => (.inr (strW p.1), .int ((p.2 : Nat) : Int))
end DL

namespace DL
open PySem PySem.Spec PyProof.Rows L2
def lowc (w : List Nat) : Prop := ∀ c ∈ w, 97 ≤ c ∧ c ≤ 122
theorem letters_ok {E : Ents} (R : Dt) (hn : E.length ≤ 100) (s : Sto) : Vletters_of [.tup [.tup (entL E), R]] s = some (.tup (E.map fun e => wd [e.1]), s) := by
  refine fn_rt (ret_ev (bindA_ev (aCons_ev (x := .lst (E.map fun e => wd [e.1])) ((lc_map (s1 := s) (ds := entL E) (g := fun d => match d with | .tup (x :: _) => x | _ => .non) ?_ (small (by unfold entL; rw [List.length_map]; omega)) fun d hd => ?_).trans ?_) a0) (z := .tup (E.map fun e => wd [e.1])) rfl))
  · unfold seqF
    rw [bind2_ev (v0 rfl) c0 (z := .tup (entL E)) rfl]
    rfl
  · obtain ⟨e, he, rfl⟩ := List.mem_map.mp hd
    rfl
  · unfold entL
    rw [List.map_map]
    rfl
theorem bools_true {α : Type} (l : List α) : bools (l.map fun _ => Dt.bl true) = some (l.map fun _ => true) := by
  induction l with
  | nil => rfl
  | cons x l ih =>
    show (bools (l.map fun _ => Dt.bl true)).map (true :: ·) = _
    rw [ih]
    rfl
theorem all_true {α : Type} (s : Sto) (l : List α) : allG s [.lst (l.map fun _ => Dt.bl true)] = some (.bl true) := by
  show (bools (l.map fun _ => Dt.bl true)).map (fun bs => Dt.bl (bs.all id)) = _
  rw [bools_true]
  have : (l.map fun _ => true).all id = true := by
    rw [List.all_eq_true]
    intro b hb
    obtain ⟨_, _, rfl⟩ := List.mem_map.mp hb
    rfl
  show some (Dt.bl ((l.map fun _ => true).all id)) = _
  rw [this]
theorem chars_ev {f : Fe} {env : Env} {s : Sto} {w : List Nat} (h : f env s = some (wd w, s)) : seqF f env s = some (w.map fun c => wd [c], s) := by
  unfold seqF
  rw [h]
  rfl
theorem thing_ok {w : List Nat} (hc : lowc w) (hw : w.length ≤ 50) (s : Sto) : Vis_thing [wd w] s = some (.bl true, s) := by
  refine fn_rt (ret_ev ?_)
  unfold andV
  rw [bind1_ev (v0 (d := wd w) rfl) (z := .bl true) rfl]
  simp only [Option.bind_eq_bind, Option.bind_some, truB, if_true]
  refine bindA_ev (aCons_ev ((lc_map (s1 := s) (g := fun _ => .bl true) (chars_ev (v0 rfl)) (small (by rw [List.length_map]; omega)) fun d hd => ?_).trans (by rw [List.map_map]; rfl)) a0) (all_true s w)
  obtain ⟨c, hcm, rfl⟩ := List.mem_map.mp hd
  obtain ⟨h1, h2⟩ := hc c hcm
  have l1 : leG s (.str "a") (wd [c]) = some (.bl true) := by
    show some (Dt.bl (!decide ([c] < [97]))) = _
    rw [decide_eq_false fun z => by
      have := List.cons_lt_cons_iff.mp z
      rcases this with h | ⟨h, h'⟩
      · omega
      · exact absurd h' (by simp)]
    rfl
  have l2 : leG s (wd [c]) (.str "z") = some (.bl true) := by
    show some (Dt.bl (!decide ([122] < [c]))) = _
    rw [decide_eq_false fun z => by
      have := List.cons_lt_cons_iff.mp z
      rcases this with h | ⟨h, h'⟩
      · omega
      · exact absurd h' (by simp)]
    rfl
  unfold chain3
  simp only [c0, v0 (env := (wipeE (List.map some [wd w] ++ List.replicate (2 - [wd w].length) none) [1]).set 1 (some (wd [c]))) (i := 1) (d := wd [c]) rfl, Option.bind_eq_bind, Option.bind_some, l1, l2]
end DL

namespace DL
open PySem PySem.Spec PyProof.Rows L2
theorem in_tup (s : Sto) (x : List Nat) (acc : List (List Nat)) : inA s (wd x) (.tup (acc.map wd)) = some (.bl (decide (x ∈ acc))) := by
  have h := in_words s x acc
  have h2 : inB s (wd x) (.tup (acc.map wd)) = some (decide (x ∈ acc)) := h
  show (inB s (wd x) (.tup (acc.map wd))).map Dt.bl = _
  rw [h2]
  rfl
section
variable {E : Ents} {w : List Nat} {s : Sto}
theorem has_ok (R : Dt) (hn : E.length ≤ 100) (hc : ∀ c ∈ w, c ∈ E.map (·.1)) (hl : lowc w) (hw : w.length ≤ 50) : Vhas_letters [.tup [.tup (entL E), R], wd w] s = some (.bl true, s) := by
  refine fn_rt ((seq_nx (set_ev (call_ev (aCons_ev (v0 rfl) a0) (letters_ok R hn s)))).trans (ret_ev ?_))
  unfold andV
  rw [call_ev (aCons_ev (v0 rfl) a0) (thing_ok hl hw s)]
  simp only [Option.bind_eq_bind, Option.bind_some, truB, if_true]
  refine bindA_ev (aCons_ev ((lc_map (s1 := s) (g := fun _ => .bl true) (chars_ev (v0 rfl)) (small (by rw [List.length_map]; omega)) fun d hd => ?_).trans (by rw [List.map_map]; rfl)) a0) (all_true s w)
  obtain ⟨c, hcm, rfl⟩ := List.mem_map.mp hd
  have e1 : (E.map fun e => wd [e.1]) = (E.map fun e => [e.1]).map wd := by rw [List.map_map]; rfl
  refine bind2_ev (v0 rfl) (v0 rfl) ?_
  rw [e1, in_tup]
  obtain ⟨e, he, hec⟩ := List.mem_map.mp (hc c hcm)
  rw [decide_eq_true (List.mem_map.mpr ⟨e, he, by rw [hec]⟩)]
theorem thing_need (R : Dt) (nm : Str) (hn : E.length ≤ 100) (hc : ∀ c ∈ w, c ∈ E.map (·.1)) (hl : lowc w) (hw : w.length ≤ 50) : Vneed_thing [.tup [.tup (entL E), R], wd w, .str nm] s = some (.non, s) := by
  refine fn_nx (e' := [some (.tup [.tup (entL E), R]), some (wd w), some (.str nm)]) ?_
  refine (if_f (s' := s) ?_).trans rfl
  unfold notT truF
  rw [call_ev (aCons_ev (v0 rfl) (aCons_ev (v0 rfl) a0)) (has_ok R hn hc hl hw)]
  rfl
end
end DL

namespace DL
open PySem PySem.Spec PyProof.Rows L2
def lowRb : Ru → Bool
  | .put c v _ => (c :: v).all fun c => decide (97 ≤ c ∧ c ≤ 122)
  | _ => true
theorem wd_good {x : List Nat} (h : lowc x) : good (wd x) = true := by
  show (strW x).cps.all (· < 0x110000) = true
  rw [← Array.all_toList, List.all_eq_true]
  intro c hc
  have := h c hc
  exact decide_eq_true (by omega)
theorem wd_wt (x : List Nat) : wt (wd x) = 10 * x.length + 2 := rfl
end DL

namespace DL
open PySem PySem.Spec PyProof.Rows L2
section
variable {A B : Fs} {c c2 : Ft} {f g fa fb : Fe} {env e' : Env} {s s1 s2 s' : Sto} {d x y z : Dt} {i k : Nat} {o : Out} {a b : Bool}
theorem truF_ev (h : f env s = some (x, s1)) (hb : truA s1 x = some b) : truF f env s = some (b, s1) := by
  unfold truF; rw [h]; simp only [Option.bind_eq_bind, Option.bind_some]; rw [hb]; rfl
theorem notT_ev (h : c env s = some (b, s1)) : notT c env s = some (!b, s1) := by unfold notT; rw [h]; rfl
theorem andT_e (h : c env s = some (a, s1)) (h2 : a = true → c2 env s1 = some (b, s1)) : andT c c2 env s = some (a && b, s1) := by
  unfold andT; rw [h]; simp only [Option.bind_eq_bind, Option.bind_some]
  cases a with
  | true => rw [if_pos rfl, h2 rfl]; rfl
  | false => rfl
theorem orT_e (h : c env s = some (a, s1)) (h2 : a = false → c2 env s1 = some (b, s1)) : orT c c2 env s = some (a || b, s1) := by
  unfold orT; rw [h]; simp only [Option.bind_eq_bind, Option.bind_some]
  cases a with
  | true => rfl
  | false => rw [if_neg Bool.false_ne_true, h2 rfl]; rfl
theorem orV_e (h : f env s = some (.bl a, s1)) (h2 : a = false → g env s1 = some (.bl b, s1)) : orV f g env s = some (.bl (a || b), s1) := by
  unfold orV; rw [h]; simp only [Option.bind_eq_bind, Option.bind_some, truB]
  cases a with
  | true => rfl
  | false => rw [if_neg Bool.false_ne_true, h2 rfl]; rfl
theorem notV_e (h : f env s = some (.bl a, s1)) : notV f env s = some (.bl (!a), s1) := by
  unfold notV bind1; rw [h]; rfl
theorem dropS_ev (h : f env s = some (d, s')) : dropS f env s = some (.nx env, s') := by unfold dropS; rw [h]; rfl
theorem par_ev (hi : i < env.length ∧ k < env.length) (h1 : fa env s = some (x, s1)) (h2 : fb env s1 = some (y, s2)) : par2S i k fa fb env s = some (.nx ((env.set i (some x)).set k (some y)), s2) := by
  unfold par2S; rw [if_pos hi, h1]; dsimp only; rw [h2]
theorem unpT_ev (h : f env s = some (.tup [x, y], s1)) : unpS i k f env s = some (.nx ((env.set i (some x)).set k (some y)), s1) := by
  unfold unpS; rw [h]
theorem unpL_ev (h : f env s = some (.lst [x, y], s1)) : unpS i k f env s = some (.nx ((env.set i (some x)).set k (some y)), s1) := by
  unfold unpS; rw [h]
theorem pop_ev {ds : List Dt} (hi : env[i]? = some (some (.lst (ds ++ [d])))) : popS i k env s = some (.nx ((env.set i (some (.lst ds))).set k (some d)), s) := by
  unfold popS lstAt; rw [hi]; simp
theorem dput_e {fk fv : Fe} {kd v : Dt} {key : Key} {ks : List (Key × Dt)} (hv : fv env s = some (v, s1)) (hk : fk env s1 = some (kd, s2)) (hi : env[i]? = some (some (.dct ks))) (hkey : keyOf kd = some key) (hl : ks.length < sizeLine) : dputS i fk fv env s = some (.nx (env.set i (some (.dct (putD ks key v)))), s2) := by
  unfold dputS dctAt; rw [hv]; dsimp only; rw [hk, hi]; dsimp only; rw [hkey]; dsimp only; rw [if_pos hl]
end
section
variable {f : Fe} {env : Env} {s s1 : Sto} {l : List Dt} {w : List Nat}
theorem seq_tup (h : f env s = some (.tup l, s1)) : seqF f env s = some (l, s1) := by unfold seqF; rw [h]; rfl
theorem seq_lst (h : f env s = some (.lst l, s1)) : seqF f env s = some (l, s1) := by unfold seqF; rw [h]; rfl
theorem seq_str (h : f env s = some (wd w, s1)) : seqF f env s = some (w.map fun c => wd [c], s1) := by
  unfold seqF; rw [h]
  show some (w.toArray.toList.map fun c => Dt.str ⟨#[c]⟩, s1) = _
  rw [List.toList_toArray]; rfl
theorem seq_dct {ks : List (Key × Dt)} (h : f env s = some (.dct ks, s1)) : seqF f env s = some (ks.map fun kv => keyD kv.1, s1) := by unfold seqF; rw [h]; rfl
theorem rng_ev {m : Int} (h : f env s = some (.int m, s1)) (h1 : -(2 ^ 62) ≤ m) (h2 : m < 2 ^ 62) : rngF1 f env s = some ((List.range m.toNat).map fun i => Dt.int (0 + (i : Nat)), s1) := by
  unfold rngF1; rw [h]; dsimp only; rw [if_pos ⟨h1, h2⟩]
end
section
variable {α β : Type} {xs : List α} {enc : α → Dt} {fi fi1 : Fi} {tt : Ft} {te : Fe} {env : Env} {s s1 : Sto} {k k1 : Nat} {vs vs1 : List Nat} {q : α → Bool} {g : α → Dt}
theorem lcL_e {w : Env} : ∀ {xs : List α}, (∀ x, x ∈ xs → tt (w.set k (some (enc x))) s = some (q x, s)) → (∀ x, x ∈ xs → q x = true → te (w.set k (some (enc x))) s = some (g x, s)) → lcL (tgN k) tt te w (xs.map enc) s = some ((xs.filter q).map g, s)
  | [], _, _ => rfl
  | x :: xs, h1, h2 => by
    have ih := lcL_e (xs := xs) (fun x hx => h1 x (List.mem_cons_of_mem _ hx)) fun x hx => h2 x (List.mem_cons_of_mem _ hx)
    rw [List.map_cons]
    unfold lcL
    simp only [tgN]
    rw [h1 x List.mem_cons_self]
    cases hq : q x with
    | true =>
      dsimp only
      rw [h2 x List.mem_cons_self hq]
      dsimp only
      rw [ih, List.filter_cons_of_pos hq]
      rfl
    | false =>
      dsimp only
      rw [ih, List.filter_cons_of_neg (by rw [hq]; exact Bool.false_ne_true)]
theorem lc_e (hi : fi env s = some (xs.map enc, s1)) (hl : xs.length ≤ sizeLine) (h1 : ∀ x, x ∈ xs → tt ((wipeE env vs).set k (some (enc x))) s1 = some (q x, s1)) (h2 : ∀ x, x ∈ xs → q x = true → te ((wipeE env vs).set k (some (enc x))) s1 = some (g x, s1)) :
    lcF fi (tgN k) tt te vs env s = some (.lst ((xs.filter q).map g), s1) := by
  unfold lcF
  rw [hi]
  dsimp only
  rw [lcL_e h1 h2]
  dsimp only
  rw [if_pos (by rw [List.length_map]; exact Nat.le_trans (List.length_filter_le _ _) hl)]
theorem lc_y (hi : fi env s = some (xs.map enc, s1)) (hl : xs.length ≤ sizeLine) (h2 : ∀ x, x ∈ xs → te ((wipeE env vs).set k (some (enc x))) s1 = some (g x, s1)) :
    lcF fi (tgN k) yesT te vs env s = some (.lst (xs.map g), s1) := by
  have h := lc_e (tt := yesT) (q := fun _ => true) hi hl (fun _ _ => rfl) fun x hx _ => h2 x hx
  rw [h]
  have e : xs.filter (fun _ => true) = xs := List.filter_eq_self.mpr fun _ _ => rfl
  rw [e]
theorem lcL_p {w : Env} {enc2 : α → Dt} : ∀ {xs : List α}, (∀ x, x ∈ xs → tt ((w.set k (some (enc x))).set k1 (some (enc2 x))) s = some (q x, s)) → (∀ x, x ∈ xs → q x = true → te ((w.set k (some (enc x))).set k1 (some (enc2 x))) s = some (g x, s)) → lcL (tgP (tgN k) (tgN k1)) tt te w (xs.map fun x => .tup [enc x, enc2 x]) s = some ((xs.filter q).map g, s)
  | [], _, _ => rfl
  | x :: xs, h1, h2 => by
    have ih := lcL_p (xs := xs) (fun x hx => h1 x (List.mem_cons_of_mem _ hx)) fun x hx => h2 x (List.mem_cons_of_mem _ hx)
    rw [List.map_cons]
    unfold lcL
    simp only [tgP, tgN, Option.bind_eq_bind, Option.bind_some]
    rw [h1 x List.mem_cons_self]
    cases hq : q x with
    | true =>
      dsimp only
      rw [h2 x List.mem_cons_self hq]
      dsimp only
      rw [ih, List.filter_cons_of_pos hq]
      rfl
    | false =>
      dsimp only
      rw [ih, List.filter_cons_of_neg (by rw [hq]; exact Bool.false_ne_true)]
theorem lc_p {enc2 : α → Dt} (hi : fi env s = some (xs.map fun x => .tup [enc x, enc2 x], s1)) (hl : xs.length ≤ sizeLine) (h1 : ∀ x, x ∈ xs → tt (((wipeE env vs).set k (some (enc x))).set k1 (some (enc2 x))) s1 = some (q x, s1)) (h2 : ∀ x, x ∈ xs → q x = true → te (((wipeE env vs).set k (some (enc x))).set k1 (some (enc2 x))) s1 = some (g x, s1)) :
    lcF fi (tgP (tgN k) (tgN k1)) tt te vs env s = some (.lst ((xs.filter q).map g), s1) := by
  unfold lcF
  rw [hi]
  dsimp only
  rw [lcL_p h1 h2]
  dsimp only
  rw [if_pos (by rw [List.length_map]; exact Nat.le_trans (List.length_filter_le _ _) hl)]
theorem lc2I_e {w : Env} : ∀ {xs : List α}, (∀ x, x ∈ xs → tt (w.set k (some (enc x))) s = some (q x, s)) → (∀ x, x ∈ xs → q x = true → te (w.set k (some (enc x))) s = some (g x, s)) → lc2I (tgN k) tt te w (xs.map enc) s = some ((xs.filter q).map g, s)
  | [], _, _ => rfl
  | x :: xs, h1, h2 => by
    have ih := lc2I_e (xs := xs) (fun x hx => h1 x (List.mem_cons_of_mem _ hx)) fun x hx => h2 x (List.mem_cons_of_mem _ hx)
    rw [List.map_cons]
    unfold lc2I
    simp only [tgN]
    rw [h1 x List.mem_cons_self]
    cases hq : q x with
    | true =>
      dsimp only
      rw [h2 x List.mem_cons_self hq]
      dsimp only
      rw [ih, List.filter_cons_of_pos hq]
      rfl
    | false =>
      dsimp only
      rw [ih, List.filter_cons_of_neg (by rw [hq]; exact Bool.false_ne_true)]
end
section
variable {α : Type} {enc : α → Dt} {fi : Fi} {F : Fs} {st : Tg}
theorem loop_pre {xs : List α} (R : List α → Env → Sto → Prop) (Z : Dt → Sto → Prop) (hb : ∀ pre x post env s, xs = pre ++ x :: post → R pre env s → ∃ e1 o s', st env (enc x) = some e1 ∧ F e1 s = some (o, s') ∧ ((∃ e', o = .nx e' ∧ R (pre ++ [x]) e' s') ∨ ∃ d, o = .rt d ∧ Z d s')) :
    ∀ (post pre : List α) (env : Env) (s : Sto), xs = pre ++ post → R pre env s → ∃ o s', loopF st F (post.map enc) env s = some (o, s') ∧ ((∃ e', o = .nx e' ∧ R xs e' s') ∨ ∃ d, o = .rt d ∧ Z d s')
  | [], pre, env, s, e, h => ⟨.nx env, s, rfl, .inl ⟨env, rfl, by rw [e, List.append_nil]; exact h⟩⟩
  | x :: post, pre, env, s, e, h => by
    obtain ⟨e1, o, s1, h0, h1, h2⟩ := hb pre x post env s e h
    rw [List.map_cons]
    unfold loopF
    rw [h0]
    dsimp only
    rw [h1]
    rcases h2 with ⟨e', rfl, h2⟩ | ⟨d, rfl, h2⟩
    · exact loop_pre R Z hb post (pre ++ [x]) e' s1 (by rw [e, List.append_assoc]; rfl) h2
    · exact ⟨_, _, rfl, .inr ⟨d, rfl, h2⟩⟩
theorem for_pre {xs : List α} {i : Nat} {env : Env} {s s1 : Sto} (R : List α → Env → Sto → Prop) (hi : fi env s = some (xs.map enc, s1)) (h0 : R [] env s1) (hb : ∀ pre x post env s, xs = pre ++ x :: post → R pre env s → ∃ e' s', F (env.set i (some (enc x))) s = some (.nx e', s') ∧ R (pre ++ [x]) e' s') :
    ∃ e' s', forF fi (tgN i) F env s = some (.nx e', s') ∧ R xs e' s' := by
  obtain ⟨o, s', h1, h2⟩ := loop_pre (st := tgN i) (enc := enc) (xs := xs) R (fun _ _ => False) (fun pre x post env s e h => by
    obtain ⟨e', s', h1, h2⟩ := hb pre x post env s e h
    exact ⟨_, _, _, rfl, h1, .inl ⟨e', rfl, h2⟩⟩) xs [] env s1 rfl h0
  rcases h2 with ⟨e', rfl, h2⟩ | ⟨_, _, h2⟩
  · exact ⟨e', s', by unfold forF; rw [hi]; exact h1, h2⟩
  · exact h2.elim
theorem while_m {c : Ft} (R : Nat → Env → Sto → Prop) (P : Env → Sto → Prop) (hs : ∀ n env s, R n env s → (c env s = some (false, s) ∧ P env s) ∨ ∃ s1 e' s' m, c env s = some (true, s1) ∧ F env s1 = some (.nx e', s') ∧ m < n ∧ R m e' s') :
    ∀ (n : Nat) (env : Env) (s : Sto), R n env s → ∃ e' s', whileL c F (n + 1) env s = some (.nx e', s') ∧ P e' s' := by
  intro n
  induction n using Nat.strongRecOn with
  | ind n ih =>
    intro env s h
    rcases hs n env s h with ⟨h1, h2⟩ | ⟨s1, e', s', m, h1, h2, h3, h4⟩
    · exact ⟨env, s, by unfold whileL; rw [h1], h2⟩
    · obtain ⟨e2, s2, h5, h6⟩ := ih m h3 e' s' h4
      refine ⟨e2, s2, ?_, h6⟩
      unfold whileL
      rw [h1]
      dsimp only
      rw [h2]
      exact whileL_mono h5 (by omega)
theorem while_e {c : Ft} {n : Nat} {env : Env} {s : Sto} (R : Nat → Env → Sto → Prop) (P : Env → Sto → Prop) (h0 : R n env s) (hn : n < FUEL) (hs : ∀ n env s, R n env s → (c env s = some (false, s) ∧ P env s) ∨ ∃ s1 e' s' m, c env s = some (true, s1) ∧ F env s1 = some (.nx e', s') ∧ m < n ∧ R m e' s') :
    ∃ e' s', whileS c F FUEL env s = some (.nx e', s') ∧ P e' s' := by
  obtain ⟨e', s', h1, h2⟩ := while_m R P hs n env s h0
  exact ⟨e', s', whileL_mono h1 hn, h2⟩
end
end DL

namespace DL
open PySem PySem.Spec PyProof.Rows L2
theorem insN_mem {x y : Nat} : ∀ {l : List Nat}, y ∈ insN x l ↔ y = x ∨ y ∈ l
  | [] => by simp [insN]
  | z :: r => by
    unfold insN
    split
    · simp
    · simp only [List.mem_cons, insN_mem]
      constructor
      · rintro (h | h | h) <;> simp [h]
      · rintro (h | h | h) <;> simp [h]
theorem sortN_mem {y : Nat} : ∀ {l : List Nat}, y ∈ sortN l ↔ y ∈ l
  | [] => by simp [sortN]
  | x :: r => by
    show y ∈ insN x (sortN r) ↔ _
    rw [insN_mem, sortN_mem, List.mem_cons]
theorem insN_lt {x : Nat} : ∀ {l : List Nat}, x ∉ l → l.Pairwise (· < ·) → (insN x l).Pairwise (· < ·)
  | [], _, _ => List.pairwise_singleton _ _
  | y :: r, hx, h => by
    obtain ⟨h1, h2⟩ := List.pairwise_cons.mp h
    have hne : x ≠ y := fun e => hx (e ▸ List.mem_cons_self)
    unfold insN
    split
    · rename_i c
      refine List.pairwise_cons.mpr ⟨fun b hb => ?_, h⟩
      rcases List.mem_cons.mp hb with rfl | hb
      · omega
      · have := h1 b hb; omega
    · rename_i c
      refine List.pairwise_cons.mpr ⟨fun b hb => ?_, insN_lt (fun z => hx (List.mem_cons_of_mem _ z)) h2⟩
      rcases insN_mem.mp hb with rfl | hb
      · omega
      · exact h1 b hb
theorem sortN_lt : ∀ {l : List Nat}, l.Nodup → (sortN l).Pairwise (· < ·)
  | [], _ => .nil
  | x :: r, h => by
    obtain ⟨h1, h2⟩ := List.nodup_cons.mp h
    exact insN_lt (fun z => h1 (sortN_mem.mp z)) (sortN_lt h2)
theorem insN_len (x : Nat) : ∀ l : List Nat, (insN x l).length = l.length + 1
  | [] => rfl
  | y :: r => by unfold insN; split; · rfl
                 · rw [List.length_cons, insN_len]; rfl
theorem sortN_len : ∀ l : List Nat, (sortN l).length = l.length
  | [] => rfl
  | x :: r => by show (insN x (sortN r)).length = _; rw [insN_len, sortN_len]; rfl
theorem lt_unique : ∀ {a b : List Nat}, a.Pairwise (· < ·) → b.Pairwise (· < ·) → (∀ x, x ∈ a ↔ x ∈ b) → a = b
  | [], [], _, _, _ => rfl
  | [], y :: b, _, _, h => absurd ((h y).mpr List.mem_cons_self) List.not_mem_nil
  | x :: a, [], _, _, h => absurd ((h x).mp List.mem_cons_self) List.not_mem_nil
  | x :: a, y :: b, ha, hb, h => by
    obtain ⟨a1, a2⟩ := List.pairwise_cons.mp ha
    obtain ⟨b1, b2⟩ := List.pairwise_cons.mp hb
    have e : x = y := by
      rcases List.mem_cons.mp ((h x).mp List.mem_cons_self) with e | e
      · exact e
      · rcases List.mem_cons.mp ((h y).mpr List.mem_cons_self) with e' | e'
        · exact e'.symm
        · have := a1 y e'; have := b1 x e; omega
    subst e
    rw [lt_unique a2 b2 fun z => ?_]
    constructor
    · intro hz
      rcases List.mem_cons.mp ((h z).mp (List.mem_cons_of_mem _ hz)) with e | e
      · have := a1 z hz; omega
      · exact e
    · intro hz
      rcases List.mem_cons.mp ((h z).mpr (List.mem_cons_of_mem _ hz)) with e | e
      · have := b1 z hz; omega
      · exact e
theorem leS_one (a b : Nat) : leS (strW [a]) (strW [b]) ↔ a ≤ b := by
  show ¬ ([b] : List Nat) < [a] ↔ _
  rw [List.cons_lt_cons_iff]
  simp
theorem sortS_ones (l : List Nat) : sortS (l.map fun c => strW [c]) = (sortN l).map fun c => strW [c] := by
  have ins : ∀ (x : Nat) (l : List Nat), insK (fun x => x) (strW [x]) (l.map fun c => strW [c]) = (insN x l).map fun c => strW [c] := by
    intro x l
    induction l with
    | nil => rfl
    | cons y r ih =>
      unfold insN
      rw [List.map_cons]
      unfold insK
      by_cases c : x ≤ y
      · rw [if_pos ((leS_one x y).mpr c), if_pos c]; rfl
      · rw [if_neg (fun z => c ((leS_one x y).mp z)), if_neg c, ih]; rfl
  induction l with
  | nil => rfl
  | cons x r ih =>
    show insK _ (strW [x]) (sortS (r.map fun c => strW [c])) = (insN x (sortN r)).map _
    rw [ih, ins]
inductive Rch (E : Ents) : Nat → Nat → Prop
  | one {c d : Nat} : d ∈ lesN E c → Rch E c d
  | more {c d e : Nat} : Rch E c d → e ∈ lesN E d → Rch E c e
theorem Rch.trans {E : Ents} {a b c : Nat} (h : Rch E a b) (h' : Rch E b c) : Rch E a c := by
  induction h' with
  | one h' => exact .more h h'
  | more _ h' ih => exact .more ih h'
structure ClE (E : Ents) : Prop where
  ok : OkE E
  cl : ∀ e ∈ E, ∀ d ∈ e.2, d ∈ E.map (·.1)
  n : E.length ≤ 30
  lo : ∀ c ∈ E.map (·.1), 97 ≤ c ∧ c ≤ 122
theorem les_in {E : Ents} {c d : Nat} (h : d ∈ lesN E c) : ∃ e ∈ E, e.1 = c ∧ d ∈ e.2 := by
  unfold lesN at h
  cases q : E.find? fun e => decide (e.1 = c) with
  | none => rw [q] at h; exact absurd h List.not_mem_nil
  | some e =>
    rw [q] at h
    exact ⟨e, List.mem_of_find?_eq_some q, by simpa using List.find?_some q, h⟩
theorem ClE.let {E : Ents} (h : ClE E) {c d : Nat} (hd : d ∈ lesN E c) : d ∈ E.map (·.1) := by
  obtain ⟨e, he, _, hd⟩ := les_in hd
  exact h.cl e he d hd
theorem ClE.few {E : Ents} (h : ClE E) (c : Nat) : (lesN E c).length ≤ 10 := by
  unfold lesN
  cases q : E.find? fun e => decide (e.1 = c) with
  | none => exact Nat.zero_le _
  | some e => exact h.ok.few e (List.mem_of_find?_eq_some q)
theorem ClE.rch {E : Ents} (h : ClE E) {c d : Nat} (hd : Rch E c d) : d ∈ E.map (·.1) := by
  cases hd with
  | one hd => exact h.let hd
  | more _ hd => exact h.let hd
def dfs (E : Ents) : Nat → List Nat → List Nat → List Nat
  | 0, r, _ => r
  | _ + 1, r, [] => r
  | n + 1, r, d :: a => if d ∈ r then dfs E n r a else dfs E n (r ++ [d]) ((lesN E d).reverse ++ a)
def meas (E : Ents) (r a : List Nat) : Nat := (E.length - r.length) * 11 + a.length
structure Dfs (E : Ents) (c : Nat) (r a : List Nat) : Prop where
  nd : r.Nodup
  rr : ∀ x ∈ r, Rch E c x
  ra : ∀ x ∈ a, Rch E c x
  on : ∀ x ∈ r, ∀ d ∈ lesN E x, d ∈ r ∨ d ∈ a
  c0 : ∀ d ∈ lesN E c, d ∈ r ∨ d ∈ a
theorem nodup_le : ∀ {l m : List Nat}, l.Nodup → (∀ x ∈ l, x ∈ m) → l.length ≤ m.length
  | [], _, _, _ => Nat.zero_le _
  | x :: l, m, h, hs => by
    obtain ⟨h1, h2⟩ := List.nodup_cons.mp h
    have ih := nodup_le (m := m.erase x) h2 fun y hy => (List.mem_erase_of_ne (fun e => h1 (by rw [← e]; exact hy))).mpr (hs y (List.mem_cons_of_mem _ hy))
    have hx := hs x List.mem_cons_self
    have := List.length_erase_of_mem hx
    have := List.length_pos_of_mem hx
    rw [List.length_cons]
    omega
theorem Dfs.len {E : Ents} {c : Nat} {r a : List Nat} (h : ClE E) (i : Dfs E c r a) : r.length ≤ E.length := by
  have := nodup_le i.nd fun x hx => h.rch (i.rr x hx)
  rwa [List.length_map] at this
theorem Dfs.skip {E : Ents} {c d : Nat} {r a : List Nat} (i : Dfs E c r (d :: a)) (hd : d ∈ r) : Dfs E c r a := by
  refine ⟨i.nd, i.rr, fun x hx => i.ra x (List.mem_cons_of_mem _ hx), fun x hx e he => ?_, fun e he => ?_⟩
  · rcases i.on x hx e he with z | z
    · exact .inl z
    · rcases List.mem_cons.mp z with rfl | z
      · exact .inl hd
      · exact .inr z
  · rcases i.c0 e he with z | z
    · exact .inl z
    · rcases List.mem_cons.mp z with rfl | z
      · exact .inl hd
      · exact .inr z
theorem Dfs.take {E : Ents} {c d : Nat} {r a : List Nat} (i : Dfs E c r (d :: a)) (hd : d ∉ r) : Dfs E c (r ++ [d]) ((lesN E d).reverse ++ a) := by
  have hr := i.ra d List.mem_cons_self
  have sp : ∀ e, e ∈ r ∨ e ∈ d :: a → e ∈ r ++ [d] ∨ e ∈ (lesN E d).reverse ++ a := fun e z => by
    rcases z with z | z
    · exact .inl (List.mem_append_left _ z)
    · rcases List.mem_cons.mp z with rfl | z
      · exact .inl (List.mem_append_right _ List.mem_cons_self)
      · exact .inr (List.mem_append_right _ z)
  refine ⟨List.nodup_append.mpr ⟨i.nd, (List.pairwise_singleton _ _), fun x hx y hy e => ?_⟩, fun x hx => ?_, fun x hx => ?_, fun x hx e he => ?_, fun e he => sp e (i.c0 e he)⟩
  · rw [List.mem_singleton] at hy
    subst hy e
    exact hd hx
  · rcases List.mem_append.mp hx with z | z
    · exact i.rr x z
    · rw [List.mem_singleton.mp z]; exact hr
  · rcases List.mem_append.mp hx with z | z
    · exact .more hr (List.mem_reverse.mp z)
    · exact i.ra x (List.mem_cons_of_mem _ z)
  · rcases List.mem_append.mp hx with z | z
    · exact sp e (i.on x z e he)
    · rw [List.mem_singleton.mp z] at he
      exact .inr (List.mem_append_left _ (List.mem_reverse.mpr he))
theorem dfs_ok {E : Ents} (h : ClE E) {c : Nat} : ∀ (n : Nat) {r a : List Nat}, Dfs E c r a → meas E r a ≤ n → Dfs E c (dfs E n r a) []
  | 0, r, a, i, hm => by
    have ha : a = [] := by
      unfold meas at hm
      exact List.eq_nil_of_length_eq_zero (by omega)
    subst ha
    exact i
  | n + 1, r, [], i, _ => i
  | n + 1, r, d :: a, i, hm => by
    unfold meas at hm
    rw [List.length_cons] at hm
    unfold dfs
    by_cases hd : d ∈ r
    · rw [if_pos hd]
      exact dfs_ok h n (i.skip hd) (by unfold meas; omega)
    · rw [if_neg hd]
      have j := i.take hd
      have := j.len h
      have := h.few d
      refine dfs_ok h n j ?_
      unfold meas
      rw [List.length_append, List.length_append, List.length_reverse, List.length_singleton] at *
      omega
theorem dfs_start (E : Ents) (c : Nat) : Dfs E c [] (lesN E c).reverse :=
  ⟨.nil, fun x hx => absurd hx List.not_mem_nil, fun x hx => .one (List.mem_reverse.mp hx), fun x hx => absurd hx List.not_mem_nil, fun d hd => .inr (List.mem_reverse.mpr hd)⟩
theorem Dfs.all {E : Ents} {c : Nat} {r : List Nat} (i : Dfs E c r []) (x : Nat) : x ∈ r ↔ Rch E c x := by
  refine ⟨i.rr x, fun h => ?_⟩
  induction h with
  | one h => exact (i.c0 _ h).elim (fun z => z) fun z => absurd z List.not_mem_nil
  | more _ h ih => exact (i.on _ ih _ h).elim (fun z => z) fun z => absurd z List.not_mem_nil
def downN (E : Ents) (c : Nat) : List Nat := sortN (dfs E (E.length * 11 + 10) [] (lesN E c).reverse)
theorem down_dfs {E : Ents} (h : ClE E) (c : Nat) : Dfs E c (dfs E (E.length * 11 + 10) [] (lesN E c).reverse) [] :=
  dfs_ok h _ (dfs_start E c) (by have := h.few c; unfold meas; rw [List.length_reverse]; simp only [List.length_nil]; omega)
theorem down_mem {E : Ents} (h : ClE E) {c x : Nat} : x ∈ downN E c ↔ Rch E c x := by
  unfold downN
  rw [sortN_mem, (down_dfs h c).all]
theorem down_lt {E : Ents} (h : ClE E) (c : Nat) : (downN E c).Pairwise (· < ·) := sortN_lt (down_dfs h c).nd
theorem down_len {E : Ents} (h : ClE E) (c : Nat) : (downN E c).length ≤ E.length := by
  unfold downN
  rw [sortN_len]
  exact (down_dfs h c).len h
end DL

namespace DL
open PySem PySem.Spec PyProof.Rows L2
section
variable {s : Sto} {u v w x y : List Nat} {α : Type} {l : List α} {f : α → List Nat}
theorem cat_w (h : u.length + v.length ≤ 16777215) : addAll s (wd u) (wd v) = some (wd (u ++ v)) := by
  show (if (strW u).length + (strW v).length ≤ sizeLine then some (Dt.str (strW u ++ strW v)) else none) = _
  rw [if_pos (small (by rw [strW_len, strW_len]; exact h)), strW_cat]
  rfl
theorem cat_l {a b : List Dt} (h : a.length + b.length ≤ 16777215) : addAll s (.lst a) (.lst b) = some (.lst (a ++ b)) := if_pos (small h)
theorem cat_t {a b : List Dt} (h : a.length + b.length ≤ 16777215) : addAll s (.tup a) (.tup b) = some (.tup (a ++ b)) := if_pos (small h)
theorem add_nn {a b : Nat} : addAll s (.int ((a : Nat) : Int)) (.int ((b : Nat) : Int)) = some (.int ((a + b : Nat) : Int)) := by
  show some (Dt.int ((a : Int) + (b : Int))) = _
  rw [Int.natCast_add]
theorem add_n1 {a : Nat} : addAll s (.int ((a : Nat) : Int)) (.int 1) = some (.int ((a + 1 : Nat) : Int)) := rfl
theorem sub_nn {a b : Nat} (h : b ≤ a) : subG s (.int ((a : Nat) : Int)) (.int ((b : Nat) : Int)) = some (.int ((a - b : Nat) : Int)) := by
  show some (Dt.int ((a : Int) - (b : Int))) = _
  rw [Int.natCast_sub h]
theorem len_w (h : w.length ≤ 16777215) : lenG s [wd w] = some (.int ((w.length : Nat) : Int)) := if_pos (small h)
theorem len_lst {a : List Dt} : lenG s [.lst a] = some (.int ((a.length : Nat) : Int)) := rfl
theorem len_tup {a : List Dt} : lenG s [.tup a] = some (.int ((a.length : Nat) : Int)) := rfl
theorem at_w {k c : Nat} (hl : w.length ≤ 16777215) (hc : w[k]? = some c) : ixA s (wd w) (.int ((k : Nat) : Int)) = some (wd [c]) := by
  show (if (strW w).length ≤ sizeLine then (atI w.toArray.toList ((k : Nat) : Int)).map fun c => Dt.str ⟨#[c]⟩ else none) = _
  rw [if_pos (small (by rw [strW_len]; exact hl)), List.toList_toArray, atI_nat (j := k) hc]
  rfl
theorem at_l {k : Nat} {ds : List Dt} {d : Dt} (hc : ds[k]? = some d) : ixA s (.lst ds) (.int ((k : Nat) : Int)) = some d := ixA_lst hc
theorem at_t {k : Nat} {ds : List Dt} {d : Dt} (hc : ds[k]? = some d) : ixA s (.tup ds) (.int ((k : Nat) : Int)) = some d := ixA_tup hc
theorem eq_ww : eqG s (wd u) (wd v) = some (.bl (decide (u = v))) := by
  show some (Dt.bl (decide (strW u = strW v))) = _
  rw [show decide (strW u = strW v) = decide (u = v) from decide_eq_decide.mpr ⟨strW_inj, fun e => by rw [e]⟩]
theorem ne_ww : neG s (wd u) (wd v) = some (.bl (!decide (u = v))) := by unfold neG; rw [eq_ww]
theorem wd_flat2 (l : List α) (f : α → List Nat) : (l.map fun a => wd (f a)).all flatD = true := by
  induction l with
  | nil => rfl
  | cons x l ih => rw [List.map_cons, List.all_cons, ih]; rfl
theorem any_wd (l : List α) (f : α → List Nat) : ((l.map fun a => wd (f a)).any fun y => eqF y (wd x)) = decide (x ∈ l.map f) := by
  induction l with
  | nil => rfl
  | cons z l ih =>
    rw [List.map_cons, List.any_cons, ih]
    show ((strW (f z)) == strW x || decide (x ∈ l.map f)) = decide (x ∈ (z :: l).map f)
    rw [List.map_cons, Bool.eq_iff_iff, Bool.or_eq_true, decide_eq_true_iff, decide_eq_true_iff, List.mem_cons, beq_iff_eq]
    constructor
    · rintro (h | h)
      · exact .inl (strW_inj h).symm
      · exact .inr h
    · rintro (h | h)
      · exact .inl (by rw [h])
      · exact .inr h
theorem inB_lst : inB s (wd x) (.lst (l.map fun a => wd (f a))) = some (decide (x ∈ l.map f)) := by
  show (if flatD (wd x) = true ∧ (l.map fun a => wd (f a)).all flatD = true then some ((l.map fun a => wd (f a)).any fun y => eqF y (wd x)) else none) = _
  rw [if_pos ⟨rfl, wd_flat2 l f⟩, any_wd]
theorem inB_tup : inB s (wd x) (.tup (l.map fun a => wd (f a))) = some (decide (x ∈ l.map f)) := by
  show (if flatD (wd x) = true ∧ (l.map fun a => wd (f a)).all flatD = true then some ((l.map fun a => wd (f a)).any fun y => eqF y (wd x)) else none) = _
  rw [if_pos ⟨rfl, wd_flat2 l f⟩, any_wd]
theorem in_wl : inA s (wd x) (.lst (l.map fun a => wd (f a))) = some (.bl (decide (x ∈ l.map f))) := by
  show (inB s (wd x) (.lst (l.map fun a => wd (f a)))).map Dt.bl = _
  rw [inB_lst]; rfl
theorem notin_wl : notinA s (wd x) (.lst (l.map fun a => wd (f a))) = some (.bl (!decide (x ∈ l.map f))) := by
  show (inB s (wd x) (.lst (l.map fun a => wd (f a)))).map (fun b => Dt.bl (!b)) = _
  rw [inB_lst]; rfl
theorem in_wt : inA s (wd x) (.tup (l.map fun a => wd (f a))) = some (.bl (decide (x ∈ l.map f))) := by
  show (inB s (wd x) (.tup (l.map fun a => wd (f a)))).map Dt.bl = _
  rw [inB_tup]; rfl
theorem notin_wt : notinA s (wd x) (.tup (l.map fun a => wd (f a))) = some (.bl (!decide (x ∈ l.map f))) := by
  show (inB s (wd x) (.tup (l.map fun a => wd (f a)))).map (fun b => Dt.bl (!b)) = _
  rw [inB_tup]; rfl
theorem bools_mp (p : α → Bool) : ∀ l : List α, bools (l.map fun a => Dt.bl (p a)) = some (l.map p)
  | [] => rfl
  | x :: l => by
    rw [List.map_cons]
    unfold bools
    rw [bools_mp p l]
    rfl
theorem any_bl {p : α → Bool} : anyG s [.lst (l.map fun a => .bl (p a))] = some (.bl (l.any p)) := by
  show (bools _).map _ = _
  rw [bools_mp]
  show some (Dt.bl ((l.map p).any id)) = _
  rw [List.any_map]; rfl
theorem all_bl {p : α → Bool} : allG s [.lst (l.map fun a => .bl (p a))] = some (.bl (l.all p)) := by
  show (bools _).map _ = _
  rw [bools_mp]
  show some (Dt.bl ((l.map p).all id)) = _
  rw [List.all_map]; rfl
theorem val_some {κ : Type} {l : List κ} {f : κ → List Nat} {g : κ → Dt} {x : List Nat} : (valD (l.map fun a => (.inr (strW (f a)), g a)) (.inr (strW x))).isSome = decide (x ∈ l.map f) := by
  induction l with
  | nil => rfl
  | cons z l ih =>
    rw [List.map_cons, List.map_cons]
    unfold valD at ih ⊢
    rw [List.find?_cons]
    by_cases c : f z = x
    · rw [show decide ((.inr (strW (f z)) : Key) = .inr (strW x)) = true from decide_eq_true (by rw [c])]
      symm
      exact decide_eq_true (by rw [c]; exact List.mem_cons_self)
    · rw [show decide ((.inr (strW (f z)) : Key) = .inr (strW x)) = false from decide_eq_false fun e => c (strW_inj (Sum.inr.inj e))]
      dsimp only
      rw [ih]
      rw [decide_eq_decide]
      constructor
      · exact fun h => List.mem_cons_of_mem _ h
      · intro h
        rcases List.mem_cons.mp h with e | e
        · exact absurd e.symm c
        · exact e
theorem in_kd {κ : Type} {l : List κ} {f : κ → List Nat} {g : κ → Dt} : inA s (wd x) (.dct (l.map fun a => (.inr (strW (f a)), g a))) = some (.bl (decide (x ∈ l.map f))) := by
  show some (Dt.bl (valD _ (.inr (strW x))).isSome) = _
  rw [val_some]
theorem notin_kd {κ : Type} {l : List κ} {f : κ → List Nat} {g : κ → Dt} : notinA s (wd x) (.dct (l.map fun a => (.inr (strW (f a)), g a))) = some (.bl (!decide (x ∈ l.map f))) := by
  show some (Dt.bl (!(valD _ (.inr (strW x))).isSome)) = _
  rw [val_some]
end
theorem ones_mem {d : Nat} {l : List Nat} : [d] ∈ (l.map fun c => [c]) ↔ d ∈ l := by
  constructor
  · intro h
    obtain ⟨c, hc, e⟩ := List.mem_map.mp h
    cases e
    exact hc
  · exact fun h => List.mem_map.mpr ⟨d, h, rfl⟩
abbrev onesD (l : List Nat) : List Dt := l.map fun c => wd [c]
abbrev trD (r : List Nat) : List (Key × Dt) := r.map fun c => (.inr (strW [c]), .bl true)
section
variable {s : Sto} {d : Nat} {l : List Nat} {g : Nat → Dt}
theorem in_l1 : inA s (wd [d]) (.lst (onesD l)) = some (.bl (decide (d ∈ l))) := by rw [in_wl]; simp only [ones_mem]
theorem notin_l1 : notinA s (wd [d]) (.lst (onesD l)) = some (.bl (!decide (d ∈ l))) := by rw [notin_wl]; simp only [ones_mem]
theorem in_t1 : inA s (wd [d]) (.tup (onesD l)) = some (.bl (decide (d ∈ l))) := by rw [in_wt]; simp only [ones_mem]
theorem notin_t1 : notinA s (wd [d]) (.tup (onesD l)) = some (.bl (!decide (d ∈ l))) := by rw [notin_wt]; simp only [ones_mem]
theorem in_k1 : inA s (wd [d]) (.dct (l.map fun c => (.inr (strW [c]), g c))) = some (.bl (decide (d ∈ l))) := by rw [in_kd]; simp only [ones_mem]
theorem notin_k1 : notinA s (wd [d]) (.dct (l.map fun c => (.inr (strW [c]), g c))) = some (.bl (!decide (d ∈ l))) := by rw [notin_kd]; simp only [ones_mem]
end
theorem put_new {κ : Type} {l : List κ} {f : κ → List Nat} {g : κ → Dt} {x : List Nat} {d : Dt} (h : x ∉ l.map f) : putD (l.map fun a => (.inr (strW (f a)), g a)) (.inr (strW x)) d = (l.map fun a => (.inr (strW (f a)), g a)) ++ [(.inr (strW x), d)] := by
  unfold putD
  rw [if_neg]
  intro hc
  obtain ⟨kv, h1, h2⟩ := List.any_eq_true.mp hc
  obtain ⟨a, ha, rfl⟩ := List.mem_map.mp h1
  exact h (List.mem_map.mpr ⟨a, ha, strW_inj (Sum.inr.inj (of_decide_eq_true h2))⟩)
end DL

namespace DL
open PySem PySem.Spec PyProof.Rows L2
local macro_rules | `(tactic| walk_at "op") => `(tactic| first | assumption | with_reducible rfl | exact cat_w (by omega) | exact sub_nn (by omega) | exact add_nn | exact at_w (by omega) (by assumption) | exact len_w (by omega) | exact in_l1 | exact notin_l1 | exact in_t1 | exact notin_t1 | exact in_k1 | exact notin_k1 | exact in_wl | exact notin_wl | exact in_wt | exact notin_wt | exact in_kd | exact notin_kd | exact eq_ww | exact ne_ww | exact any_bl | exact all_bl | rfl)
local macro_rules | `(tactic| walk_at "ev") => `(tactic| first | with_reducible exact c0 | ((with_reducible apply v0); rfl) | with_reducible exact a0 | with_reducible assumption | ((with_reducible apply aCons_ev); (focus walk_at "ev"); (focus walk_at "ev")) | ((with_reducible apply bindA_ev); (focus walk_at "ev"); (focus walk_at "op")) | ((with_reducible apply bind2_ev); (focus walk_at "ev"); (focus walk_at "ev"); (focus walk_at "op")) | ((with_reducible apply bind1_ev); (focus walk_at "ev"); (focus walk_at "op")) | ((with_reducible apply asB_ev); (focus walk_at "ev")) | ((with_reducible apply call_ev); (focus walk_at "ev"); (focus first | assumption | rfl)) | ((with_reducible apply truF_ev); (focus walk_at "ev"); (focus first | assumption | rfl)) | ((with_reducible apply notT_ev); (focus walk_at "ev")) | ((with_reducible apply andT_e); (focus walk_at "ev"); (focus (intro hq; walk_at "ev"))) | ((with_reducible apply orT_e); (focus walk_at "ev"); (focus (intro hq; walk_at "ev"))) | ((with_reducible apply seq_tup); (focus walk_at "ev")) | ((with_reducible apply seq_lst); (focus walk_at "ev")) | ((with_reducible apply seq_str); (focus walk_at "ev")))
def edD (E : Ents) : Dt := .dct (E.map prD)
theorem get_ed {s : Sto} {E : Ents} {c : Nat} (h : c ∈ E.map (·.1)) : ixA s (edD E) (wd [c]) = some (lesD (lesN E c)) := val_ent h
theorem sorted_ones {s : Sto} {l : List Nat} (h : l.length < 64) : sortedG_ s [.lst (onesD l)] = some (.lst (onesD (sortN l))) := by
  have e : strsOf (onesD l) = some (l.map fun c => strW [c]) := by
    have := strsOf_map (l.map fun c => strW [c])
    rwa [List.map_map] at this
  unfold sortedG_ sortedStrG
  dsimp only
  rw [e]
  dsimp only
  rw [sortS_ones, List.map_map]
  rfl

theorem dfs_down {E : Ents} (h : ClE E) {c : Nat} {r : List Nat} (i : Dfs E c r []) : sortN r = downN E c :=
  lt_unique (sortN_lt i.nd) (down_lt h c) fun x => by rw [sortN_mem, i.all, down_mem h]
theorem reached_ok {E : Ents} (hE : ClE E) {c : Nat} (hc : c ∈ E.map (·.1)) (s : Sto) : Vletters_reached [edD E, wd [c]] s = some (.tup (onesD (downN E c)), s) := by
  refine fn_rt ?_
  have g2 : ixA s (edD E) (wd [c]) = some (lesD (lesN E c)) := get_ed hc
  refine (seq_nx (setN_ev (show 2 < 5 by decide) (d := .dct []) rfl)).trans ((seq_nx (setN_ev (show 3 < 5 by decide) (d := .lst (onesD (lesN E c))) (by walk_at "ev"))).trans ?_)
  have key := while_e (c := truF (fVar 3)) (F := (seqS (popS 3 4) (ifS (asB (bind2 (fVar 4) (fVar 2) notinA)) (seqS (dputS 2 (fVar 4) (fC (.bl true))) (extA 3 (bind2 (fVar 0) (fVar 4) ixA))) skipS))) (s := s)
    (env := [some (edD E), some (wd [c]), some (.dct (trD [])), some (.lst (onesD (lesN E c).reverse.reverse)), none]) (n := meas E [] (lesN E c).reverse)
    (R := fun n env s' => s' = s ∧ ∃ r a x, env = [some (edD E), some (wd [c]), some (.dct (trD r)), some (.lst (onesD a.reverse)), x] ∧ Dfs E c r a ∧ meas E r a = n ∧ n ≤ 1000)
    (P := fun env s' => s' = s ∧ ∃ r x, env = [some (edD E), some (wd [c]), some (.dct (trD r)), some (.lst []), x] ∧ Dfs E c r []) ⟨rfl, [], (lesN E c).reverse, none, rfl, dfs_start E c, rfl, by
    have := hE.n
    have := hE.few c
    unfold meas
    rw [List.length_reverse]
    simp only [List.length_nil]
    omega⟩ (by
    have := hE.n
    have := hE.few c
    unfold meas
    rw [List.length_reverse]
    show _ < 1000000000
    simp only [List.length_nil]
    omega) (by
    rintro n env s' ⟨rfl, r, a, x, rfl, i, hm, hn⟩
    cases a with
    | nil => exact .inl ⟨by walk_at "ev", rfl, r, x, rfl, i⟩
    | cons d a =>
      have hrev : onesD (d :: a).reverse = onesD a.reverse ++ [wd [d]] := by unfold onesD; rw [List.reverse_cons, List.map_append]; rfl
      have ht : truF (fVar 3) [some (edD E), some (wd [c]), some (.dct (trD r)), some (.lst (onesD (d :: a).reverse)), x] s' = some (true, s') := truF_ev (v0 rfl) (by rw [hrev]; simp [truA, truB])
      have hp := (pop_ev (i := 3) (k := 4) (env := [some (edD E), some (wd [c]), some (.dct (trD r)), some (.lst (onesD a.reverse ++ [wd [d]])), x]) (s := s') rfl)
      have hr := i.ra d List.mem_cons_self
      have g3 : ixA s' (edD E) (wd [d]) = some (lesD (lesN E d)) := get_ed (hE.rch hr)
      have gn := notin_k1 (s := s') (d := d) (l := r) (g := fun _ => .bl true)
      have hm' : meas E r a + 1 = meas E r (d :: a) := by unfold meas; rw [List.length_cons]; rfl
      rw [hrev] at ht ⊢
      by_cases hd : d ∈ r
      · rw [decide_eq_true hd] at gn
        exact .inr ⟨s', _, s', _, ht, (seq_nx hp).trans ((if_f (by walk_at "ev")).trans rfl), by omega, rfl, r, a, _, rfl, i.skip hd, rfl, by omega⟩
      · rw [decide_eq_false hd] at gn
        have j := i.take hd
        have hl := j.len hE
        have := hE.n
        have := hE.few d
        rw [List.length_append, List.length_singleton] at hl
        have ex : extA 3 (bind2 (fVar 0) (fVar 4) ixA) [some (edD E), some (wd [c]), some (.dct (trD (r ++ [d]))), some (.lst (onesD a.reverse)), some (wd [d])] s' = some (.nx [some (edD E), some (wd [c]), some (.dct (trD (r ++ [d]))), some (.lst (onesD ((lesN E d).reverse ++ a).reverse)), some (wd [d])], s') := by
          refine (extT_ev (es := onesD (lesN E d)) (ds := onesD a.reverse) (by walk_at "ev") rfl (small ?_)).trans ?_
          · rw [List.length_map, List.length_map, List.length_reverse]
            unfold meas at hm' hm
            rw [List.length_cons] at hm
            omega
          · rw [List.reverse_append, List.reverse_reverse, show onesD (a.reverse ++ lesN E d) = onesD a.reverse ++ onesD (lesN E d) from List.map_append ..]; rfl
        have dp : dputS 2 (fVar 4) (fC (.bl true)) [some (edD E), some (wd [c]), some (.dct (trD r)), some (.lst (onesD a.reverse)), some (wd [d])] s' = some (.nx [some (edD E), some (wd [c]), some (.dct (trD (r ++ [d]))), some (.lst (onesD a.reverse)), some (wd [d])], s') := by
          refine (dput_e (v := .bl true) (kd := wd [d]) (ks := trD r) (key := .inr (strW [d])) (by walk_at "ev") (by walk_at "ev") rfl rfl (small' (by rw [List.length_map]; omega))).trans ?_
          rw [put_new (fun z => hd (ones_mem.mp z)), show trD (r ++ [d]) = trD r ++ trD [d] from List.map_append ..]
          rfl
        refine .inr ⟨s', _, s', _, ht, (seq_nx hp).trans ((if_t (by walk_at "ev")).trans ((seq_nx dp).trans ex)), ?_, rfl, _, _, _, rfl, j, rfl, ?_⟩
        all_goals unfold meas
        all_goals rw [List.length_append, List.length_append, List.length_reverse, List.length_singleton]
        all_goals unfold meas at hm' hm
        all_goals rw [List.length_cons] at hm
        all_goals omega)
  obtain ⟨e', s', h1, rfl, r, x, rfl, i⟩ := key
  rw [List.reverse_reverse] at h1
  refine (seq_nx h1).trans ?_
  have hs := sorted_ones (s := s') (l := r) (by have := i.len hE; have := hE.n; omega)
  rw [dfs_down hE i] at hs
  have hl : toLstG s' [.dct (trD r)] = some (.lst (onesD r)) := by
    show some (Dt.lst ((r.map _).map _)) = _
    rw [List.map_map]; rfl
  exact ret_ev (by walk_at "ev")

end DL

namespace DL
open PySem PySem.Spec PyProof.Rows L2
local macro_rules | `(tactic| walk_at "op") => `(tactic| first | assumption | with_reducible rfl | exact cat_w (by omega) | exact sub_nn (by omega) | exact add_nn | exact at_w (by omega) (by assumption) | exact len_w (by omega) | exact in_l1 | exact notin_l1 | exact in_t1 | exact notin_t1 | exact in_k1 | exact notin_k1 | exact in_wl | exact notin_wl | exact in_wt | exact notin_wt | exact in_kd | exact notin_kd | exact eq_ww | exact ne_ww | exact any_bl | exact all_bl | rfl)
local macro_rules | `(tactic| walk_at "ev") => `(tactic| first | with_reducible exact c0 | ((with_reducible apply v0); rfl) | with_reducible exact a0 | with_reducible assumption | ((with_reducible apply aCons_ev); (focus walk_at "ev"); (focus walk_at "ev")) | ((with_reducible apply bindA_ev); (focus walk_at "ev"); (focus walk_at "op")) | ((with_reducible apply bind2_ev); (focus walk_at "ev"); (focus walk_at "ev"); (focus walk_at "op")) | ((with_reducible apply bind1_ev); (focus walk_at "ev"); (focus walk_at "op")) | ((with_reducible apply asB_ev); (focus walk_at "ev")) | ((with_reducible apply call_ev); (focus walk_at "ev"); (focus first | assumption | rfl)) | ((with_reducible apply truF_ev); (focus walk_at "ev"); (focus first | assumption | rfl)) | ((with_reducible apply notT_ev); (focus walk_at "ev")) | ((with_reducible apply andT_e); (focus walk_at "ev"); (focus (intro hq; walk_at "ev"))) | ((with_reducible apply orT_e); (focus walk_at "ev"); (focus (intro hq; walk_at "ev"))) | ((with_reducible apply seq_tup); (focus walk_at "ev")) | ((with_reducible apply seq_lst); (focus walk_at "ev")) | ((with_reducible apply seq_str); (focus walk_at "ev")))
abbrev bookD (E : Ents) (rs : List Ru) : Dt := .tup [.tup (entL E), .tup (rs.map Ru.d)]
def fallB (E : Ents) : Ru → Bool
  | .put c v _ => decide (v = []) || decide (v ∈ (downN E c).map fun a => [a])
  | _ => true
def okL (E : Ents) : Ru → Prop
  | .put c v _ => c ∈ E.map (·.1) ∧ ∀ a ∈ v, a ∈ E.map (·.1)
  | _ => True
section
variable {E : Ents} {s : Sto}
theorem need_letter_ok (hE : ClE E) (R : Dt) {c : Nat} (hc : c ∈ E.map (·.1)) : Vneed_letter [.tup [.tup (entL E), R], wd [c]] s = some (.non, s) := by
  refine fn_nx (e' := [some (.tup [.tup (entL E), R]), some (wd [c])]) ?_
  have h1 := letters_ok (E := E) R (by have := hE.n; omega) s
  have h2 : notinA s (wd [c]) (.tup (E.map fun e => wd [e.1])) = some (.bl false) := by
    have e : (E.map fun e => wd [e.1]) = onesD (E.map (·.1)) := by rw [onesD, List.map_map]; rfl
    rw [e, notin_t1, decide_eq_true hc]; rfl
  exact (if_f (by walk_at "ev")).trans rfl
theorem below_ok (hE : ClE E) (R : Dt) {c : Nat} (hc : c ∈ E.map (·.1)) : Vletters_below [.tup [.tup (entL E), R], wd [c]] s = some (.tup (onesD (downN E c)), s) := by
  refine fn_rt ?_
  have h1 := need_letter_ok (s := s) hE R hc
  have h2 := (toDct_ent s hE.ok.nd).1
  have h3 := reached_ok hE hc s
  have h4 : ixA s (.tup [.tup (entL E), R]) (.int 0) = some (.tup (entL E)) := rfl
  exact (seq_nx (dropS_ev (by walk_at "ev"))).trans (ret_ev (call_ev (aCons_ev (bindA_ev (aCons_ev (by walk_at "ev") a0) h2) (aCons_ev (by walk_at "ev") a0)) h3))
theorem fall_ok (hE : ClE E) (R : Dt) (r : Ru) (hr : okL E r) : Vdoes_fall [.tup [.tup (entL E), R], r.d] s = some (.bl (fallB E r), s) := by
  refine fn_rt (ret_ev ?_)
  cases r with
  | put c v l =>
    have h1 := below_ok (s := s) hE R hr.1
    have h2 : inA s (wd v) (.tup (onesD (downN E c))) = some (.bl (decide (v ∈ (downN E c).map fun a => [a]))) := in_wt
    have h3 : ixA s (Ru.put c v l).d (.int 1) = some (wd [c]) := rfl
    have h4 : ixA s (Ru.put c v l).d (.int 2) = some (wd v) := rfl
    have h5 : ixA s (Ru.put c v l).d (.int 0) = some (.str "put") := rfl
    have h6 : neG s (.str "put") (.str "put") = some (.bl false) := rfl
    have h7 : eqG s (wd v) (.str "") = some (.bl (decide (v = []))) := eq_ww (v := [])
    exact orV_e (a := false) (by walk_at "ev") fun _ => orV_e (by walk_at "ev") fun _ => by walk_at "ev"
  | drop n l => exact orV_e (a := true) (b := true) (bind2_ev (bind2_ev (v0 rfl) c0 rfl) c0 rfl) fun h => by cases h
  | half l => exact orV_e (a := true) (b := true) (bind2_ev (bind2_ev (v0 rfl) c0 rfl) c0 rfl) fun h => by cases h
  | empty => exact orV_e (a := true) (b := true) (bind2_ev (bind2_ev (v0 rfl) c0 rfl) c0 rfl) fun h => by cases h
  | lower l => exact orV_e (a := true) (b := true) (bind2_ev (bind2_ev (v0 rfl) c0 rfl) c0 rfl) fun h => by cases h
end

end DL

namespace DL
open PySem PySem.Spec PyProof.Rows L2
end DL

namespace DL
open PySem PySem.Spec PyProof.Rows L2
local macro_rules | `(tactic| walk_at "op") => `(tactic| first | assumption | with_reducible rfl | exact cat_w (by omega) | exact sub_nn (by omega) | exact add_nn | exact at_w (by omega) (by assumption) | exact len_w (by omega) | exact in_l1 | exact notin_l1 | exact in_t1 | exact notin_t1 | exact in_k1 | exact notin_k1 | exact in_wl | exact notin_wl | exact in_wt | exact notin_wt | exact in_kd | exact notin_kd | exact eq_ww | exact ne_ww | exact any_bl | exact all_bl | rfl)
local macro_rules | `(tactic| walk_at "ev") => `(tactic| first | with_reducible exact c0 | ((with_reducible apply v0); rfl) | with_reducible exact a0 | with_reducible assumption | ((with_reducible apply aCons_ev); (focus walk_at "ev"); (focus walk_at "ev")) | ((with_reducible apply bindA_ev); (focus walk_at "ev"); (focus walk_at "op")) | ((with_reducible apply bind2_ev); (focus walk_at "ev"); (focus walk_at "ev"); (focus walk_at "op")) | ((with_reducible apply bind1_ev); (focus walk_at "ev"); (focus walk_at "op")) | ((with_reducible apply asB_ev); (focus walk_at "ev")) | ((with_reducible apply call_ev); (focus walk_at "ev"); (focus first | assumption | rfl)) | ((with_reducible apply truF_ev); (focus walk_at "ev"); (focus first | assumption | rfl)) | ((with_reducible apply notT_ev); (focus walk_at "ev")) | ((with_reducible apply andT_e); (focus walk_at "ev"); (focus (intro hq; walk_at "ev"))) | ((with_reducible apply orT_e); (focus walk_at "ev"); (focus (intro hq; walk_at "ev"))) | ((with_reducible apply seq_tup); (focus walk_at "ev")) | ((with_reducible apply seq_lst); (focus walk_at "ev")) | ((with_reducible apply seq_str); (focus walk_at "ev")))
theorem shaped_wds {α : Type} (f : α → List Nat) : ∀ (l : List α), (∀ x ∈ l, lowc (f x)) → plain (.lst (l.map fun a => wd (f a))) = true ∧ SeqAt.shaped (py (.lst (l.map fun a => wd (f a)))) = true := by
  intro l hl
  have h1 : plains (l.map fun a => wd (f a)) = true := by
    clear hl
    induction l with
    | nil => rfl
    | cons x l ih => simpa [plains, plain, wd] using ih
  have h2 : ∀ l : List α, (∀ x ∈ l, lowc (f x)) → PyData.canLayAll0 (pys (l.map fun a => wd (f a))) = true := by
    intro l
    induction l with
    | nil => exact fun _ => rfl
    | cons x l ih =>
      intro hl
      rw [List.map_cons]
      show (PyData.canLay0 (py (wd (f x))) && _) = true
      rw [Bool.and_eq_true]
      exact ⟨wd_good (hl x List.mem_cons_self), ih fun y hy => hl y (List.mem_cons_of_mem _ hy)⟩
  have h3 : ∀ l : List α, PyData.depthAll (pys (l.map fun a => wd (f a))) = 0 := by
    intro l
    induction l with
    | nil => rfl
    | cons x l ih => simpa [pys, py, PyData.depthAll, PyData.depth, wd] using ih
  refine ⟨by simpa [plain] using h1, ?_⟩
  simp [SeqAt.shaped, py, PyData.canLay0, PyData.depth, h2 l hl, h3 l]
theorem ne_wds {α : Type} {s : Sto} {l : List α} {f : α → List Nat} (h : ∀ x ∈ l, lowc (f x)) : neG s (.lst (l.map fun a => wd (f a))) (.lst []) = some (.bl (!l.isEmpty)) := by
  rw [ne_nil s (shaped_wds f l h).1 (shaped_wds f l h).2]
  cases l <;> rfl
theorem eq_nil (s : Sto) {ds : List Dt} (h1 : plain (.lst ds) = true) (h2 : SeqAt.shaped (py (.lst ds)) = true) : eqG s (.lst ds) (.lst []) = some (.bl ds.isEmpty) := by
  obtain ⟨h3, h4⟩ := shaped_ints []
  unfold eqG
  dsimp only
  rw [if_pos ⟨h1, h3, h2, h4⟩]
  cases ds <;> rfl
theorem eq_wds {α : Type} {s : Sto} {l : List α} {f : α → List Nat} (h : ∀ x ∈ l, lowc (f x)) : eqG s (.lst (l.map fun a => wd (f a))) (.lst []) = some (.bl l.isEmpty) := by
  rw [eq_nil s (shaped_wds f l h).1 (shaped_wds f l h).2]
  cases l <;> rfl
end DL

namespace DL
open PySem PySem.Spec PyProof.Rows L2
local macro_rules | `(tactic| walk_at "op") => `(tactic| first | assumption | with_reducible rfl | exact cat_w (by omega) | exact sub_nn (by omega) | exact add_nn | exact at_w (by omega) (by assumption) | exact len_w (by omega) | exact in_l1 | exact notin_l1 | exact in_t1 | exact notin_t1 | exact in_k1 | exact notin_k1 | exact in_wl | exact notin_wl | exact in_wt | exact notin_wt | exact in_kd | exact notin_kd | exact eq_ww | exact ne_ww | exact any_bl | exact all_bl | rfl)
local macro_rules | `(tactic| walk_at "ev") => `(tactic| first | with_reducible exact c0 | ((with_reducible apply v0); rfl) | with_reducible exact a0 | with_reducible assumption | ((with_reducible apply aCons_ev); (focus walk_at "ev"); (focus walk_at "ev")) | ((with_reducible apply bindA_ev); (focus walk_at "ev"); (focus walk_at "op")) | ((with_reducible apply bind2_ev); (focus walk_at "ev"); (focus walk_at "ev"); (focus walk_at "op")) | ((with_reducible apply bind1_ev); (focus walk_at "ev"); (focus walk_at "op")) | ((with_reducible apply asB_ev); (focus walk_at "ev")) | ((with_reducible apply call_ev); (focus walk_at "ev"); (focus first | assumption | rfl)) | ((with_reducible apply truF_ev); (focus walk_at "ev"); (focus first | assumption | rfl)) | ((with_reducible apply notT_ev); (focus walk_at "ev")) | ((with_reducible apply andT_e); (focus walk_at "ev"); (focus (intro hq; walk_at "ev"))) | ((with_reducible apply orT_e); (focus walk_at "ev"); (focus (intro hq; walk_at "ev"))) | ((with_reducible apply seq_tup); (focus walk_at "ev")) | ((with_reducible apply seq_lst); (focus walk_at "ev")) | ((with_reducible apply seq_str); (focus walk_at "ev")))
end DL

namespace DL
open PySem PySem.Spec PyProof.Rows L2
local macro_rules | `(tactic| walk_at "op") => `(tactic| first | assumption | with_reducible rfl | exact cat_w (by omega) | exact sub_nn (by omega) | exact add_nn | exact at_w (by omega) (by assumption) | exact len_w (by omega) | exact in_l1 | exact notin_l1 | exact in_t1 | exact notin_t1 | exact in_k1 | exact notin_k1 | exact in_wl | exact notin_wl | exact in_wt | exact notin_wt | exact in_kd | exact notin_kd | exact eq_ww | exact ne_ww | exact any_bl | exact all_bl | rfl)
local macro_rules | `(tactic| walk_at "ev") => `(tactic| first | with_reducible exact c0 | ((with_reducible apply v0); rfl) | with_reducible exact a0 | with_reducible assumption | ((with_reducible apply aCons_ev); (focus walk_at "ev"); (focus walk_at "ev")) | ((with_reducible apply bindA_ev); (focus walk_at "ev"); (focus walk_at "op")) | ((with_reducible apply bind2_ev); (focus walk_at "ev"); (focus walk_at "ev"); (focus walk_at "op")) | ((with_reducible apply bind1_ev); (focus walk_at "ev"); (focus walk_at "op")) | ((with_reducible apply asB_ev); (focus walk_at "ev")) | ((with_reducible apply call_ev); (focus walk_at "ev"); (focus first | assumption | rfl)) | ((with_reducible apply truF_ev); (focus walk_at "ev"); (focus first | assumption | rfl)) | ((with_reducible apply notT_ev); (focus walk_at "ev")) | ((with_reducible apply andT_e); (focus walk_at "ev"); (focus (intro hq; walk_at "ev"))) | ((with_reducible apply orT_e); (focus walk_at "ev"); (focus (intro hq; walk_at "ev"))) | ((with_reducible apply seq_tup); (focus walk_at "ev")) | ((with_reducible apply seq_lst); (focus walk_at "ev")) | ((with_reducible apply seq_str); (focus walk_at "ev")))
inductive Emb (P : Nat → Nat → Prop) : List Nat → List Nat → Prop
  | nil (v : List Nat) : Emb P [] v
  | skip {c : Nat} {u v : List Nat} : Emb P u v → Emb P u (c :: v)
  | take {a c : Nat} {u v : List Nat} : P a c → Emb P u v → Emb P (a :: u) (c :: v)
section
variable {P : Nat → Nat → Prop}
theorem Emb.pre {u v : List Nat} (h : Emb P u v) : ∀ x : List Nat, Emb P u (x ++ v)
  | [] => h
  | _ :: x => .skip (h.pre x)
theorem Emb.app {a b c d : List Nat} (h : Emb P a b) (h' : Emb P c d) : Emb P (a ++ c) (b ++ d) := by
  induction h with
  | nil v => exact h'.pre v
  | skip _ ih => exact .skip ih
  | take p _ ih => exact .take p ih
theorem Emb.refl (hp : ∀ c, P c c) : ∀ w : List Nat, Emb P w w
  | [] => .nil []
  | c :: w => .take (hp c) (Emb.refl hp w)
end
section
variable {E : Ents}
theorem split_at {w : List Nat} {k : Nat} (h : k < w.length) : w = w.take k ++ [w.getD k 0] ++ w.drop (k + 1) := by
  have e : w.getD k 0 = w[k] := by rw [List.getD_eq_getElem?_getD, List.getElem?_eq_getElem h]; rfl
  rw [e, List.append_assoc, List.singleton_append, ← List.drop_eq_getElem_cons h, List.take_append_drop]
end
end DL

namespace DL
open PySem PySem.Spec PyProof.Rows L2
local macro_rules | `(tactic| walk_at "op") => `(tactic| first | assumption | with_reducible rfl | exact cat_w (by omega) | exact sub_nn (by omega) | exact add_nn | exact at_w (by omega) (by assumption) | exact len_w (by omega) | exact in_l1 | exact notin_l1 | exact in_t1 | exact notin_t1 | exact in_k1 | exact notin_k1 | exact in_wl | exact notin_wl | exact in_wt | exact notin_wt | exact in_kd | exact notin_kd | exact eq_ww | exact ne_ww | exact any_bl | exact all_bl | rfl)
local macro_rules | `(tactic| walk_at "ev") => `(tactic| first | with_reducible exact c0 | ((with_reducible apply v0); rfl) | with_reducible exact a0 | with_reducible assumption | ((with_reducible apply aCons_ev); (focus walk_at "ev"); (focus walk_at "ev")) | ((with_reducible apply bindA_ev); (focus walk_at "ev"); (focus walk_at "op")) | ((with_reducible apply bind2_ev); (focus walk_at "ev"); (focus walk_at "ev"); (focus walk_at "op")) | ((with_reducible apply bind1_ev); (focus walk_at "ev"); (focus walk_at "op")) | ((with_reducible apply asB_ev); (focus walk_at "ev")) | ((with_reducible apply call_ev); (focus walk_at "ev"); (focus first | assumption | rfl)) | ((with_reducible apply truF_ev); (focus walk_at "ev"); (focus first | assumption | rfl)) | ((with_reducible apply notT_ev); (focus walk_at "ev")) | ((with_reducible apply andT_e); (focus walk_at "ev"); (focus (intro hq; walk_at "ev"))) | ((with_reducible apply orT_e); (focus walk_at "ev"); (focus (intro hq; walk_at "ev"))) | ((with_reducible apply seq_tup); (focus walk_at "ev")) | ((with_reducible apply seq_lst); (focus walk_at "ev")) | ((with_reducible apply seq_str); (focus walk_at "ev")))
theorem log_le {b : Int} {k : Nat} (h : b.natAbs < 2 ^ (k + 1)) : b.natAbs.log2 ≤ k := by
  by_cases hb : b.natAbs = 0
  · rw [hb]; exact Nat.zero_le _
  · exact Nat.le_of_lt_succ ((Nat.log2_lt hb).mpr h)
end DL

namespace DL
open PySem PySem.Spec PyProof.Rows L2
def F_law_feed_k32 : Fs := (retS (dispF [((fC (.str "cells")), (bindA (aCons (bindS (fVar 0) oNone (oSome (fC (.int 63))) sliceG) aNil) toLstG)), ((fC (.str "turn")), (fC (.int 0))), ((fC (.str "rest")), (fC (.int 0))), ((fC (.str "drawn")), (fC (.int 0)))]))
def V_law_feed_k32 : List Dt → Sto → Option (Dt × Sto) := fnV 1 F_law_feed_k32
def F_law_below_k32 : Fs := (seqS (setNS 1 emptyG) (seqS (forF (seqF (fVar 0)) (tgP (tgN 2) (tgN 3)) (dputS 1 (fVar 2) (bindA (aCons (fVar 3) aNil) toLstG))) (seqS (forF (rngF1 (bindA (aCons (fVar 0) aNil) lenG)) (tgN 4) (forF (seqF (fVar 0)) (tgP (tgN 2) (tgN 3)) (forF (seqF (bindA (aCons (bind2 (fVar 1) (fVar 2) ixA) aNil) toLstG)) (tgN 5) (dputS 1 (fVar 2) (bind1 (bind2 (bind2 (fVar 1) (fVar 2) ixA) (bind2 (fVar 1) (fVar 5) ixA) addAll) sortSetG))))) (retS (fVar 1)))))
def V_law_below_k32 : List Dt → Sto → Option (Dt × Sto) := fnV 6 F_law_below_k32
def F_law_all_k32 : Fs := (seqS (setS 2 (bindA (aCons (fC (.str "")) aNil) lstG)) (seqS (forF (seqF (fVar 1)) (tgN 3) (seqS (setNS 4 emptyG) (seqS (forF (seqF (fVar 2)) (tgN 5) (forF (seqF (bind2 (bindA (aCons (fC (.str "")) (aCons (fVar 3) aNil)) lstG) (bind2 (fVar 0) (fVar 3) ixA) addAll)) (tgN 6) (dputS 4 (bind2 (fVar 5) (fVar 6) addAll) (fC (.bl true))))) (setS 2 (bindA (aCons (fVar 4) aNil) toLstG))))) (retS (bindA (aCons (fVar 2) aNil) sortedG_))))
def V_law_all_k32 : List Dt → Sto → Option (Dt × Sto) := fnV 7 F_law_all_k32
def F_law_is_at_most_k32 : Fs := (seqS (setS 3 (fC (.int 0))) (seqS (forF (seqF (fVar 2)) (tgN 4) (ifS (andT (asB (bind2 (fVar 3) (bindA (aCons (fVar 1) aNil) lenG) ltG)) (orT (asB (bind2 (bind2 (fVar 1) (fVar 3) ixA) (fVar 4) eqG)) (asB (bind2 (bind2 (fVar 1) (fVar 3) ixA) (bind2 (fVar 0) (fVar 4) ixA) inA)))) (setS 3 (bind2 (fVar 3) (fC (.int 1)) addAll)) skipS)) (retS (bind2 (fVar 3) (bindA (aCons (fVar 1) aNil) lenG) eqG))))
def V_law_is_at_most_k32 : List Dt → Sto → Option (Dt × Sto) := fnV 5 F_law_is_at_most_k32
def F_law_results_k32 : Fs := (seqS (par2S 3 4 (bindA (aCons (fVar 2) aNil) lenG) (bindA aNil lstG)) (seqS (ifS (asB (bind2 (bind2 (fVar 0) (fC (.int 0)) ixA) (fC (.str "empty")) eqG)) (retS (bindA (aCons (fC (.str "")) aNil) lstG)) skipS) (seqS (ifS (asB (bind2 (bind2 (fVar 0) (fC (.int 0)) ixA) (fC (.str "half")) eqG)) (seqS (setS 5 (bind2 (fVar 3) (fC (.int 2)) divG)) (retS (bindA (aCons (ifV (asB (bind2 (bind2 (fVar 0) (fC (.int 1)) ixA) (fC (.str "left")) eqG)) (bindS (fVar 2) oNone (oSome (fVar 5)) sliceG) (bindS (fVar 2) (oSome (bind2 (fVar 3) (fVar 5) subG)) oNone sliceG)) aNil) lstG))) skipS) (seqS (setS 6 (bind1 (ifV (asB (bind2 (bind2 (fVar 0) (fC (.int 0)) ixA) (fC (.str "drop")) eqG)) (bind2 (bind2 (fVar 3) (bind2 (fVar 0) (fC (.int 1)) ixA) subG) (fC (.int 1)) addAll) (fVar 3)) rg1G)) (seqS (forF (seqF (ifV (asB (bind2 (bind2 (fVar 0) (bind1 (fC (.int 1)) negG) ixA) (fC (.str "right")) eqG)) (bind1 (fVar 6) revG) (fVar 6))) (tgN 7) (ifS (asB (bind2 (bind2 (fVar 0) (fC (.int 0)) ixA) (fC (.str "drop")) eqG)) (appS 4 (bind2 (bindS (fVar 2) oNone (oSome (fVar 7)) sliceG) (bindS (fVar 2) (oSome (bind2 (fVar 7) (bind2 (fVar 0) (fC (.int 1)) ixA) addAll)) oNone sliceG) addAll)) (ifS (asB (bind2 (bind2 (fVar 0) (fC (.int 0)) ixA) (fC (.str "lower")) eqG)) (extS 4 (lcF (seqF (bind2 (fVar 1) (bind2 (fVar 2) (fVar 7) ixA) ixA)) (tgN 8) yesT (bind2 (bind2 (bindS (fVar 2) oNone (oSome (fVar 7)) sliceG) (fVar 8) addAll) (bindS (fVar 2) (oSome (bind2 (fVar 7) (fC (.int 1)) addAll)) oNone sliceG) addAll) [8])) (ifS (asB (bind2 (bind2 (fVar 2) (fVar 7) ixA) (bind2 (fVar 0) (fC (.int 1)) ixA) eqG)) (appS 4 (bind2 (bind2 (bindS (fVar 2) oNone (oSome (fVar 7)) sliceG) (bind2 (fVar 0) (fC (.int 2)) ixA) addAll) (bindS (fVar 2) (oSome (bind2 (fVar 7) (fC (.int 1)) addAll)) oNone sliceG) addAll)) skipS)))) (retS (fVar 4)))))))
def V_law_results_k32 : List Dt → Sto → Option (Dt × Sto) := fnV 9 F_law_results_k32
def F_law_steps_k32 : Fs := (seqS (parNS [4, 5, 6, 7] [(bind2 (fVar 0) (fC (.int 1)) ixA), (bindA (aCons (bind2 (fVar 0) (fC (.int 0)) ixA) aNil) toDctG), (bindA aNil lstG), (bindA (aCons (fVar 2) aNil) lstG)]) (seqS (setS 8 (ifV (asB (bind2 (fVar 1) (fC (.str "on")) eqG)) (fVar 3) (fC (.int 0)))) (seqS (forF (seqF (bind2 (bind2 (fVar 8) (bindA (aCons (fVar 4) aNil) lenG) rg2G) (bind1 (fVar 8) rg1G) catG)) (tgN 9) (forF (seqF (callF V_law_results_k32 (aCons (bind2 (fVar 4) (fVar 9) ixA) (aCons (fVar 5) (aCons (fVar 2) aNil))))) (tgN 10) (ifS (asB (bind2 (fVar 10) (fVar 7) notinA)) (seqS (appS 7 (fVar 10)) (appS 6 (bindA (aCons (fVar 10) (aCons (fVar 9) aNil)) tupG))) skipS))) (retS (fVar 6)))))
def V_law_steps_k32 : List Dt → Sto → Option (Dt × Sto) := fnV 11 F_law_steps_k32
def F_law_letters_k32 (dp : List Dt → Sto → Option (Dt × Sto)) : Fs := (seqS (setNS 1 (bindA (aCons (fC (.str "a")) (aCons (fC (.str "a b")) (aCons (fC (.str "a ba")) (aCons (fC (.str "a ba c")) (aCons (fC (.str "a ba cab")) (aCons (fC (.str "a ba cb")) (aCons (fC (.str "a b cab")) (aCons (fC (.str "a ba ca")) (aCons (fC (.str "a b c d")) (aCons (fC (.str "a ba cab dc")) aNil)))))))))) lstG)) (seqS (extS 1 (bindA (aCons (fC (.str "a ba ca dbc")) (aCons (fC (.str "a ba c dc")) (aCons (fC (.str "a b ca db")) (aCons (fC (.str "a ba cb dcb")) (aCons (fC (.str "a b c")) (aCons (fC (.str "a ba cb")) aNil)))))) lstG)) (seqS (parNS [2, 3] [(callF (V_law_pick_k01 dp) (aCons (fVar 0) (aCons (bindA (aCons (fC (.str "abcd")) (aCons (fC (.str "zyxw")) (aCons (fC (.str "mbxa")) (aCons (fC (.str "qdke")) aNil)))) lstG) aNil))), (bindA aNil lstG)]) (seqS (forF (seqF (bind2 (toStrOnly (callF (V_law_pick_k01 dp) (aCons (fVar 0) (aCons (fVar 1) aNil)))) (fC (.str " ")) splitG)) (tgN 4) (seqS (setS 5 (lcF (seqF (fVar 4)) (tgN 6) yesT (bind2 (fVar 2) (bind2 (toStrOnly (fC (.str "abcd"))) (fVar 6) sidxG) ixA) [6])) (appS 3 (bindA (aCons (bind2 (fVar 5) (fC (.int 0)) ixA) (aCons (bindA (aCons (bindA (aCons (bindS (fVar 5) (oSome (fC (.int 1))) oNone sliceG) aNil) sortedG_) aNil) toTupG) aNil)) tupG)))) (retS (bindA (aCons (bindA (aCons (fVar 3) aNil) sortedG_) aNil) toTupG))))))
def V_law_letters_k32 (dp : List Dt → Sto → Option (Dt × Sto)) : List Dt → Sto → Option (Dt × Sto) := fnV 7 (F_law_letters_k32 dp)
def F_law_rule_k32 (dp : List Dt → Sto → Option (Dt × Sto)) : Fs := (seqS (par2S 3 4 (callF dp (aCons (fVar 0) (aCons (fC (.int 12)) aNil))) (callF (V_law_pick_k01 dp) (aCons (fVar 0) (aCons (bindA (aCons (fC (.str "left")) (aCons (fC (.str "right")) aNil)) lstG) aNil)))) (seqS (ifS (asB (bind2 (fVar 3) (fC (.int 3)) ltG)) (retS (bindA (aCons (fC (.str "drop")) (aCons (fC (.int 1)) (aCons (fVar 4) aNil))) tupG)) skipS) (seqS (ifS (asB (bind2 (fVar 3) (fC (.int 3)) eqG)) (retS (bindA (aCons (fC (.str "drop")) (aCons (bind2 (fC (.int 2)) (callF dp (aCons (fVar 0) (aCons (fC (.int 3)) aNil))) addAll) (aCons (fVar 4) aNil))) tupG)) skipS) (seqS (ifS (asB (bind2 (fVar 3) (fC (.int 4)) eqG)) (retS (ifV (asB (bind2 (callF dp (aCons (fVar 0) (aCons (fC (.int 2)) aNil))) (fC (.int 0)) eqG)) (bindA (aCons (fC (.str "empty")) aNil) tupG) (bindA (aCons (fC (.str "half")) (aCons (fVar 4) aNil)) tupG))) skipS) (seqS (ifS (asB (bind2 (fVar 3) (fC (.int 5)) eqG)) (retS (bindA (aCons (fC (.str "half")) (aCons (fVar 4) aNil)) tupG)) skipS) (seqS (ifS (asB (bind2 (fVar 3) (fC (.int 8)) ltG)) (retS (bindA (aCons (fC (.str "lower")) (aCons (fVar 4) aNil)) tupG)) skipS) (seqS (setS 5 (bind2 (callF (V_law_pick_k01 dp) (aCons (fVar 0) (aCons (fVar 1) aNil))) (fC (.int 0)) ixA)) (retS (bindA (aCons (fC (.str "put")) (aCons (fVar 5) (aCons (callF (V_law_pick_k01 dp) (aCons (fVar 0) (aCons (bind2 (bindA (aCons (fC (.str "")) aNil) lstG) (bind2 (fVar 2) (fVar 5) ixA) addAll) aNil))) (aCons (fVar 4) aNil)))) tupG)))))))))
def V_law_rule_k32 (dp : List Dt → Sto → Option (Dt × Sto)) : List Dt → Sto → Option (Dt × Sto) := fnV 6 (F_law_rule_k32 dp)
def F_law_start_k32 (dp : List Dt → Sto → Option (Dt × Sto)) : Fs := (seqS (setS 4 (fC (.str ""))) (seqS (forF (rngF1 (callF (V_law_pick_k01 dp) (aCons (fVar 0) (aCons (bindA (aCons (fC (.int 1)) (aCons (fC (.int 2)) (aCons (fC (.int 3)) (aCons (fC (.int 3)) (aCons (fC (.int 4)) (aCons (fC (.int 4)) (aCons (fC (.int 5)) (aCons (fC (.int 6)) (aCons (fC (.int 6)) aNil))))))))) lstG) aNil)))) (tgN 5) (seqS (setS 6 (bind2 (fVar 4) (bind2 (callF (V_law_pick_k01 dp) (aCons (fVar 0) (aCons (fVar 1) aNil))) (fC (.int 0)) ixA) addAll)) (setS 4 (ifV (asB (bind2 (bindA (aCons (callF V_law_all_k32 (aCons (fVar 2) (aCons (fVar 6) aNil))) aNil) lenG) (fVar 3) leG)) (fVar 6) (fVar 4))))) (retS (fVar 4))))
def V_law_start_k32 (dp : List Dt → Sto → Option (Dt × Sto)) : List Dt → Sto → Option (Dt × Sto) := fnV 7 (F_law_start_k32 dp)
def F_law_tome_k32 (dp : List Dt → Sto → Option (Dt × Sto)) : Fs := (seqS (setS 1 (callF (V_law_letters_k32 dp) (aCons (fVar 0) aNil))) (seqS (setS 2 (callF V_law_below_k32 (aCons (fVar 1) aNil))) (seqS (setS 3 (lcF (rngF1 (callF (V_law_pick_k01 dp) (aCons (fVar 0) (aCons (bindA (aCons (fC (.int 0)) (aCons (fC (.int 1)) (aCons (fC (.int 2)) (aCons (fC (.int 2)) (aCons (fC (.int 2)) (aCons (fC (.int 3)) (aCons (fC (.int 3)) (aCons (fC (.int 4)) (aCons (fC (.int 6)) aNil))))))))) lstG) aNil)))) (tgN 4) yesT (callF (V_law_rule_k32 dp) (aCons (fVar 0) (aCons (fVar 1) (aCons (fVar 2) aNil)))) [4])) (seqS (ifS (asB (bind2 (callF dp (aCons (fVar 0) (aCons (fC (.int 4)) aNil))) (fC (.int 0)) eqG)) (setS 3 (bind2 (bindA (aCons (bindA (aCons (fC (.str "drop")) (aCons (fC (.int 1)) (aCons (fC (.str "left")) aNil))) tupG) (aCons (bindA (aCons (fC (.str "lower")) (aCons (fC (.str "right")) aNil)) tupG) aNil)) lstG) (bindS (fVar 3) oNone (oSome (fC (.int 4))) sliceG) addAll)) skipS) (retS (bindA (aCons (fVar 1) (aCons (bindA (aCons (fVar 3) aNil) toTupG) aNil)) tupG))))))
def V_law_tome_k32 (dp : List Dt → Sto → Option (Dt × Sto)) : List Dt → Sto → Option (Dt × Sto) := fnV 5 (F_law_tome_k32 dp)
end DL

namespace DL
open PySem PySem.Spec PyProof.Rows L2
local macro_rules | `(tactic| walk_at "op") => `(tactic| first | assumption | with_reducible rfl | exact cat_w (by omega) | exact sub_nn (by omega) | exact add_nn | exact at_w (by omega) (by assumption) | exact len_w (by omega) | exact in_l1 | exact notin_l1 | exact in_t1 | exact notin_t1 | exact in_k1 | exact notin_k1 | exact in_wl | exact notin_wl | exact in_wt | exact notin_wt | exact in_kd | exact notin_kd | exact eq_ww | exact ne_ww | exact any_bl | exact all_bl | rfl)
local macro_rules | `(tactic| walk_at "ev") => `(tactic| first | with_reducible exact c0 | ((with_reducible apply v0); rfl) | with_reducible exact a0 | with_reducible assumption | ((with_reducible apply aCons_ev); (focus walk_at "ev"); (focus walk_at "ev")) | ((with_reducible apply bindA_ev); (focus walk_at "ev"); (focus walk_at "op")) | ((with_reducible apply bind2_ev); (focus walk_at "ev"); (focus walk_at "ev"); (focus walk_at "op")) | ((with_reducible apply bind1_ev); (focus walk_at "ev"); (focus walk_at "op")) | ((with_reducible apply asB_ev); (focus walk_at "ev")) | ((with_reducible apply call_ev); (focus walk_at "ev"); (focus first | assumption | rfl)) | ((with_reducible apply truF_ev); (focus walk_at "ev"); (focus first | assumption | rfl)) | ((with_reducible apply notT_ev); (focus walk_at "ev")) | ((with_reducible apply andT_e); (focus walk_at "ev"); (focus (intro hq; walk_at "ev"))) | ((with_reducible apply orT_e); (focus walk_at "ev"); (focus (intro hq; walk_at "ev"))) | ((with_reducible apply seq_tup); (focus walk_at "ev")) | ((with_reducible apply seq_lst); (focus walk_at "ev")) | ((with_reducible apply seq_str); (focus walk_at "ev")))
local macro_rules | `(tactic| walk_at "w1") => `(tactic| with_reducible first | refine wS_seq ?_ | refine wS_set ?_ | refine wS_ret ?_ | refine wS_if ?_ | refine wS_skip ?_ | refine wS_drop ?_ | refine wS_unp ?_ | refine wE_b2 ?_ | refine wE_b1 ?_ | refine wE_bA ?_ | refine wE_bS ?_ | refine wE_call ?_ | refine wA_c ?_ | refine wA_n ?_ | refine wE_c ?_ | refine wO_n ?_ | refine wO_s ?_ | refine wT_asB ?_ | refine wT_tru ?_ | refine wT_not ?_ | refine wT_and ?_ | refine wT_or ?_ | refine wT_yes ?_ | refine wE_and ?_ | refine wE_or ?_ | refine wE_if ?_ | refine wI_seq ?_ | refine wI_rng ?_ | refine ex_bl ?_ | refine ex_trA ?_ | refine ex_trB ?_ | refine ex_nat ?_ | refine ex_int ?_ | refine ex_unT ?_ | refine ex_unL ?_ | refine and_t ?_ | refine and_f ?_ | refine and_nt ?_ | refine and_nf ?_)
local macro_rules | `(tactic| walk_at "w") => `(tactic| repeat (first | walk_at "w1" | refine wE_v (by rfl) ?_ | ((with_reducible refine wS_par2 ?_ ?_); focus (simp; done)) | ((with_reducible refine wS_par3 ?_ ?_); focus (simp; done)) | ((with_reducible refine wS_setN ?_ ?_); focus (simp; done)) | ((with_reducible apply ex_op); focus (first | exact seqOf_wd | with_reducible exact eq_ss | with_reducible exact ne_ss | with_reducible exact eq_ww | with_reducible exact ne_ww | with_reducible exact eq_ii | with_reducible exact ne_ii | with_reducible exact lt_ii | with_reducible exact gt_ii | with_reducible exact le_ii | with_reducible exact ge_ii | exact all_true' _ _ | walk_at "op")) ))
def fds (l : List Int) (y z u : Int) : List (Key × Dt) := [(.inr "cells", .lst (l.map .int)), (.inr "turn", .int y), (.inr "rest", .int z), (.inr "drawn", .int u)]
def fdsF (q0 q1 q2 q3 q4 q5 : Int) : Fs := (seqS (hputS 0 (fC (.str "drawn")) (bind2 (bind2 (fVar 0) (fC (.str "drawn")) ixA) (fC (.int 1)) addAll)) (seqS (ifS (asB (bind2 (bind2 (fVar 0) (fC (.str "rest")) ixA) (fC (.int 0)) gtG)) (seqS (setS 2 (bind2 (bindA (aCons (bind2 (fVar 0) (fC (.str "rest")) ixA) aNil) intG) (fVar 1) modG)) (seqS (hputS 0 (fC (.str "rest")) (bind2 (bind2 (fVar 0) (fC (.str "rest")) ixA) (fVar 1) divG)) (retS (fVar 2)))) skipS) (seqS (par2S 3 4 (bind2 (fVar 0) (fC (.str "turn")) ixA) (bind2 (fVar 0) (fC (.str "cells")) ixA)) (seqS (hputS 0 (fC (.str "turn")) (bind2 (fVar 3) (fC (.int 1)) addAll)) (seqS (setS 5 (ifV (asB (bind2 (fVar 4) (bindA aNil lstG) neG)) (bind2 (fVar 4) (bind2 (bindA (aCons (fVar 3) aNil) intG) (bindA (aCons (fVar 4) aNil) lenG) modG) ixA) (fC (.int q0)))) (seqS (ifS (andT (asB (bind2 (fVar 3) (bindA (aCons (fVar 4) aNil) lenG) ltG)) (asB (bind2 (fVar 5) (bind2 (fC (.int 10)) (fC (.int 18)) powG) geG))) (seqS (hputS 0 (fC (.str "rest")) (bind2 (fVar 5) (fVar 1) divG)) (retS (bind2 (bindA (aCons (fVar 5) aNil) intG) (fVar 1) modG))) skipS) (seqS (setS 6 (bind2 (bindA (aCons (bind2 (bind2 (bind2 (bindA (aCons (fVar 5) aNil) intG) (fC (.int 2147483629)) modG) (bind2 (fC (.int q1)) (bind2 (fVar 0) (fC (.str "drawn")) ixA) mulG) addAll) (fC (.int q2)) addAll) aNil) intG) (fC (.int 2147483629)) modG)) (seqS (setS 6 (bind2 (bindA (aCons (bind2 (bind2 (bind2 (fVar 6) (fVar 6) mulG) (bind2 (fC (.int q3)) (bind2 (fVar 0) (fC (.str "drawn")) ixA) mulG) addAll) (fC (.int q4)) addAll) aNil) intG) (fC (.int 2147483587)) modG)) (retS (bind2 (bindA (aCons (bind2 (bind2 (bindA (aCons (bind2 (bind2 (fVar 6) (fVar 6) mulG) (bind2 (fC (.int q5)) (fVar 6) mulG) addAll) aNil) intG) (fC (.int 2147483579)) modG) (fC (.int 16)) divG) aNil) intG) (fVar 1) modG))))))))))
theorem fds_ok {q0 q1 q2 q3 q4 q5 : Int} (k1 : 0 ≤ q1 ∧ q1 < 67108864) (k2 : 0 ≤ q2 ∧ q2 < 65536) (k3 : 0 ≤ q3 ∧ q3 < 67108864) (k4 : 0 ≤ q4 ∧ q4 < 65536) (k5 : 0 ≤ q5 ∧ q5 < 65536) {l : List Int} {y z u m : Int} {p : Addr} (hm : 0 < m) (hm2 : m < 1073741824) (hu : 0 ≤ u) (hu2 : u < 1048576) :
    ∃ r y' z', (fnV 7 (fdsF q0 q1 q2 q3 q4 q5)) [.ref p, .int m] [(p, .dct (fds l y z u))] = some (.int r, [(p, .dct (fds l y' z' (u + 1)))]) ∧ 0 ≤ r ∧ r < m := by
  have hs : ∀ l y z u, (fds l y z u).length < sizeLine := fun l y z u => small' (by show 4 < 16777215; decide)
  have md : ∀ a : Int, 0 ≤ a % m ∧ a % m < m := fun a => ⟨Int.emod_nonneg _ (by omega), Int.emod_lt_of_pos _ hm⟩
  have modm : ∀ (s : Sto) (a : Int), modG s (.int a) (.int m) = some (.int (a % m)) := fun s a => if_pos hm
  have divm : ∀ (s : Sto) (a : Int), divG s (.int a) (.int m) = some (.int (a / m)) := fun s a => if_pos ⟨hm, hm2⟩
  suffices h : ∃ r y' z', (fdsF q0 q1 q2 q3 q4 q5) [some (.ref p), some (.int m), none, none, none, none, none] [(p, .dct (fds l y z u))] = some (.rt (.int r), [(p, .dct (fds l y' z' (u + 1)))]) ∧ 0 ≤ r ∧ r < m by
    obtain ⟨r, y', z', h1, h2⟩ := h
    exact ⟨r, y', z', fn_rt h1, h2⟩
  unfold fdsF
  have g0 : ∀ {env : Env} {l y z u}, env[0]? = some (some (.ref p)) → bind2 (fVar 0) (fC (.str "cells")) ixA env [(p, .dct (fds l y z u))] = some (.lst (l.map .int), [(p, .dct (fds l y z u))]) := fun h => get_ev h rfl
  have g1 : ∀ {env : Env} {l y z u}, env[0]? = some (some (.ref p)) → bind2 (fVar 0) (fC (.str "turn")) ixA env [(p, .dct (fds l y z u))] = some (.int y, [(p, .dct (fds l y z u))]) := fun h => get_ev h rfl
  have g2 : ∀ {env : Env} {l y z u}, env[0]? = some (some (.ref p)) → bind2 (fVar 0) (fC (.str "rest")) ixA env [(p, .dct (fds l y z u))] = some (.int z, [(p, .dct (fds l y z u))]) := fun h => get_ev h rfl
  have g3 : ∀ {env : Env} {l y z u}, env[0]? = some (some (.ref p)) → bind2 (fVar 0) (fC (.str "drawn")) ixA env [(p, .dct (fds l y z u))] = some (.int u, [(p, .dct (fds l y z u))]) := fun h => get_ev h rfl
  rw [seq_nx (hput_ev (ks' := fds l y z (u + 1)) rfl (bind2_ev (g3 rfl) c0 rfl) (hs ..) rfl)]
  have e1 : ∀ (env : Env), env[0]? = some (some (.ref p)) → asB (bind2 (bind2 (fVar 0) (fC (.str "rest")) ixA) (fC (.int 0)) gtG) env [(p, .dct (fds l y z (u + 1)))] = some (decide (0 < z), [(p, .dct (fds l y z (u + 1)))]) := fun env he => asB_ev (bind2_ev (g2 he) c0 rfl)
  by_cases hz : 0 < z
  · have e2 := e1 [some (.ref p), some (.int m), none, none, none, none, none] rfl
    rw [decide_eq_true hz] at e2
    refine ⟨z % m, y, z / m, ?_, md z⟩
    refine seq_rt ((if_t e2).trans ?_)
    refine (seq_nx (set_ev (bind2_ev (bindA_ev (aCons_ev (g2 rfl) a0) rfl) (v0 rfl) (modm _ _)))).trans ?_
    refine (seq_nx (hput_ev (ks' := fds l y (z / m) (u + 1)) rfl (bind2_ev (g2 rfl) (v0 rfl) (divm _ _)) (hs ..) rfl)).trans ?_
    exact ret_ev (v0 rfl)
  · have e2 := e1 [some (.ref p), some (.int m), none, none, none, none, none] rfl
    rw [decide_eq_false hz] at e2
    rw [seq_nx ((if_f e2).trans rfl)]
    rw [seq_nx (par_ev (i := 3) (k := 4) ⟨by simp, by simp⟩ (g1 rfl) (g0 rfl))]
    rw [show (([some (.ref p), some (.int m), none, none, none, none, none] : Env).set 3 (some (.int y))).set 4 (some (.lst (l.map .int))) = [some (.ref p), some (.int m), none, some (.int y), some (.lst (l.map .int)), none, none] from rfl]
    rw [seq_nx (hput_ev (ks' := fds l (y + 1) z (u + 1)) rfl (bind2_ev (v0 rfl) c0 rfl) (hs ..) rfl)]
    have hlen : ∀ s : Sto, lenG s [.lst (l.map Dt.int)] = some (.int ((l.length : Nat) : Int)) := fun s => by
      show some (Dt.int ((l.map Dt.int).length : Nat)) = _
      rw [List.length_map]
    have cell : ∃ c, ifV (asB (bind2 (fVar 4) (bindA aNil lstG) neG)) (bind2 (fVar 4) (bind2 (bindA (aCons (fVar 3) aNil) intG) (bindA (aCons (fVar 4) aNil) lenG) modG) ixA) (fC (.int q0)) [some (.ref p), some (.int m), none, some (.int y), some (.lst (l.map .int)), none, none] [(p, .dct (fds l (y + 1) z (u + 1)))] = some (.int c, [(p, .dct (fds l (y + 1) z (u + 1)))]) := by
      have t : asB (bind2 (fVar 4) (bindA aNil lstG) neG) [some (.ref p), some (.int m), none, some (.int y), some (.lst (l.map .int)), none, none] [(p, .dct (fds l (y + 1) z (u + 1)))] = some (!l.isEmpty, [(p, .dct (fds l (y + 1) z (u + 1)))]) :=
        asB_ev (bind2_ev (v0 rfl) (bindA_ev a0 (z := .lst []) (if_pos (show ([] : List Dt).length ≤ sizeLine from Nat.zero_le _))) (ne_cells _ l))
      cases hl : l.isEmpty with
      | true => rw [hl] at t; exact ⟨q0, (ifV_f t).trans c0⟩
      | false =>
        rw [hl] at t
        obtain ⟨c, hc⟩ := atI_mod (l := l) (fun z => by rw [z] at hl; cases hl) y
        have hpos : (0 : Int) < ((l.length : Nat) : Int) := by
          cases l with
          | nil => cases hl
          | cons => rw [List.length_cons]; omega
        refine ⟨c, (ifV_t t).trans (bind2_ev (v0 rfl) (bind2_ev (x := .int y) (y := .int ((l.length : Nat) : Int)) (bindA_ev (aCons_ev (v0 rfl) a0) rfl) (bindA_ev (aCons_ev (v0 rfl) a0) (hlen _)) (if_pos hpos)) ?_)⟩
        exact hc
    obtain ⟨c, hc⟩ := cell
    rw [seq_nx (set_ev hc), show ([some (.ref p), some (.int m), none, some (.int y), some (.lst (l.map .int)), none, none] : Env).set 5 (some (.int c)) = [some (.ref p), some (.int m), none, some (.int y), some (.lst (l.map .int)), some (.int c), none] from rfl]
    have c18 : bind2 (fC (.int 10)) (fC (.int 18)) powG = fun (_ : Env) (s : Sto) => some (.int 1000000000000000000, s) := by
      funext env s
      exact bind2_ev c0 c0 rfl
    have e8 : andT (asB (bind2 (fVar 3) (bindA (aCons (fVar 4) aNil) lenG) ltG)) (asB (bind2 (fVar 5) (bind2 (fC (.int 10)) (fC (.int 18)) powG) geG)) [some (.ref p), some (.int m), none, some (.int y), some (.lst (l.map .int)), some (.int c), none] [(p, .dct (fds l (y + 1) z (u + 1)))]
        = some (decide (y < l.length) && decide ((1000000000000000000 : Int) ≤ c), [(p, .dct (fds l (y + 1) z (u + 1)))]) :=
      andT_e (asB_ev (bind2_ev (v0 rfl) (bindA_ev (aCons_ev (v0 rfl) a0) (hlen _)) rfl)) fun _ => asB_ev (bind2_ev (v0 rfl) (show bind2 (fC (.int 10)) (fC (.int 18)) powG _ _ = _ by rw [c18]) rfl)
    cases q : decide (y < l.length) && decide ((1000000000000000000 : Int) ≤ c) with
    | true =>
      rw [q] at e8
      refine ⟨c % m, y + 1, c / m, ?_, md c⟩
      exact seq_rt ((if_t e8).trans ((seq_nx (hput_ev (ks' := fds l (y + 1) (c / m) (u + 1)) rfl (bind2_ev (v0 rfl) (v0 rfl) (divm _ _)) (hs ..) rfl)).trans (ret_ev (bind2_ev (bindA_ev (aCons_ev (v0 rfl) a0) rfl) (v0 rfl) (modm _ _)))))
    | false =>
      rw [q] at e8
      rw [seq_nx ((if_f e8).trans rfl)]
      have ml : ∀ (s : Sto) (a b : Int), a.natAbs < 2 ^ 100 → b.natAbs < 2 ^ 100 → mulG s (.int a) (.int b) = some (.int (a * b)) := fun s a b h1 h2 => if_pos (by
        have h5 : a.natAbs.log2 ≤ 99 := log_le h1
        have h6 : b.natAbs.log2 ≤ 99 := log_le h2
        omega)
      have mo : ∀ (s : Sto) (a b : Int), 0 < b → modG s (.int a) (.int b) = some (.int (a % b)) := fun s a b h => if_pos h
      have w1 : ∀ s : Sto, mulG s (.int q1) (.int (u + 1)) = some (.int (q1 * (u + 1))) := fun s => ml s _ _ (by omega) (by omega)
      have w3 : ∀ s : Sto, mulG s (.int q3) (.int (u + 1)) = some (.int (q3 * (u + 1))) := fun s => ml s _ _ (by omega) (by omega)
      generalize hv : (c % 2147483629 + q1 * (u + 1) + q2) % 2147483629 = v
      have d3 : 0 ≤ v := by rw [← hv]; exact Int.emod_nonneg _ (by decide)
      have d4 : v < 2147483629 := by rw [← hv]; exact Int.emod_lt_of_pos _ (by decide)
      have w5 : ∀ s : Sto, mulG s (.int v) (.int v) = some (.int (v * v)) := fun s => ml s _ _ (by omega) (by omega)
      generalize hx : (v * v + q3 * (u + 1) + q4) % 2147483587 = x
      have d5 : 0 ≤ x := by rw [← hx]; exact Int.emod_nonneg _ (by decide)
      have d6 : x < 2147483587 := by rw [← hx]; exact Int.emod_lt_of_pos _ (by decide)
      have w6 : ∀ s : Sto, mulG s (.int x) (.int x) = some (.int (x * x)) := fun s => ml s _ _ (by omega) (by omega)
      have w7 : ∀ s : Sto, mulG s (.int q5) (.int x) = some (.int (q5 * x)) := fun s => ml s _ _ (by omega) (by omega)
      have x1 : ∀ s : Sto, modG s (.int (c % 2147483629 + q1 * (u + 1) + q2)) (.int 2147483629) = some (.int v) := fun s => by rw [mo _ _ _ (by decide), hv]
      have x2 : ∀ s : Sto, modG s (.int (v * v + q3 * (u + 1) + q4)) (.int 2147483587) = some (.int x) := fun s => by rw [mo _ _ _ (by decide), hx]
      refine ⟨((x * x + q5 * x) % 2147483579 / 16) % m, y + 1, z, ?_, md _⟩
      refine (seq_nx (set_ev (bind2_ev (bindA_ev (aCons_ev (bind2_ev (bind2_ev (bind2_ev (bindA_ev (aCons_ev (v0 rfl) a0) rfl) c0 (mo _ _ _ (by decide))) (bind2_ev c0 (g3 rfl) (w1 _)) rfl) c0 rfl) a0) rfl) c0 (x1 _)))).trans ?_
      refine (seq_nx (set_ev (bind2_ev (bindA_ev (aCons_ev (bind2_ev (bind2_ev (bind2_ev (v0 rfl) (v0 rfl) (w5 _)) (bind2_ev c0 (g3 rfl) (w3 _)) rfl) c0 rfl) a0) rfl) c0 (x2 _)))).trans ?_
      exact ret_ev (bind2_ev (bindA_ev (aCons_ev (bind2_ev (bind2_ev (bindA_ev (aCons_ev (bind2_ev (bind2_ev (v0 rfl) (v0 rfl) (w6 _)) (bind2_ev c0 (v0 rfl) (w7 _)) rfl) a0) rfl) c0 (mo _ _ _ (by decide))) c0 rfl) a0) rfl) (v0 rfl) (modm _ _))
def SpD (p : Addr) (n : Nat) (s : Sto) : Prop := ∃ l y z u, s = [(p, .dct (fds l y z u))] ∧ 0 ≤ u ∧ u ≤ (n : Int)
theorem fds_of {dp : Fn} {q0 q1 q2 q3 q4 q5 : Int} (e : dp = fnV 7 (fdsF q0 q1 q2 q3 q4 q5)) (k1 : 0 ≤ q1 ∧ q1 < 67108864) (k2 : 0 ≤ q2 ∧ q2 < 65536) (k3 : 0 ≤ q3 ∧ q3 < 67108864) (k4 : 0 ≤ q4 ∧ q4 < 65536) (k5 : 0 ≤ q5 ∧ q5 < 65536) : Dip dp SpD where
  draw := fun {p n s m} ⟨l, y, z, u, e1, h1, h2⟩ hn hm hm2 => by
    subst e e1
    obtain ⟨r, y', z', e, r1, r2⟩ := fds_ok k1 k2 k3 k4 k5 (q0 := q0) (l := l) (y := y) (z := z) (p := p) hm hm2 h1 (by omega)
    exact ⟨r, _, e, r1, r2, l, y', z', u + 1, rfl, by omega, by omega⟩
  mono := fun {p n m s} ⟨l, y, z, u, e, h1, h2⟩ hm => ⟨l, y, z, u, e, h1, by omega⟩

end DL

namespace DL
open PySem PySem.Spec PyProof.Rows L2
local macro_rules | `(tactic| walk_at "op") => `(tactic| first | assumption | with_reducible rfl | exact cat_w (by omega) | exact sub_nn (by omega) | exact add_nn | exact at_w (by omega) (by assumption) | exact len_w (by omega) | exact in_l1 | exact notin_l1 | exact in_t1 | exact notin_t1 | exact in_k1 | exact notin_k1 | exact in_wl | exact notin_wl | exact in_wt | exact notin_wt | exact in_kd | exact notin_kd | exact eq_ww | exact ne_ww | exact any_bl | exact all_bl | rfl)
local macro_rules | `(tactic| walk_at "ev") => `(tactic| first | with_reducible exact c0 | ((with_reducible apply v0); rfl) | with_reducible exact a0 | with_reducible assumption | ((with_reducible apply aCons_ev); (focus walk_at "ev"); (focus walk_at "ev")) | ((with_reducible apply bindA_ev); (focus walk_at "ev"); (focus walk_at "op")) | ((with_reducible apply bind2_ev); (focus walk_at "ev"); (focus walk_at "ev"); (focus walk_at "op")) | ((with_reducible apply bind1_ev); (focus walk_at "ev"); (focus walk_at "op")) | ((with_reducible apply asB_ev); (focus walk_at "ev")) | ((with_reducible apply call_ev); (focus walk_at "ev"); (focus first | assumption | rfl)) | ((with_reducible apply truF_ev); (focus walk_at "ev"); (focus first | assumption | rfl)) | ((with_reducible apply notT_ev); (focus walk_at "ev")) | ((with_reducible apply andT_e); (focus walk_at "ev"); (focus (intro hq; walk_at "ev"))) | ((with_reducible apply orT_e); (focus walk_at "ev"); (focus (intro hq; walk_at "ev"))) | ((with_reducible apply seq_tup); (focus walk_at "ev")) | ((with_reducible apply seq_lst); (focus walk_at "ev")) | ((with_reducible apply seq_str); (focus walk_at "ev")))
variable {dp : Fn} {Sp : Addr → Nat → Sto → Prop}
section
variable {α : Type} {enc : α → Dt} {te : Fe} {tt : Ft} {fi : Fi} {w env : Env} {k : Nat} {vs : List Nat} {s s1 : Sto} {p : Addr}
theorem lcL_sp (Q : Dt → Prop) (c N : Nat) : ∀ {xs : List α} {n : Nat} {s : Sto}, Sp p n s → n + c * xs.length ≤ N → (∀ x, x ∈ xs → ∀ n s, Sp p n s → n + c ≤ N → ∃ d s', te (w.set k (some (enc x))) s = some (d, s') ∧ Q d ∧ Sp p (n + c) s') →
    ∃ ds s', lcL (tgN k) yesT te w (xs.map enc) s = some (ds, s') ∧ ds.length = xs.length ∧ (∀ d ∈ ds, Q d) ∧ Sp p (n + c * xs.length) s'
  | [], n, s, h, _, _ => ⟨[], s, rfl, rfl, fun d hd => absurd hd List.not_mem_nil, h⟩
  | x :: xs, n, s, h, hn, hs => by
    rw [List.length_cons, Nat.mul_succ] at hn
    obtain ⟨d, s1, e1, q1, h1⟩ := hs x List.mem_cons_self n s h (by omega)
    obtain ⟨ds, s2, e2, l2, q2, h2⟩ := lcL_sp Q c N (xs := xs) (n := n + c) h1 (by omega) fun y hy => hs y (List.mem_cons_of_mem _ hy)
    refine ⟨d :: ds, s2, ?_, by rw [List.length_cons, l2, List.length_cons], fun z hz => (List.mem_cons.mp hz).elim (fun e => e ▸ q1) (q2 z), by rw [List.length_cons, Nat.mul_succ]; rw [show n + (c * xs.length + c) = n + c + c * xs.length by omega]; exact h2⟩
    rw [List.map_cons]
    unfold lcL
    simp only [tgN, yesT]
    rw [e1]
    dsimp only
    rw [e2]
theorem lc_sp (Q : Dt → Prop) (c N : Nat) {xs : List α} {n : Nat} (hi : fi env s = some (xs.map enc, s1)) (hl : xs.length ≤ 16777215) (h : Sp p n s1) (hn : n + c * xs.length ≤ N) (hs : ∀ x, x ∈ xs → ∀ n s, Sp p n s → n + c ≤ N → ∃ d s', te ((wipeE env vs).set k (some (enc x))) s = some (d, s') ∧ Q d ∧ Sp p (n + c) s') :
    ∃ ds s', lcF fi (tgN k) yesT te vs env s = some (.lst ds, s') ∧ ds.length = xs.length ∧ (∀ d ∈ ds, Q d) ∧ Sp p (n + c * xs.length) s' := by
  obtain ⟨ds, s', e, l, q, h'⟩ := lcL_sp (te := te) (w := wipeE env vs) (k := k) Q c N h hn hs
  refine ⟨ds, s', ?_, l, q, h'⟩
  unfold lcF
  rw [hi]
  dsimp only
  rw [e]
  dsimp only
  rw [if_pos (small (by omega))]
end
theorem parN_ev {is : List Nat} {fs : List Fe} {env : Env} {s s' : Sto} {ds : List Dt} (h1 : is.all (fun i => decide (i < env.length)) = true) (h2 : evalL fs env s = some (ds, s')) (h3 : is.length = ds.length) : parNS is fs env s = some (.nx (setL is ds env), s') := by
  unfold parNS
  rw [if_pos h1, h2]
  dsimp only
  rw [if_pos h3]
theorem ev_cons {f : Fe} {fs : List Fe} {env : Env} {s s1 s2 : Sto} {d : Dt} {ds : List Dt} (h1 : f env s = some (d, s1)) (h2 : evalL fs env s1 = some (ds, s2)) : evalL (f :: fs) env s = some (d :: ds, s2) := by
  unfold evalL
  rw [h1]
  dsimp only
  rw [h2]
def poolN : List Nat := "qzaybxcwdvmeuftgshrinpk".toList.map Char.toNat
end DL

namespace DL
open PySem PySem.Spec PyProof.Rows L2
local macro_rules | `(tactic| walk_at "op") => `(tactic| first | assumption | with_reducible rfl | exact cat_w (by omega) | exact sub_nn (by omega) | exact add_nn | exact at_w (by omega) (by assumption) | exact len_w (by omega) | exact in_l1 | exact notin_l1 | exact in_t1 | exact notin_t1 | exact in_k1 | exact notin_k1 | exact in_wl | exact notin_wl | exact in_wt | exact notin_wt | exact in_kd | exact notin_kd | exact eq_ww | exact ne_ww | exact any_bl | exact all_bl | rfl)
local macro_rules | `(tactic| walk_at "ev") => `(tactic| first | with_reducible exact c0 | ((with_reducible apply v0); rfl) | with_reducible exact a0 | with_reducible assumption | ((with_reducible apply aCons_ev); (focus walk_at "ev"); (focus walk_at "ev")) | ((with_reducible apply bindA_ev); (focus walk_at "ev"); (focus walk_at "op")) | ((with_reducible apply bind2_ev); (focus walk_at "ev"); (focus walk_at "ev"); (focus walk_at "op")) | ((with_reducible apply bind1_ev); (focus walk_at "ev"); (focus walk_at "op")) | ((with_reducible apply asB_ev); (focus walk_at "ev")) | ((with_reducible apply call_ev); (focus walk_at "ev"); (focus first | assumption | rfl)) | ((with_reducible apply truF_ev); (focus walk_at "ev"); (focus first | assumption | rfl)) | ((with_reducible apply notT_ev); (focus walk_at "ev")) | ((with_reducible apply andT_e); (focus walk_at "ev"); (focus (intro hq; walk_at "ev"))) | ((with_reducible apply orT_e); (focus walk_at "ev"); (focus (intro hq; walk_at "ev"))) | ((with_reducible apply seq_tup); (focus walk_at "ev")) | ((with_reducible apply seq_lst); (focus walk_at "ev")) | ((with_reducible apply seq_str); (focus walk_at "ev")))
variable {dp : Fn} {Sp : Addr → Nat → Sto → Prop}
theorem cutD_take {α : Type} (xs : List α) (k : Nat) : cutD xs none (some ((k : Nat) : Int)) = xs.take k := by
  unfold cutD
  rw [HT.sIx_none, HT.sIx_nat]
  show (xs.drop 0).take (min k xs.length - 0) = _
  rw [List.drop_zero, Nat.sub_zero]
  by_cases h : k ≤ xs.length
  · rw [Nat.min_eq_left h]
  · rw [Nat.min_eq_right (by omega), List.take_of_length_le (Nat.le_refl _), List.take_of_length_le (by omega)]
theorem oS_ev {f : Fe} {env : Env} {s s1 : Sto} {i : Int} (h : f env s = some (.int i, s1)) : oSome f env s = some (some i, s1) := by unfold oSome; rw [h]
def sortE (E : Ents) : Ents := sortK (fun e : Nat × List Nat => strW [e.1]) E
theorem sortE_perm (E : Ents) : (sortE E).Perm E := sortK_perm E
theorem range_pre {n k : Nat} {pre post : List Nat} (h : List.range n = pre ++ k :: post) : k = pre.length ∧ k < n := by
  have hl := congrArg List.length h
  rw [List.length_range, List.length_append, List.length_cons] at hl
  have h1 : (List.range n)[pre.length]? = some k := by rw [h, List.getElem?_append_right (Nat.le_refl _), Nat.sub_self]; rfl
  rw [List.getElem?_range (by omega)] at h1
  cases h1
  exact ⟨rfl, by omega⟩
structure RowE (L : List Nat) (E : Ents) : Prop where
  fst : E.map (·.1) = L
  nd : ∀ e ∈ E, e.2.Nodup
  sub : ∀ e ∈ E, ∀ d ∈ e.2, d ∈ L
  lt : ∀ e ∈ E, e.2.Pairwise (· < ·)
theorem cl_of {L : List Nat} {E : Ents} (h : RowE L E) (hnd : L.Nodup) (hL : L.length ≤ 8) (hlo : ∀ c ∈ L, 97 ≤ c ∧ c ≤ 122) : ClE (sortE E) where
  ok := ⟨by rw [((sortE_perm E).map _).nodup_iff, h.fst]; exact hnd, fun e he => by
    have m := (sortE_perm E).mem_iff.mp he
    have := nodup_le (h.nd e m) (h.sub e m)
    omega⟩
  cl := fun e he d hd => by
    rw [((sortE_perm E).map _).mem_iff, h.fst]
    exact h.sub e ((sortE_perm E).mem_iff.mp he) d hd
  n := by
    rw [(sortE_perm E).length_eq]
    have := congrArg List.length h.fst
    rw [List.length_map] at this
    omega
  lo := fun c hc => by
    rw [((sortE_perm E).map _).mem_iff, h.fst] at hc
    exact hlo c hc

end DL

namespace DL
open PySem PySem.Spec PyProof.Rows L2
local macro_rules | `(tactic| walk_at "op") => `(tactic| first | assumption | with_reducible rfl | exact cat_w (by omega) | exact sub_nn (by omega) | exact add_nn | exact at_w (by omega) (by assumption) | exact len_w (by omega) | exact in_l1 | exact notin_l1 | exact in_t1 | exact notin_t1 | exact in_k1 | exact notin_k1 | exact in_wl | exact notin_wl | exact in_wt | exact notin_wt | exact in_kd | exact notin_kd | exact eq_ww | exact ne_ww | exact any_bl | exact all_bl | rfl)
local macro_rules | `(tactic| walk_at "ev") => `(tactic| first | with_reducible exact c0 | ((with_reducible apply v0); rfl) | with_reducible exact a0 | with_reducible assumption | ((with_reducible apply aCons_ev); (focus walk_at "ev"); (focus walk_at "ev")) | ((with_reducible apply bindA_ev); (focus walk_at "ev"); (focus walk_at "op")) | ((with_reducible apply bind2_ev); (focus walk_at "ev"); (focus walk_at "ev"); (focus walk_at "op")) | ((with_reducible apply bind1_ev); (focus walk_at "ev"); (focus walk_at "op")) | ((with_reducible apply asB_ev); (focus walk_at "ev")) | ((with_reducible apply call_ev); (focus walk_at "ev"); (focus first | assumption | rfl)) | ((with_reducible apply truF_ev); (focus walk_at "ev"); (focus first | assumption | rfl)) | ((with_reducible apply notT_ev); (focus walk_at "ev")) | ((with_reducible apply andT_e); (focus walk_at "ev"); (focus (intro hq; walk_at "ev"))) | ((with_reducible apply orT_e); (focus walk_at "ev"); (focus (intro hq; walk_at "ev"))) | ((with_reducible apply seq_tup); (focus walk_at "ev")) | ((with_reducible apply seq_lst); (focus walk_at "ev")) | ((with_reducible apply seq_str); (focus walk_at "ev")))
variable {dp : Fn} {Sp : Addr → Nat → Sto → Prop}
theorem join_ones {s : Sto} {w : List Nat} (h : w.length ≤ 100000) : joinG s (.str "") (.lst (onesD w)) = some (wd w) := by
  have e : onesD w = (w.map fun c => strW [c]).map Dt.str := by unfold onesD; rw [List.map_map]; rfl
  unfold joinG
  dsimp only
  rw [e, strsOf_map]
  dsimp only
  rw [join_w, if_pos]
  · rfl
  have h3 := sum_le (l := w.map fun c => strW [c]) (k := 1) fun x hx => by
    obtain ⟨c, _, rfl⟩ := List.mem_map.mp hx
    exact Nat.le_refl 1
  rw [List.length_map] at h3
  have h4 : ("" : Str).length = 0 := rfl
  rw [h4]
  omega
theorem ones_of {L : List Nat} : ∀ {ds : List Dt}, (∀ d ∈ ds, d ∈ onesD L) → ∃ w : List Nat, ds = onesD w ∧ w.length = ds.length ∧ ∀ c ∈ w, c ∈ L
  | [], _ => ⟨[], rfl, rfl, fun c hc => absurd hc List.not_mem_nil⟩
  | d :: ds, h => by
    obtain ⟨w, e, hl, hc⟩ := ones_of (ds := ds) fun z hz => h z (List.mem_cons_of_mem _ hz)
    obtain ⟨c, hcm, rfl⟩ := List.mem_map.mp (h d List.mem_cons_self)
    refine ⟨c :: w, by rw [e]; rfl, by rw [List.length_cons, List.length_cons, hl], fun x hx => ?_⟩
    rcases List.mem_cons.mp hx with rfl | hx
    · exact hcm
    · exact hc x hx
theorem picks_sp (D : Dip dp Sp) {p : Addr} {n m k ip il : Nat} {L : List Nat} {env : Env} {vs : List Nat} {f : Fe} {s s1 : Sto} (hf : rngF1 f env s = some ((List.range m).map fun i => .int (0 + ((i : Nat) : Int)), s1)) (hm : m ≤ 100000) (hL : L ≠ []) (hl : L.length ≤ 1000) (h : Sp p n s1) (hn : n + m < 900000)
    (hp : ∀ d : Dt, ((wipeE env vs).set k (some d))[ip]? = some (some (.ref p))) (hi : ∀ d : Dt, ((wipeE env vs).set k (some d))[il]? = some (some (.lst (onesD L)))) :
    ∃ (w : List Nat) (s' : Sto), bind2 (toStrOnly (fC (.str ""))) (lcF (rngF1 f) (tgN k) yesT (callF (V_law_pick_k01 dp) (aCons (fVar ip) (aCons (fVar il) aNil))) vs) joinG env s = some (wd w, s') ∧ w.length = m ∧ (∀ c ∈ w, c ∈ L) ∧ Sp p (n + m) s' := by
  have hne : onesD L ≠ [] := by
    cases L with
    | nil => exact absurd rfl hL
    | cons => exact fun z => by cases z
  obtain ⟨ds, s2, e, hlen, hq, h2⟩ := lc_sp (te := callF (V_law_pick_k01 dp) (aCons (fVar ip) (aCons (fVar il) aNil))) (k := k) (vs := vs) (env := env) (s := s) (fun d => d ∈ onesD L) 1 900000 (xs := List.range m) (enc := fun i => .int (0 + ((i : Nat) : Int))) hf (by rw [List.length_range]; omega) h (by rw [List.length_range]; omega) (fun x hx n s h hn => by
    obtain ⟨d, s', e, hd, h'⟩ := pick_sp D (ds := onesD L) h (by omega) hne (by rw [List.length_map]; omega)
    exact ⟨d, s', call_ev (aCons_ev (v0 (hp _)) (aCons_ev (v0 (hi _)) a0)) e, hd, h'⟩)
  obtain ⟨w, rfl, hwl, hc⟩ := ones_of hq
  rw [List.length_range] at hlen h2
  rw [Nat.one_mul] at h2
  exact ⟨w, s2, bind2_ev (x := .str "") rfl e (join_ones (by omega)), by omega, hc, h2⟩
def ruL (L : List Nat) : Ru → Prop
  | .put c v _ => c ∈ L ∧ (∀ a ∈ v, a ∈ L) ∧ v ≠ [c] ∧ v.length ≤ 3
  | .drop n _ => 1 ≤ n ∧ n ≤ 4
  | _ => True
theorem eq_ones {s : Sto} {L : List Nat} (h : ∀ c ∈ L, 97 ≤ c ∧ c ≤ 122) : eqG s (.lst (onesD L)) (.lst []) = some (.bl L.isEmpty) :=
  eq_wds (l := L) (f := fun c => [c]) fun x hx c hc => by rw [List.mem_singleton.mp hc]; exact h x hx
structure Page (M R : Nat) (L : List Nat) (E : Ents) (rs : List Ru) : Prop where
  n : L.length ≤ M
  nd : L.Nodup
  lo : ∀ c ∈ L, 97 ≤ c ∧ c ≤ 122
  row : RowE L E
  rn : rs.length ≤ R
  ru : ∀ r ∈ rs, ruL L r
  pl : ∀ c ∈ L, c ∈ poolN
theorem lword_sp (D : Dip dp Sp) {p : Addr} {n M : Nat} {L : List Nat} {s : Sto} (hM : M ≤ 100) (hM1 : 1 ≤ M) (hL : L.length ≤ 8) (hlo : ∀ c ∈ L, 97 ≤ c ∧ c ≤ 122) (h : Sp p n s) (hn : n < 800000) :
    ∃ w s', (V_law_word_k01 dp) [.ref p, .lst (onesD L), .int ((M : Nat) : Int)] s = some (wd w, s') ∧ (∀ c ∈ w, c ∈ L) ∧ w.length ≤ M ∧ Sp p (n + (M + 2)) s' := by
  have t0 : asB (bind2 (fVar 1) (bindA aNil lstG) eqG) [some (.ref p), some (.lst (onesD L)), some (.int ((M : Nat) : Int)), none, none] s = some (L.isEmpty, s) := asB_ev (bind2_ev (v0 rfl) (bindA_ev a0 rfl) (eq_ones hlo))
  cases hq : L.isEmpty with
  | true =>
    rw [hq] at t0
    exact ⟨[], s, fn_rt (seq_rt ((if_t t0).trans (ret_ev c0))), fun c hc => absurd hc List.not_mem_nil, Nat.zero_le _, D.mono h (by omega)⟩
  | false =>
    rw [hq] at t0
    have hne : L ≠ [] := fun z => by rw [z] at hq; cases hq
    obtain ⟨r, s1, e1, r1, r2, h1⟩ := D.draw (m := 2) h (by omega) (by decide) (by decide)
    obtain ⟨m, s2, e2, hm, h2⟩ : ∃ (m : Nat) (s2 : Sto), ifV (asB (bind2 (callF dp (aCons (fVar 0) (aCons (fC (.int 2)) aNil))) (fC (.int 0)) eqG)) (bind2 (fVar 2) (callF dp (aCons (fVar 0) (aCons (fC (.int 2)) aNil))) subG) (callF dp (aCons (fVar 0) (aCons (bind2 (fVar 2) (fC (.int 1)) addAll) aNil))) [some (.ref p), some (.lst (onesD L)), some (.int ((M : Nat) : Int)), none, none] s = some (.int ((m : Nat) : Int), s2) ∧ m ≤ M ∧ Sp p (n + 2) s2 := by
      have t : asB (bind2 (callF dp (aCons (fVar 0) (aCons (fC (.int 2)) aNil))) (fC (.int 0)) eqG) [some (.ref p), some (.lst (onesD L)), some (.int ((M : Nat) : Int)), none, none] s = some (decide (r = 0), s1) := asB_ev (bind2_ev (call_ev (aCons_ev (v0 rfl) (aCons_ev c0 a0)) e1) c0 rfl)
      by_cases h0 : r = 0
      · rw [decide_eq_true h0] at t
        obtain ⟨q, s2, e2, q1, q2, h2⟩ := D.draw (m := 2) h1 (by omega) (by decide) (by decide)
        obtain ⟨k, rfl⟩ := Int.eq_ofNat_of_zero_le q1
        exact ⟨M - k, s2, (ifV_t t).trans (bind2_ev (v0 rfl) (call_ev (aCons_ev (v0 rfl) (aCons_ev c0 a0)) e2) (sub_nn (by omega))), by omega, h2⟩
      · rw [decide_eq_false h0] at t
        obtain ⟨q, s2, e2, q1, q2, h2⟩ := D.draw (m := ((M + 1 : Nat) : Int)) h1 (by omega) (by omega) (by omega)
        obtain ⟨m, rfl⟩ := Int.eq_ofNat_of_zero_le q1
        exact ⟨m, s2, (ifV_f t).trans (call_ev (aCons_ev (v0 rfl) (aCons_ev (bind2_ev (v0 rfl) c0 add_n1) a0)) e2), by omega, h2⟩
    obtain ⟨w, s3, e3, hwl, hw, h3⟩ := picks_sp D (m := m) (k := 4) (ip := 0) (il := 1) (vs := [4]) (L := L) (env := [some (.ref p), some (.lst (onesD L)), some (.int ((M : Nat) : Int)), some (.int ((m : Nat) : Int)), none]) (f := fVar 3) (s := s2)
      (rng_ev (m := ((m : Nat) : Int)) (v0 rfl) (by omega) (by omega)) (by omega) hne (by omega) h2 (by omega) (fun _ => rfl) fun _ => rfl
    exact ⟨w, s3, fn_rt ((seq_nx ((if_f t0).trans rfl)).trans ((seq_nx (set_ev e2)).trans (ret_ev e3))), hw, by omega, D.mono h3 (by omega)⟩
end DL

namespace DL
open PySem PySem.Spec PyProof.Rows L2
local macro_rules | `(tactic| walk_at "op") => `(tactic| first | assumption | with_reducible rfl | exact cat_w (by omega) | exact sub_nn (by omega) | exact add_nn | exact at_w (by omega) (by assumption) | exact len_w (by omega) | exact in_l1 | exact notin_l1 | exact in_t1 | exact notin_t1 | exact in_k1 | exact notin_k1 | exact in_wl | exact notin_wl | exact in_wt | exact notin_wt | exact in_kd | exact notin_kd | exact eq_ww | exact ne_ww | exact any_bl | exact all_bl | rfl)
local macro_rules | `(tactic| walk_at "ev") => `(tactic| first | with_reducible exact c0 | ((with_reducible apply v0); rfl) | with_reducible exact a0 | with_reducible assumption | ((with_reducible apply aCons_ev); (focus walk_at "ev"); (focus walk_at "ev")) | ((with_reducible apply bindA_ev); (focus walk_at "ev"); (focus walk_at "op")) | ((with_reducible apply bind2_ev); (focus walk_at "ev"); (focus walk_at "ev"); (focus walk_at "op")) | ((with_reducible apply bind1_ev); (focus walk_at "ev"); (focus walk_at "op")) | ((with_reducible apply asB_ev); (focus walk_at "ev")) | ((with_reducible apply call_ev); (focus walk_at "ev"); (focus first | assumption | rfl)) | ((with_reducible apply truF_ev); (focus walk_at "ev"); (focus first | assumption | rfl)) | ((with_reducible apply notT_ev); (focus walk_at "ev")) | ((with_reducible apply andT_e); (focus walk_at "ev"); (focus (intro hq; walk_at "ev"))) | ((with_reducible apply orT_e); (focus walk_at "ev"); (focus (intro hq; walk_at "ev"))) | ((with_reducible apply seq_tup); (focus walk_at "ev")) | ((with_reducible apply seq_lst); (focus walk_at "ev")) | ((with_reducible apply seq_str); (focus walk_at "ev")))
def lowB (E : Ents) (a c : Nat) : Bool := decide (a = c) || decide (a ∈ downN E c)
abbrev LowP (E : Ents) : Nat → Nat → Prop := fun a c => lowB E a c = true
theorem lowP_iff {E : Ents} (h : ClE E) {a c : Nat} : LowP E a c ↔ a = c ∨ Rch E c a := by
  show lowB E a c = true ↔ _
  unfold lowB
  rw [Bool.or_eq_true, decide_eq_true_iff, decide_eq_true_iff, down_mem h]
theorem lowP_trans {E : Ents} (h : ClE E) {a b c : Nat} (h1 : LowP E a b) (h2 : LowP E b c) : LowP E a c := by
  rw [lowP_iff h] at *
  rcases h1 with rfl | h1
  · exact h2
  · rcases h2 with rfl | h2
    · exact .inr h1
    · exact .inr (h2.trans h1)
section
variable {P : Nat → Nat → Prop}
theorem Emb.tail {a : Nat} {u v : List Nat} (h : Emb P (a :: u) v) : Emb P u v := by
  generalize hx : a :: u = x at h
  induction h with
  | nil v => cases hx
  | skip _ ih => exact .skip (ih hx)
  | take _ h _ => cases hx; exact .skip h
theorem Emb.trans (hp : ∀ {a b c}, P a b → P b c → P a c) {x y z : List Nat} (h : Emb P x y) (h' : Emb P y z) : Emb P x z := by
  induction h' generalizing x with
  | nil v => cases h with | nil => exact .nil _
  | skip _ ih => exact .skip (ih h)
  | take p _ ih =>
    cases h with
    | nil => exact .nil _
    | skip h => exact .skip (ih h)
    | take q h => exact .take (hp q p) (ih h)
theorem Emb.len {u v : List Nat} (h : Emb P u v) : u.length ≤ v.length := by
  induction h with
  | nil v => exact Nat.zero_le _
  | skip _ ih => exact Nat.le_succ_of_le ih
  | take _ _ ih => exact Nat.succ_le_succ ih
theorem Emb.snoc {u v : List Nat} {c : Nat} : Emb P u (v ++ [c]) ↔ Emb P u v ∨ ∃ t a, u = t ++ [a] ∧ Emb P t v ∧ P a c := by
  constructor
  · intro h
    generalize hx : v ++ [c] = x at h
    induction h generalizing v with
    | nil _ => exact .inl (.nil _)
    | @skip d u' v' h ih =>
      cases v with
      | nil =>
        cases hx
        cases h
        exact .inl (.nil _)
      | cons e v =>
        cases hx
        rcases ih rfl with z | ⟨t, a, e1, e2, e3⟩
        · exact .inl (.skip z)
        · exact .inr ⟨t, a, e1, .skip e2, e3⟩
    | @take b d u' v' p h ih =>
      cases v with
      | nil =>
        cases hx
        cases h
        exact .inr ⟨[], b, rfl, .nil _, p⟩
      | cons e v =>
        cases hx
        rcases ih rfl with z | ⟨t, a, e1, e2, e3⟩
        · exact .inl (.take p z)
        · exact .inr ⟨b :: t, a, by rw [e1]; rfl, .take p e2, e3⟩
  · rintro (h | ⟨t, a, rfl, h, p⟩)
    · have := h.app (.nil [c] : Emb P [] [c])
      rwa [List.append_nil] at this
    · exact h.app (.take p (.nil []))
end
def grd (E : Ents) (u : List Nat) : Nat → List Nat → Nat
  | i, [] => i
  | i, c :: v => grd E u (if (decide (i < u.length) && lowB E (u.getD i 0) c) = true then i + 1 else i) v
def embB (E : Ents) (u v : List Nat) : Bool := decide (grd E u 0 v = u.length)
theorem grd_iff {E : Ents} {u : List Nat} : ∀ {v : List Nat} {i : Nat}, i ≤ u.length → (grd E u i v = u.length ↔ Emb (LowP E) (u.drop i) v)
  | [], i, hi => by
    show i = u.length ↔ _
    constructor
    · rintro rfl
      rw [List.drop_length]
      exact .nil _
    · intro h
      have := h.len
      rw [List.length_drop] at this
      simp only [List.length_nil] at this
      omega
  | c :: v, i, hi => by
    show grd E u (if (decide (i < u.length) && lowB E (u.getD i 0) c) = true then i + 1 else i) v = u.length ↔ _
    by_cases h1 : i < u.length
    · have ed : u.drop i = u.getD i 0 :: u.drop (i + 1) := by
        rw [List.drop_eq_getElem_cons h1, List.getD_eq_getElem?_getD, List.getElem?_eq_getElem h1]; rfl
      rw [decide_eq_true h1, Bool.true_and]
      by_cases h2 : lowB E (u.getD i 0) c = true
      · rw [if_pos h2, grd_iff (v := v) (i := i + 1) h1, ed]
        constructor
        · exact fun h => .take h2 h
        · intro h
          cases h with
          | skip h => exact h.tail
          | take _ h => exact h
      · rw [if_neg h2, grd_iff (v := v) hi, ed]
        constructor
        · exact fun h => .skip h
        · intro h
          cases h with
          | skip h => exact h
          | take p _ => exact absurd p h2
    · rw [decide_eq_false h1, Bool.false_and, if_neg Bool.false_ne_true, grd_iff (v := v) hi, List.drop_of_length_le (by omega)]
      exact ⟨fun _ => .nil _, fun _ => .nil _⟩
theorem embB_iff {E : Ents} {u v : List Nat} : embB E u v = true ↔ Emb (LowP E) u v := by
  unfold embB
  rw [decide_eq_true_iff, grd_iff (Nat.zero_le _), List.drop_zero]
def addU (K : List (List Nat)) (x : List Nat) : List (List Nat) := if x ∈ K then K else K ++ [x]
theorem addU_mem {K : List (List Nat)} {x y : List Nat} : y ∈ addU K x ↔ y ∈ K ∨ y = x := by
  unfold addU
  split
  · rename_i h
    exact ⟨.inl, fun z => z.elim (fun z => z) fun z => z ▸ h⟩
  · rw [List.mem_append, List.mem_singleton]
theorem addU_nd {K : List (List Nat)} {x : List Nat} (h : K.Nodup) : (addU K x).Nodup := by
  unfold addU
  split
  · exact h
  · rename_i hx
    exact List.nodup_append.mpr ⟨h, List.pairwise_singleton _ _, fun a ha b hb e => hx (by rw [List.mem_singleton.mp hb] at e; exact e ▸ ha)⟩
theorem addU_len {K : List (List Nat)} {x : List Nat} : (addU K x).length ≤ K.length + 1 := by
  unfold addU
  split
  · exact Nat.le_succ _
  · rw [List.length_append]; exact Nat.le_refl _
def addsU (K l : List (List Nat)) : List (List Nat) := l.foldl addU K
theorem addsU_mem {y : List Nat} : ∀ {l K : List (List Nat)}, y ∈ addsU K l ↔ y ∈ K ∨ y ∈ l
  | [], K => ⟨.inl, fun h => h.elim (fun z => z) fun z => absurd z List.not_mem_nil⟩
  | x :: l, K => by
    show y ∈ addsU (addU K x) l ↔ _
    rw [addsU_mem, addU_mem, List.mem_cons, or_assoc]
theorem addsU_nd : ∀ {l K : List (List Nat)}, K.Nodup → (addsU K l).Nodup
  | [], _, h => h
  | x :: l, _, h => addsU_nd (l := l) (addU_nd h)
theorem addsU_len : ∀ {l K : List (List Nat)}, (addsU K l).length ≤ K.length + l.length
  | [], _ => Nat.le_refl _
  | x :: l, K => by
    have h1 := addsU_len (l := l) (K := addU K x)
    have h2 := addU_len (K := K) (x := x)
    show (addsU (addU K x) l).length ≤ _
    rw [List.length_cons]
    omega
theorem addsU_app (K l m : List (List Nat)) : addsU K (l ++ m) = addsU (addsU K l) m := List.foldl_append ..
def moreW (E : Ents) (c : Nat) (t : List Nat) : List (List Nat) := (c :: downN E c).map fun a => t ++ [a]
def tamS (E : Ents) (K : List (List Nat)) (c : Nat) : List (List Nat) := addsU K (K.flatMap (moreW E c))
def tamN (E : Ents) (w : List Nat) : List (List Nat) := w.foldl (tamS E) [[]]
theorem tam_snoc (E : Ents) (w : List Nat) (c : Nat) : tamN E (w ++ [c]) = tamS E (tamN E w) c := by unfold tamN; rw [List.foldl_append]; rfl
theorem moreW_mem {E : Ents} {c : Nat} {t y : List Nat} : y ∈ moreW E c t ↔ ∃ a, y = t ++ [a] ∧ LowP E a c := by
  unfold moreW
  rw [List.mem_map]
  constructor
  · rintro ⟨a, ha, rfl⟩
    refine ⟨a, rfl, ?_⟩
    show lowB E a c = true
    unfold lowB
    rcases List.mem_cons.mp ha with rfl | ha
    · rw [decide_eq_true rfl]; rfl
    · rw [decide_eq_true ha, Bool.or_true]
  · rintro ⟨a, rfl, ha⟩
    refine ⟨a, ?_, rfl⟩
    have ha' : lowB E a c = true := ha
    unfold lowB at ha'
    rw [Bool.or_eq_true, decide_eq_true_iff, decide_eq_true_iff] at ha'
    exact List.mem_cons.mpr ha'
theorem list_snoc {α : Type} {p : List α → Prop} (h0 : p []) (h1 : ∀ l a, p l → p (l ++ [a])) (l : List α) : p l := by
  have key : ∀ n (l : List α), l.length = n → p l := by
    intro n
    induction n with
    | zero => intro l hl; rw [List.eq_nil_of_length_eq_zero hl]; exact h0
    | succ n ih =>
      intro l hl
      have hne : l ≠ [] := fun z => by rw [z] at hl; cases hl
      rw [← List.dropLast_concat_getLast hne]
      exact h1 _ _ (ih _ (by rw [List.length_dropLast]; omega))
  exact key l.length l rfl
theorem tam_mem {E : Ents} (w : List Nat) : ∀ {y : List Nat}, y ∈ tamN E w ↔ Emb (LowP E) y w := by
  refine list_snoc (p := fun w => ∀ {y : List Nat}, y ∈ tamN E w ↔ Emb (LowP E) y w) ?_ ?_ w
  · intro y
    show y ∈ [[]] ↔ _
    rw [List.mem_singleton]
    constructor
    · rintro rfl; exact .nil _
    · intro h
      have := h.len
      exact List.eq_nil_of_length_eq_zero (by simpa using this)
  · intro w c ih y
    rw [tam_snoc, Emb.snoc]
    unfold tamS
    rw [addsU_mem, ih, List.mem_flatMap]
    refine or_congr_right ?_
    constructor
    · rintro ⟨t, ht, hy⟩
      obtain ⟨a, rfl, ha⟩ := moreW_mem.mp hy
      exact ⟨t, a, rfl, ih.mp ht, ha⟩
    · rintro ⟨t, a, rfl, ht, ha⟩
      exact ⟨t, ih.mpr ht, moreW_mem.mpr ⟨a, rfl, ha⟩⟩
theorem tam_nd {E : Ents} (w : List Nat) : (tamN E w).Nodup := by
  refine list_snoc (p := fun w => (tamN E w).Nodup) (List.pairwise_singleton _ _) (fun w c ih => ?_) w
  rw [tam_snoc]
  exact addsU_nd ih
theorem flat_len {α β : Type} {f : α → List β} {m : Nat} : ∀ {l : List α}, (∀ x ∈ l, (f x).length ≤ m) → (l.flatMap f).length ≤ l.length * m
  | [], _ => Nat.zero_le _
  | x :: l, h => by
    rw [List.flatMap_cons, List.length_append, List.length_cons, Nat.succ_mul]
    have h1 := h x List.mem_cons_self
    have h2 := flat_len (l := l) fun y hy => h y (List.mem_cons_of_mem _ hy)
    omega
theorem tamS_len {E : Ents} (h : ClE E) {M : Nat} (hM : E.length ≤ M) (K : List (List Nat)) (c : Nat) : (tamS E K c).length ≤ K.length * (M + 2) := by
  have h1 := addsU_len (K := K) (l := K.flatMap (moreW E c))
  have h2 := flat_len (l := K) (f := moreW E c) (m := M + 1) fun x hx => by
    unfold moreW
    rw [List.length_map, List.length_cons]
    have := down_len h c
    omega
  have h3 : K.length * (M + 2) = K.length * (M + 1) + K.length := by rw [show M + 2 = M + 1 + 1 from rfl, Nat.mul_succ]
  unfold tamS
  omega
theorem tam_len {E : Ents} (h : ClE E) {M : Nat} (hM : E.length ≤ M) (w : List Nat) : (tamN E w).length ≤ (M + 2) ^ w.length := by
  refine list_snoc (p := fun w => (tamN E w).length ≤ (M + 2) ^ w.length) (Nat.le_refl _) (fun w c ih => ?_) w
  rw [tam_snoc, List.length_append, List.length_singleton, Nat.pow_succ]
  exact Nat.le_trans (tamS_len h hM _ c) (Nat.mul_le_mul_right _ ih)
def sortW (K : List (List Nat)) : List (List Nat) := sortK (fun w => strW w) K
theorem sortW_mem {K : List (List Nat)} {y : List Nat} : y ∈ sortW K ↔ y ∈ K := (sortK_perm K).mem_iff
theorem sortW_len (K : List (List Nat)) : (sortW K).length = K.length := (sortK_perm K).length_eq
theorem sortW_eq {K K' : List (List Nat)} (h : K.Nodup) (h' : K'.Nodup) (e : ∀ y, y ∈ K ↔ y ∈ K') : sortW K = sortW K' := by
  have p : K.Perm K' := (List.perm_ext_iff_of_nodup h h').mpr e
  exact sortK_eq ((sortK_perm K).trans p) (sortK_sorted K) fun a b _ _ z => strW_inj z
theorem sorted_words {s : Sto} (K : List (List Nat)) : sortedG_ s [.lst (K.map wd)] = some (.lst ((sortW K).map wd)) := by
  have e : K.map wd = (K.map strW).map Dt.str := by rw [List.map_map]; rfl
  unfold sortedG_ sortedStrG
  dsimp only
  rw [e, strsOf_map]
  dsimp only
  unfold sortS sortW
  rw [← sortK_map (k := fun x => x) (f := strW) K, List.map_map]
  rfl

end DL

namespace DL
open PySem PySem.Spec PyProof.Rows L2
local macro_rules | `(tactic| walk_at "op") => `(tactic| first | assumption | with_reducible rfl | exact cat_w (by omega) | exact sub_nn (by omega) | exact add_nn | exact at_w (by omega) (by assumption) | exact len_w (by omega) | exact in_l1 | exact notin_l1 | exact in_t1 | exact notin_t1 | exact in_k1 | exact notin_k1 | exact in_wl | exact notin_wl | exact in_wt | exact notin_wt | exact in_kd | exact notin_kd | exact eq_ww | exact ne_ww | exact any_bl | exact all_bl | rfl)
local macro_rules | `(tactic| walk_at "ev") => `(tactic| first | with_reducible exact c0 | ((with_reducible apply v0); rfl) | with_reducible exact a0 | with_reducible assumption | ((with_reducible apply aCons_ev); (focus walk_at "ev"); (focus walk_at "ev")) | ((with_reducible apply bindA_ev); (focus walk_at "ev"); (focus walk_at "op")) | ((with_reducible apply bind2_ev); (focus walk_at "ev"); (focus walk_at "ev"); (focus walk_at "op")) | ((with_reducible apply bind1_ev); (focus walk_at "ev"); (focus walk_at "op")) | ((with_reducible apply asB_ev); (focus walk_at "ev")) | ((with_reducible apply call_ev); (focus walk_at "ev"); (focus first | assumption | rfl)) | ((with_reducible apply truF_ev); (focus walk_at "ev"); (focus first | assumption | rfl)) | ((with_reducible apply notT_ev); (focus walk_at "ev")) | ((with_reducible apply andT_e); (focus walk_at "ev"); (focus (intro hq; walk_at "ev"))) | ((with_reducible apply orT_e); (focus walk_at "ev"); (focus (intro hq; walk_at "ev"))) | ((with_reducible apply seq_tup); (focus walk_at "ev")) | ((with_reducible apply seq_lst); (focus walk_at "ev")) | ((with_reducible apply seq_str); (focus walk_at "ev")))
abbrev trW (K : List (List Nat)) : List (Key × Dt) := K.map fun w => (.inr (strW w), .bl true)
theorem put_trW {K : List (List Nat)} {x : List Nat} : putD (trW K) (.inr (strW x)) (.bl true) = trW (addU K x) := by
  unfold addU
  by_cases h : x ∈ K
  · rw [if_pos h]
    unfold putD
    have e : (trW K).any (fun kv => decide (kv.1 = (.inr (strW x) : Key))) = true := by
      rw [List.any_eq_true]
      exact ⟨_, List.mem_map.mpr ⟨x, h, rfl⟩, decide_eq_true rfl⟩
    rw [if_pos e]
    unfold trW
    rw [List.map_map]
    refine List.map_congr_left fun w hw => ?_
    show (if (.inr (strW w) : Key) = .inr (strW x) then ((.inr (strW w) : Key), Dt.bl true) else ((.inr (strW w) : Key), Dt.bl true)) = _
    split <;> rfl
  · rw [if_neg h]
    have := put_new (l := K) (f := fun w => w) (g := fun _ => Dt.bl true) (x := x) (d := .bl true) (by rw [List.map_id']; exact h)
    refine this.trans ?_
    unfold trW
    rw [List.map_append]
    rfl
theorem keys_trW (K : List (List Nat)) : (trW K).map (fun kv => keyD kv.1) = K.map wd := by rw [List.map_map]; rfl
section
variable {α : Type} {enc : α → Dt} {fi : Fi} {tk te : Fe} {w env : Env} {k : Nat} {vs : List Nat} {s s1 : Sto} {f : α → List Nat} {g : α → Dt}
theorem dcL_e : ∀ {xs pre : List α}, ((pre ++ xs).map f).Nodup → (pre ++ xs).length < 16777215 → (∀ x, x ∈ xs → tk (w.set k (some (enc x))) s = some (wd (f x), s)) → (∀ x, x ∈ xs → te (w.set k (some (enc x))) s = some (g x, s)) →
    dcL (tgN k) yesT tk te w (xs.map enc) (pre.map fun x => (.inr (strW (f x)), g x)) s = some ((pre ++ xs).map fun x => (.inr (strW (f x)), g x), s)
  | [], pre, _, _, _, _ => by rw [List.append_nil]; rfl
  | x :: xs, pre, hn, hl, h1, h2 => by
    rw [List.map_cons]
    unfold dcL
    simp only [tgN, yesT]
    rw [h1 x List.mem_cons_self]
    dsimp only
    rw [h2 x List.mem_cons_self]
    dsimp only
    have hk : keyOf (wd (f x)) = some (.inr (strW (f x))) := rfl
    rw [hk]
    dsimp only
    rw [if_pos (by rw [List.length_map]; exact small' (by rw [List.length_append, List.length_cons] at hl; omega))]
    have hx : f x ∉ pre.map f := fun hm => by
      rw [List.map_append] at hn
      exact (List.nodup_append.mp hn).2.2 _ hm _ List.mem_cons_self rfl
    rw [put_new hx]
    have ih := dcL_e (xs := xs) (pre := pre ++ [x]) (by rw [List.append_assoc]; exact hn) (by rw [List.append_assoc]; exact hl) (fun y hy => h1 y (List.mem_cons_of_mem _ hy)) fun y hy => h2 y (List.mem_cons_of_mem _ hy)
    rw [List.map_append, List.append_assoc] at ih
    exact ih
theorem dc_e {xs : List α} (hi : fi env s = some (xs.map enc, s1)) (hn : (xs.map f).Nodup) (hl : xs.length < 16777215) (h1 : ∀ x, x ∈ xs → tk ((wipeE env vs).set k (some (enc x))) s1 = some (wd (f x), s1)) (h2 : ∀ x, x ∈ xs → te ((wipeE env vs).set k (some (enc x))) s1 = some (g x, s1)) :
    dcF fi (tgN k) yesT tk te vs env s = some (.dct (xs.map fun x => (.inr (strW (f x)), g x)), s1) := by
  unfold dcF
  rw [hi]
  dsimp only
  have := dcL_e (tk := tk) (te := te) (w := wipeE env vs) (k := k) (s := s1) (f := f) (g := g) (xs := xs) (pre := []) hn hl h1 h2
  have e : dcL (tgN k) yesT tk te (wipeE env vs) (xs.map enc) [] s1 = some (xs.map fun x => (.inr (strW (f x)), g x), s1) := this
  rw [e]
end
def downsD (E : Ents) : Dt := .dct ((E.map (·.1)).map fun c => (.inr (strW [c]), .tup (onesD (c :: downN E c))))
section
variable {E : Ents} {s : Sto}
theorem downs_ok (hE : ClE E) (R : Dt) : Vdowns_of [.tup [.tup (entL E), R]] s = some (downsD E, s) := by
  have g1 := (toDct_ent s hE.ok.nd).1
  have g2 : ixA s (.tup [.tup (entL E), R]) (.int 0) = some (.tup (entL E)) := rfl
  have g1' : toDctG s [.tup (entL E)] = some (edD E) := g1
  refine fn_rt ((seq_nx (set_ev (bindA_ev (aCons_ev (by walk_at "ev") a0) g1'))).trans (ret_ev ?_))
  have hseq : seqF (fVar 1) [some (.tup [.tup (entL E), R]), some (edD E), none] s = some ((E.map (·.1)).map fun c => wd [c], s) := (seq_dct (ks := E.map prD) (v0 rfl)).trans (by rw [List.map_map, List.map_map]; rfl)
  refine dc_e (env := [some (.tup [.tup (entL E), R]), some (edD E), none]) (k := 2) (vs := [2]) (xs := E.map (·.1)) (enc := fun c => wd [c]) (f := fun c => [c]) (g := fun c => .tup (onesD (c :: downN E c))) (s1 := s) hseq ?_ (by rw [List.length_map]; have := hE.n; omega) (fun c hc => ?_) fun c hc => ?_
  · exact List.Pairwise.map _ (fun a b hab e => hab (by simpa using e)) hE.ok.nd
  · exact v0 rfl
  · have g3 := reached_ok hE hc s
    have g4 : tupG s [wd [c]] = some (.tup [wd [c]]) := rfl
    have g5 : addAll s (.tup [wd [c]]) (.tup (onesD (downN E c))) = some (.tup (onesD (c :: downN E c))) := by
      have := cat_t (s := s) (a := [wd [c]]) (b := onesD (downN E c)) (by rw [List.length_singleton, List.length_map]; have := down_len hE c; have := hE.n; omega)
      exact this
    exact bind2_ev (bindA_ev (aCons_ev (v0 rfl) a0) g4) (call_ev (aCons_ev (v0 rfl) (aCons_ev (v0 rfl) a0)) g3) g5
theorem get_kd {g : Nat → Dt} {c : Nat} : ∀ {l : List Nat}, c ∈ l → valD (l.map fun c => ((.inr (strW [c]) : Key), g c)) (.inr (strW [c])) = some (g c)
  | [], h => absurd h List.not_mem_nil
  | d :: l, h => by
    have ih := get_kd (g := g) (c := c) (l := l)
    rw [List.map_cons]
    unfold valD at ih ⊢
    rw [List.find?_cons]
    by_cases e : d = c
    · subst e
      rw [show decide ((.inr (strW [d]) : Key) = .inr (strW [d])) = true from decide_eq_true rfl]
      rfl
    · rw [show decide ((.inr (strW [d]) : Key) = .inr (strW [c])) = false from decide_eq_false fun z => e (by have := strW_inj (Sum.inr.inj z); cases this; rfl)]
      exact ih ((List.mem_cons.mp h).elim (fun z => absurd z.symm e) fun z => z)
theorem get_down {c : Nat} (h : c ∈ E.map (·.1)) : ixA s (downsD E) (wd [c]) = some (.tup (onesD (c :: downN E c))) := get_kd h
theorem in_down {a c : Nat} : inA s (wd [a]) (.tup (onesD (c :: downN E c))) = some (.bl (lowB E a c)) := by
  rw [in_t1]
  unfold lowB
  congr 2
  rw [Bool.eq_iff_iff, Bool.or_eq_true, decide_eq_true_iff, decide_eq_true_iff, decide_eq_true_iff, List.mem_cons]
theorem comes_ok {u v : List Nat} (hv : ∀ c ∈ v, c ∈ E.map (·.1)) (hu : u.length ≤ 1000) : Vcomes_from [downsD E, wd u, wd v] s = some (.bl (embB E u v), s) := by
  refine fn_rt ((seq_nx (set_ev c0)).trans ?_)
  have key := for_pre (xs := v) (enc := fun c => wd [c]) (i := 4) (F := (ifS (andT (asB (bind2 (fVar 3) (bindA (aCons (fVar 1) aNil) lenG) ltG)) (asB (bind2 (bind2 (fVar 1) (fVar 3) ixA) (bind2 (fVar 0) (fVar 4) ixA) inA))) (setS 3 (bind2 (fVar 3) (fC (.int 1)) addAll)) skipS)) (fi := seqF (fVar 2)) (s := s)
    (env := [some (downsD E), some (wd u), some (wd v), some (.int ((0 : Nat) : Int)), none])
    (fun pre env s' => s' = s ∧ ∃ (i : Nat) (x : Option Dt) (post : List Nat), v = pre ++ post ∧ env = [some (downsD E), some (wd u), some (wd v), some (.int (i : Int)), x] ∧ grd E u 0 v = grd E u i post)
    (seq_str (v0 rfl)) ⟨rfl, 0, none, v, rfl, rfl, rfl⟩ (by
    rintro pre c post env s' he ⟨rfl, i, x, post', he', rfl, hg⟩
    have hp : post' = c :: post := List.append_cancel_left (he'.symm.trans he)
    subst hp
    have hc : c ∈ E.map (·.1) := hv c (by rw [he]; exact List.mem_append_right _ List.mem_cons_self)
    have g1 := len_w (s := s') (w := u) (by omega)
    have g2 := get_down (s := s') hc
    have g3 := in_down (s := s') (E := E) (a := u.getD i 0) (c := c)
    have g4 : ltG s' (.int (i : Int)) (.int ((u.length : Nat) : Int)) = some (.bl (decide (i < u.length))) := by
      show some (Dt.bl (decide ((i : Int) < (u.length : Int)))) = _
      congr 2
      exact decide_eq_decide.mpr (by omega)
    have hcond : andT (asB (bind2 (fVar 3) (bindA (aCons (fVar 1) aNil) lenG) ltG)) (asB (bind2 (bind2 (fVar 1) (fVar 3) ixA) (bind2 (fVar 0) (fVar 4) ixA) inA)) [some (downsD E), some (wd u), some (wd v), some (.int (i : Int)), some (wd [c])] s' = some (decide (i < u.length) && lowB E (u.getD i 0) c, s') := by
      refine andT_e (by walk_at "ev") fun hlt => ?_
      have hlt' := of_decide_eq_true hlt
      have g5 := at_w (s := s') (w := u) (k := i) (c := u.getD i 0) (by omega) (by rw [List.getD_eq_getElem?_getD, List.getElem?_eq_getElem hlt']; rfl)
      walk_at "ev"
    refine ⟨[some (downsD E), some (wd u), some (wd v), some (.int (((if (decide (i < u.length) && lowB E (u.getD i 0) c) = true then i + 1 else i : Nat)) : Int)), some (wd [c])], s', ?_, rfl, _, some (wd [c]), post, by rw [he, List.append_assoc]; rfl, rfl, hg⟩
    cases hq : (decide (i < u.length) && lowB E (u.getD i 0) c) with
    | true =>
      rw [hq] at hcond
      exact (if_t hcond).trans (set_ev (bind2_ev (v0 rfl) c0 add_n1))
    | false =>
      rw [hq] at hcond
      exact (if_f hcond).trans rfl)
  obtain ⟨e', s', h1, rfl, i, x, post, he, rfl, hg⟩ := key
  have hp : post = [] := by
    have := congrArg List.length he
    rw [List.length_append] at this
    exact List.eq_nil_of_length_eq_zero (by omega)
  subst hp
  have hg' : grd E u 0 v = i := hg
  have g1 := len_w (s := s') (w := u) (by omega)
  have g2 : eqG s' (.int (i : Int)) (.int ((u.length : Nat) : Int)) = some (.bl (embB E u v)) := by
    show some (Dt.bl (decide ((i : Int) = (u.length : Int)))) = _
    unfold embB
    congr 2
    exact decide_eq_decide.mpr (by omega)
  exact (seq_nx h1).trans (ret_ev (by walk_at "ev"))
end

end DL

namespace DL
open PySem PySem.Spec PyProof.Rows L2
local macro_rules | `(tactic| walk_at "op") => `(tactic| first | assumption | with_reducible rfl | exact cat_w (by omega) | exact sub_nn (by omega) | exact add_nn | exact at_w (by omega) (by assumption) | exact len_w (by omega) | exact in_l1 | exact notin_l1 | exact in_t1 | exact notin_t1 | exact in_k1 | exact notin_k1 | exact in_wl | exact notin_wl | exact in_wt | exact notin_wt | exact in_kd | exact notin_kd | exact eq_ww | exact ne_ww | exact any_bl | exact all_bl | rfl)
local macro_rules | `(tactic| walk_at "ev") => `(tactic| first | with_reducible exact c0 | ((with_reducible apply v0); rfl) | with_reducible exact a0 | with_reducible assumption | ((with_reducible apply aCons_ev); (focus walk_at "ev"); (focus walk_at "ev")) | ((with_reducible apply bindA_ev); (focus walk_at "ev"); (focus walk_at "op")) | ((with_reducible apply bind2_ev); (focus walk_at "ev"); (focus walk_at "ev"); (focus walk_at "op")) | ((with_reducible apply bind1_ev); (focus walk_at "ev"); (focus walk_at "op")) | ((with_reducible apply asB_ev); (focus walk_at "ev")) | ((with_reducible apply call_ev); (focus walk_at "ev"); (focus first | assumption | rfl)) | ((with_reducible apply truF_ev); (focus walk_at "ev"); (focus first | assumption | rfl)) | ((with_reducible apply notT_ev); (focus walk_at "ev")) | ((with_reducible apply andT_e); (focus walk_at "ev"); (focus (intro hq; walk_at "ev"))) | ((with_reducible apply orT_e); (focus walk_at "ev"); (focus (intro hq; walk_at "ev"))) | ((with_reducible apply seq_tup); (focus walk_at "ev")) | ((with_reducible apply seq_lst); (focus walk_at "ev")) | ((with_reducible apply seq_str); (focus walk_at "ev")))
section
variable {E : Ents} {s : Sto}
def inT : Fs := (dputS 3 (bind2 (fVar 5) (fVar 6) addAll) (fC (.bl true)))
def midT : Fs := (forF (seqF (bind2 (fVar 2) (fVar 4) ixA)) (tgN 6) inT)
def outT : Fs := (forF (seqF (bindA (aCons (fVar 3) aNil) toLstG)) (tgN 5) midT)
theorem in_t (B X : Dt) {K : List (List Nat)} {t : List Nat} {c a : Nat} (hK : K.length < 16777215) (ht : t.length ≤ 1000) (s : Sto) :
    inT [some B, some X, some (downsD E), some (.dct (trW K)), some (wd [c]), some (wd t), some (wd [a])] s = some (.nx [some B, some X, some (downsD E), some (.dct (trW (addU K (t ++ [a])))), some (wd [c]), some (wd t), some (wd [a])], s) := by
  have g1 := cat_w (s := s) (u := t) (v := [a]) (by rw [List.length_singleton]; omega)
  refine (dput_e (v := .bl true) (kd := wd (t ++ [a])) (ks := trW K) (key := .inr (strW (t ++ [a]))) c0 (bind2_ev (v0 rfl) (v0 rfl) g1) rfl rfl (small' (by rw [List.length_map]; exact hK))).trans ?_
  rw [put_trW]
  rfl
theorem mid_t (hE : ClE E) (B X : Dt) {K : List (List Nat)} {t : List Nat} {c : Nat} (hc : c ∈ E.map (·.1)) (hK : K.length + E.length + 2 < 16777215) (ht : t.length ≤ 1000) (x6 : Option Dt) (s : Sto) :
    ∃ y6, midT [some B, some X, some (downsD E), some (.dct (trW K)), some (wd [c]), some (wd t), x6] s = some (.nx [some B, some X, some (downsD E), some (.dct (trW (addsU K (moreW E c t)))), some (wd [c]), some (wd t), y6], s) := by
  have g1 := get_down (s := s) hc
  have key := for_pre (xs := c :: downN E c) (enc := fun a => wd [a]) (i := 6) (F := inT) (fi := seqF (bind2 (fVar 2) (fVar 4) ixA)) (s := s)
    (env := [some B, some X, some (downsD E), some (.dct (trW K)), some (wd [c]), some (wd t), x6])
    (fun pre env s' => s' = s ∧ ∃ y6, env = [some B, some X, some (downsD E), some (.dct (trW (addsU K (pre.map fun a => t ++ [a])))), some (wd [c]), some (wd t), y6])
    (seq_tup (bind2_ev (v0 rfl) (v0 rfl) g1)) ⟨rfl, x6, rfl⟩ (by
    rintro pre a post env s' he ⟨rfl, y6, rfl⟩
    have hl : pre.length ≤ E.length + 1 := by
      have := congrArg List.length he
      have := down_len hE c
      simp only [List.length_cons, List.length_append] at *
      omega
    have hb := addsU_len (K := K) (l := pre.map fun a => t ++ [a])
    rw [List.length_map] at hb
    refine ⟨_, s', in_t (E := E) B X (by omega) ht s', rfl, some (wd [a]), ?_⟩
    rw [List.map_append, addsU_app]
    rfl)
  obtain ⟨e', s', h1, rfl, y6, rfl⟩ := key
  exact ⟨y6, h1⟩
theorem out_t (hE : ClE E) (B X : Dt) {K : List (List Nat)} {c : Nat} (hc : c ∈ E.map (·.1)) (hK : K.length * (E.length + 2) + 100 < 16777215) (hw : ∀ t ∈ K, t.length ≤ 1000) (x5 x6 : Option Dt) (s : Sto) :
    ∃ y5 y6, outT [some B, some X, some (downsD E), some (.dct (trW K)), some (wd [c]), x5, x6] s = some (.nx [some B, some X, some (downsD E), some (.dct (trW (tamS E K c))), some (wd [c]), y5, y6], s) := by
  have g1 : toLstG s [.dct (trW K)] = some (.lst (K.map wd)) := by
    show some (Dt.lst ((trW K).map fun kv => keyD kv.1)) = _
    rw [keys_trW]
  have key := for_pre (xs := K) (enc := wd) (i := 5) (F := midT) (fi := seqF (bindA (aCons (fVar 3) aNil) toLstG)) (s := s)
    (env := [some B, some X, some (downsD E), some (.dct (trW K)), some (wd [c]), x5, x6])
    (fun pre env s' => s' = s ∧ ∃ y5 y6, env = [some B, some X, some (downsD E), some (.dct (trW (addsU K (pre.flatMap (moreW E c))))), some (wd [c]), y5, y6])
    (seq_lst (bindA_ev (aCons_ev (v0 rfl) a0) g1)) ⟨rfl, x5, x6, rfl⟩ (by
    rintro pre t post env s' he ⟨rfl, y5, y6, rfl⟩
    have htm : t ∈ K := by rw [he]; exact List.mem_append_right _ List.mem_cons_self
    have hl : pre.length + 1 ≤ K.length := by
      have := congrArg List.length he
      rw [List.length_append, List.length_cons] at this
      omega
    have hb := addsU_len (K := K) (l := pre.flatMap (moreW E c))
    have h2 := flat_len (l := pre) (f := moreW E c) (m := E.length + 1) fun x hx => by
      unfold moreW
      rw [List.length_map, List.length_cons]
      have := down_len hE c
      omega
    have h3 : K.length * (E.length + 2) = K.length * (E.length + 1) + K.length := by rw [show E.length + 2 = E.length + 1 + 1 from rfl, Nat.mul_succ]
    have h4 : pre.length * (E.length + 1) ≤ K.length * (E.length + 1) := Nat.mul_le_mul_right _ (by omega)
    have h5 := hE.n
    obtain ⟨z6, e⟩ := mid_t hE B X (K := addsU K (pre.flatMap (moreW E c))) hc (by omega) (hw t htm) y6 s'
    refine ⟨_, s', e, rfl, some (wd t), z6, ?_⟩
    rw [List.flatMap_append, addsU_app]
    show _ = [_, _, _, some (Dt.dct (trW (addsU _ (moreW E c t ++ [])))), _, _, _]
    rw [List.append_nil])
  obtain ⟨e', s', h1, rfl, y5, y6, rfl⟩ := key
  exact ⟨y5, y6, h1⟩
theorem tam_pow {w pre post : List Nat} {c : Nat} (hE : ClE E) (he : w = pre ++ c :: post) {N : Nat} (hN : (E.length + 2) ^ w.length ≤ N) : (tamN E pre).length * (E.length + 2) ≤ N := by
  have h1 := tam_len hE (Nat.le_refl E.length) pre
  have h2 : (tamN E pre).length * (E.length + 2) ≤ (E.length + 2) ^ (pre.length + 1) := by rw [Nat.pow_succ]; exact Nat.mul_le_mul_right _ h1
  have h3 : (E.length + 2) ^ (pre.length + 1) ≤ (E.length + 2) ^ w.length := Nat.pow_le_pow_right (by omega) (by rw [he, List.length_append, List.length_cons]; omega)
  omega
theorem things_ok (hE : ClE E) (R : Dt) {w : List Nat} (hw : ∀ c ∈ w, c ∈ E.map (·.1)) (hwl : w.length ≤ 50) (hN : (E.length + 2) ^ w.length ≤ 10000000) : Vthings_at_most [.tup [.tup (entL E), R], wd w] s = some (.tup ((sortW (tamN E w)).map wd), s) := by
  have n1 := thing_need (s := s) R "x" (by have := hE.n; omega) hw (fun c hc => hE.lo c (hw c hc)) hwl
  have g1 := downs_ok (s := s) hE R
  let B : Dt := .tup [.tup (entL E), R]
  have d0 : dispF [((fC (.str "")), (fC (.bl true)))] [some B, some (wd w), some (downsD E), none, none, none, none] s = some (.dct (trW (tamN E [])), s) := rfl
  refine fn_rt ((seq_nx (dropS_ev (call_ev (aCons_ev (v0 rfl) (aCons_ev (v0 rfl) (aCons_ev c0 a0))) n1))).trans ((seq_nx (set_ev (call_ev (aCons_ev (v0 rfl) a0) g1))).trans ((seq_nx (setN_ev (show 3 < 7 by decide) d0)).trans ?_)))
  have key := for_pre (xs := w) (enc := fun c => wd [c]) (i := 4) (F := outT) (fi := seqF (fVar 1)) (s := s)
    (env := [some B, some (wd w), some (downsD E), some (.dct (trW (tamN E []))), none, none, none])
    (fun pre env s' => s' = s ∧ ∃ x4 x5 x6, env = [some B, some (wd w), some (downsD E), some (.dct (trW (tamN E pre))), x4, x5, x6])
    (seq_str (v0 rfl)) ⟨rfl, none, none, none, rfl⟩ (by
    rintro pre c post env s' he ⟨rfl, x4, x5, x6, rfl⟩
    have hc : c ∈ E.map (·.1) := hw c (by rw [he]; exact List.mem_append_right _ List.mem_cons_self)
    have hp : pre.length ≤ 50 := by have := congrArg List.length he; rw [List.length_append] at this; omega
    have hb := tam_pow hE he hN
    obtain ⟨y5, y6, e⟩ := out_t hE B (wd w) (K := tamN E pre) hc (by omega) (fun t ht => by have := (tam_mem pre).mp ht |>.len; omega) x5 x6 s'
    refine ⟨_, s', e, rfl, some (wd [c]), y5, y6, ?_⟩
    rw [tam_snoc])
  obtain ⟨e', s', h1, rfl, x4, x5, x6, rfl⟩ := key
  have g2 : toLstG s' [.dct (trW (tamN E w))] = some (.lst ((tamN E w).map wd)) := by
    show some (Dt.lst ((trW (tamN E w)).map fun kv => keyD kv.1)) = _
    rw [keys_trW]
  have g3 := sorted_words (s := s') (tamN E w)
  have g4 : toTupG s' [.lst ((sortW (tamN E w)).map wd)] = some (.tup ((sortW (tamN E w)).map wd)) := rfl
  exact (seq_nx h1).trans (ret_ev (bindA_ev (aCons_ev (bindA_ev (aCons_ev (bindA_ev (aCons_ev (v0 rfl) a0) g2) a0) g3) a0) g4))
end

end DL

namespace DL
open PySem PySem.Spec PyProof.Rows L2
end DL

namespace DL
open PySem PySem.Spec PyProof.Rows L2
local macro_rules | `(tactic| walk_at "op") => `(tactic| first | assumption | with_reducible rfl | exact cat_w (by omega) | exact sub_nn (by omega) | exact add_nn | exact at_w (by omega) (by assumption) | exact len_w (by omega) | exact in_l1 | exact notin_l1 | exact in_t1 | exact notin_t1 | exact in_k1 | exact notin_k1 | exact in_wl | exact notin_wl | exact in_wt | exact notin_wt | exact in_kd | exact notin_kd | exact eq_ww | exact ne_ww | exact any_bl | exact all_bl | rfl)
local macro_rules | `(tactic| walk_at "ev") => `(tactic| first | with_reducible exact c0 | ((with_reducible apply v0); rfl) | with_reducible exact a0 | with_reducible assumption | ((with_reducible apply aCons_ev); (focus walk_at "ev"); (focus walk_at "ev")) | ((with_reducible apply bindA_ev); (focus walk_at "ev"); (focus walk_at "op")) | ((with_reducible apply bind2_ev); (focus walk_at "ev"); (focus walk_at "ev"); (focus walk_at "op")) | ((with_reducible apply bind1_ev); (focus walk_at "ev"); (focus walk_at "op")) | ((with_reducible apply asB_ev); (focus walk_at "ev")) | ((with_reducible apply call_ev); (focus walk_at "ev"); (focus first | assumption | rfl)) | ((with_reducible apply truF_ev); (focus walk_at "ev"); (focus first | assumption | rfl)) | ((with_reducible apply notT_ev); (focus walk_at "ev")) | ((with_reducible apply andT_e); (focus walk_at "ev"); (focus (intro hq; walk_at "ev"))) | ((with_reducible apply orT_e); (focus walk_at "ev"); (focus (intro hq; walk_at "ev"))) | ((with_reducible apply seq_tup); (focus walk_at "ev")) | ((with_reducible apply seq_lst); (focus walk_at "ev")) | ((with_reducible apply seq_str); (focus walk_at "ev")))
structure BIn (r a r' a' pre : List Nat) : Prop where
  nd : r'.Nodup
  sub : ∀ x ∈ r', x ∈ r ∨ x ∈ pre
  old : ∀ x ∈ r, x ∈ r'
  al : ∀ x ∈ pre, x ∈ r'
  aold : ∀ x ∈ a, x ∈ a'
  anew : ∀ x ∈ a', x ∈ a ∨ x ∈ r'
  rnew : ∀ x ∈ r', x ∈ r ∨ x ∈ a'
  len : a'.length + r.length = a.length + r'.length
theorem BIn.start {r a : List Nat} (h : r.Nodup) : BIn r a r a [] := ⟨h, fun x hx => .inl hx, fun x hx => hx, fun x hx => absurd hx List.not_mem_nil, fun x hx => hx, fun x hx => .inl hx, fun x hx => .inl hx, rfl⟩
theorem BIn.skip {r a r' a' pre : List Nat} {d : Nat} (h : BIn r a r' a' pre) (hd : d ∈ r') : BIn r a r' a' (pre ++ [d]) :=
  ⟨h.nd, fun x hx => (h.sub x hx).imp (fun z => z) fun z => List.mem_append_left _ z, h.old, fun x hx => (List.mem_append.mp hx).elim (h.al x) fun z => by rw [List.mem_singleton.mp z]; exact hd, h.aold, h.anew, h.rnew, h.len⟩
theorem BIn.take {r a r' a' pre : List Nat} {d : Nat} (h : BIn r a r' a' pre) (hd : d ∉ r') : BIn r a (r' ++ [d]) (a' ++ [d]) (pre ++ [d]) where
  nd := List.nodup_append.mpr ⟨h.nd, List.pairwise_singleton _ _, fun x hx y hy e => hd (by rw [List.mem_singleton.mp hy] at e; exact e ▸ hx)⟩
  sub := fun x hx => (List.mem_append.mp hx).elim (fun z => (h.sub x z).imp (fun z => z) fun z => List.mem_append_left _ z) fun z => .inr (List.mem_append_right _ z)
  old := fun x hx => List.mem_append_left _ (h.old x hx)
  al := fun x hx => (List.mem_append.mp hx).elim (fun z => List.mem_append_left _ (h.al x z)) fun z => List.mem_append_right _ z
  aold := fun x hx => List.mem_append_left _ (h.aold x hx)
  anew := fun x hx => (List.mem_append.mp hx).elim (fun z => (h.anew x z).imp (fun z => z) fun z => List.mem_append_left _ z) fun z => .inr (List.mem_append_right _ z)
  rnew := fun x hx => (List.mem_append.mp hx).elim (fun z => (h.rnew x z).imp (fun z => z) fun z => List.mem_append_left _ z) fun z => .inr (List.mem_append_right _ z)
  len := by have := h.len; rw [List.length_append, List.length_append, List.length_singleton]; omega
structure Bel (E : Ents) (c : Nat) (r a : List Nat) : Prop where
  nd : r.Nodup
  rr : ∀ x ∈ r, Rch E c x
  ra : ∀ x ∈ a, x = c ∨ x ∈ r
  on : ∀ x, x = c ∨ x ∈ r → x ∈ a ∨ ∀ d ∈ lesN E x, d ∈ r
theorem Bel.go {E : Ents} {c d : Nat} {r a r' a' : List Nat} (h : Bel E c r (a ++ [d])) (i : BIn r a r' a' (lesN E d)) : Bel E c r' a' where
  nd := i.nd
  rr := fun x hx => by
    rcases i.sub x hx with z | z
    · exact h.rr x z
    · rcases h.ra d (List.mem_append_right _ List.mem_cons_self) with rfl | hd
      · exact .one z
      · exact .more (h.rr d hd) z
  ra := fun x hx => by
    rcases i.anew x hx with z | z
    · exact (h.ra x (List.mem_append_left _ z)).imp (fun z => z) fun z => i.old x z
    · exact .inr z
  on := fun x hx => by
    have main : x = c ∨ x ∈ r → x ∈ a' ∨ ∀ d ∈ lesN E x, d ∈ r' := fun hx => by
      rcases h.on x hx with z | z
      · rcases List.mem_append.mp z with z | z
        · exact .inl (i.aold x z)
        · rw [List.mem_singleton.mp z]; exact .inr i.al
      · exact .inr fun d hd => i.old d (z d hd)
    rcases hx with hx | hx
    · exact main (.inl hx)
    · rcases i.rnew x hx with z | z
      · exact main (.inr z)
      · exact .inl z
theorem Bel.all {E : Ents} {c : Nat} {r : List Nat} (h : Bel E c r []) (x : Nat) : x ∈ r ↔ Rch E c x := by
  refine ⟨h.rr x, fun z => ?_⟩
  have cl : ∀ x, x = c ∨ x ∈ r → ∀ d ∈ lesN E x, d ∈ r := fun x hx => (h.on x hx).elim (fun z => absurd z List.not_mem_nil) fun z => z
  induction z with
  | one h => exact cl _ (.inl rfl) _ h
  | more _ h ih => exact cl _ (.inr ih) _ h
theorem Bel.start (E : Ents) (c : Nat) : Bel E c [] [c] := ⟨.nil, fun x hx => absurd hx List.not_mem_nil, fun x hx => .inl (List.mem_singleton.mp hx), fun x hx => .inl (hx.elim (fun e => List.mem_singleton.mpr e) fun z => absurd z List.not_mem_nil)⟩
section
variable {E : Ents} {s : Sto}
end

end DL

namespace DL
open PySem PySem.Spec PyProof.Rows L2
end DL

namespace DL
open PySem PySem.Spec PyProof.Rows L2
local macro_rules | `(tactic| walk_at "op") => `(tactic| first | assumption | with_reducible rfl | exact cat_w (by omega) | exact sub_nn (by omega) | exact add_nn | exact at_w (by omega) (by assumption) | exact len_w (by omega) | exact in_l1 | exact notin_l1 | exact in_t1 | exact notin_t1 | exact in_k1 | exact notin_k1 | exact in_wl | exact notin_wl | exact in_wt | exact notin_wt | exact in_kd | exact notin_kd | exact eq_ww | exact ne_ww | exact any_bl | exact all_bl | rfl)
local macro_rules | `(tactic| walk_at "ev") => `(tactic| first | with_reducible exact c0 | ((with_reducible apply v0); rfl) | with_reducible exact a0 | with_reducible assumption | ((with_reducible apply aCons_ev); (focus walk_at "ev"); (focus walk_at "ev")) | ((with_reducible apply bindA_ev); (focus walk_at "ev"); (focus walk_at "op")) | ((with_reducible apply bind2_ev); (focus walk_at "ev"); (focus walk_at "ev"); (focus walk_at "op")) | ((with_reducible apply bind1_ev); (focus walk_at "ev"); (focus walk_at "op")) | ((with_reducible apply asB_ev); (focus walk_at "ev")) | ((with_reducible apply call_ev); (focus walk_at "ev"); (focus first | assumption | rfl)) | ((with_reducible apply truF_ev); (focus walk_at "ev"); (focus first | assumption | rfl)) | ((with_reducible apply notT_ev); (focus walk_at "ev")) | ((with_reducible apply andT_e); (focus walk_at "ev"); (focus (intro hq; walk_at "ev"))) | ((with_reducible apply orT_e); (focus walk_at "ev"); (focus (intro hq; walk_at "ev"))) | ((with_reducible apply seq_tup); (focus walk_at "ev")) | ((with_reducible apply seq_lst); (focus walk_at "ev")) | ((with_reducible apply seq_str); (focus walk_at "ev")))
theorem while_rm {c : Ft} {F : Fs} (R : Nat → Env → Sto → Prop) (P : Out → Sto → Prop) (hs : ∀ n env s, R n env s → (c env s = some (false, s) ∧ P (.nx env) s) ∨ ∃ s1, c env s = some (true, s1) ∧ ((∃ e' s' m, F env s1 = some (.nx e', s') ∧ m < n ∧ R m e' s') ∨ ∃ d s', F env s1 = some (.rt d, s') ∧ P (.rt d) s')) :
    ∀ (n : Nat) (env : Env) (s : Sto), R n env s → ∃ o s', whileL c F (n + 1) env s = some (o, s') ∧ P o s' := by
  intro n
  induction n using Nat.strongRecOn with
  | ind n ih =>
    intro env s h
    rcases hs n env s h with ⟨h1, h2⟩ | ⟨s1, h1, ⟨e', s', m, h2, h3, h4⟩ | ⟨d, s', h2, h3⟩⟩
    · exact ⟨_, s, by unfold whileL; rw [h1], h2⟩
    · obtain ⟨e2, s2, h5, h6⟩ := ih m h3 e' s' h4
      refine ⟨e2, s2, ?_, h6⟩
      unfold whileL
      rw [h1]
      dsimp only
      rw [h2]
      exact whileL_mono h5 (by omega)
    · exact ⟨.rt d, s', by unfold whileL; rw [h1]; dsimp only; rw [h2], h3⟩
theorem while_r {c : Ft} {F : Fs} {n : Nat} {env : Env} {s : Sto} (R : Nat → Env → Sto → Prop) (P : Out → Sto → Prop) (h0 : R n env s) (hn : n < FUEL) (hs : ∀ n env s, R n env s → (c env s = some (false, s) ∧ P (.nx env) s) ∨ ∃ s1, c env s = some (true, s1) ∧ ((∃ e' s' m, F env s1 = some (.nx e', s') ∧ m < n ∧ R m e' s') ∨ ∃ d s', F env s1 = some (.rt d, s') ∧ P (.rt d) s')) :
    ∃ o s', whileS c F FUEL env s = some (o, s') ∧ P o s' := by
  obtain ⟨o, s', h1, h2⟩ := while_rm R P hs n env s h0
  exact ⟨o, s', whileL_mono h1 hn, h2⟩
def stepK (E : Ents) (x : List Nat) (k : Nat) : List (List Nat) := (x.take k ++ x.drop (k + 1)) :: (lesN E (x.getD k 0)).map fun d => x.take k ++ [d] ++ x.drop (k + 1)
def stepW (E : Ents) (x : List Nat) : List (List Nat) := (List.range x.length).flatMap (stepK E x)
theorem low_refl {E : Ents} (c : Nat) : LowP E c c := by show lowB E c c = true; unfold lowB; rw [decide_eq_true rfl]; rfl
theorem step_emb {E : Ents} (h : ClE E) {x y : List Nat} (hy : y ∈ stepW E x) : Emb (LowP E) y x := by
  obtain ⟨k, hk, hy⟩ := List.mem_flatMap.mp hy
  have hk' := List.mem_range.mp hk
  have e := split_at hk'
  have key : ∀ m, Emb (LowP E) m [x.getD k 0] → Emb (LowP E) (x.take k ++ m ++ x.drop (k + 1)) x := fun m hm => by
    have := ((Emb.refl low_refl (x.take k)).app hm).app (Emb.refl low_refl (x.drop (k + 1)))
    rw [← e] at this
    exact this
  rcases List.mem_cons.mp hy with rfl | hy
  · have := key [] (.nil _)
    rwa [List.append_nil] at this
  · obtain ⟨d, hd, rfl⟩ := List.mem_map.mp hy
    exact key [d] (.take ((lowP_iff h).mpr (.inr (.one hd))) (.nil _))
theorem step_at {E : Ents} {p v : List Nat} {c : Nat} : p ++ v ∈ stepW E (p ++ c :: v) ∧ ∀ d ∈ lesN E c, p ++ d :: v ∈ stepW E (p ++ c :: v) := by
  have hk : p.length ∈ List.range (p ++ c :: v).length := List.mem_range.mpr (by rw [List.length_append, List.length_cons]; omega)
  have e1 : (p ++ c :: v).take p.length = p := List.take_left
  have e2 : (p ++ c :: v).drop (p.length + 1) = v := by rw [List.drop_append]; simp
  have e3 : (p ++ c :: v).getD p.length 0 = c := by rw [List.getD_eq_getElem?_getD, List.getElem?_append_right (Nat.le_refl _), Nat.sub_self]; rfl
  refine ⟨List.mem_flatMap.mpr ⟨_, hk, ?_⟩, fun d hd => List.mem_flatMap.mpr ⟨_, hk, ?_⟩⟩
  · unfold stepK
    rw [e1, e2]
    exact List.mem_cons_self
  · unfold stepK
    rw [e1, e2, e3]
    refine List.mem_cons_of_mem _ (List.mem_map.mpr ⟨d, hd, ?_⟩)
    rw [List.append_assoc]; rfl
theorem closed_all {E : Ents} (h : ClE E) {K : List (List Nat)} (hK : ∀ x ∈ K, ∀ y ∈ stepW E x, y ∈ K) {u v : List Nat} (he : Emb (LowP E) u v) : ∀ {p : List Nat}, p ++ v ∈ K → p ++ u ∈ K := by
  induction he with
  | nil v =>
    induction v with
    | nil => exact fun h => h
    | cons c v ih => exact fun {p} hp => ih (hK _ hp _ step_at.1)
  | @skip c u v _ ih => exact fun {p} hp => ih (hK _ hp _ step_at.1)
  | @take a c u v q _ ih =>
    intro p hp
    have h1 : p ++ a :: v ∈ K := by
      rcases (lowP_iff h).mp q with rfl | z
      · exact hp
      · induction z with
        | one z => exact hK _ hp _ (step_at.2 _ z)
        | more _ z ih2 => exact hK _ (ih2 ((lowP_iff h).mpr (.inr (by assumption)))) _ (step_at.2 _ z)
    have h2 := ih (p := p ++ [a]) (by rw [List.append_assoc]; exact h1)
    rw [List.append_assoc] at h2
    exact h2
structure Wal (E : Ents) (w : List Nat) (K a : List (List Nat)) : Prop where
  nd : K.Nodup
  kk : ∀ x ∈ K, Emb (LowP E) x w
  aa : ∀ x ∈ a, Emb (LowP E) x w
  st : w ∈ K ∨ w ∈ a
  on : ∀ x ∈ K, ∀ y ∈ stepW E x, y ∈ K ∨ y ∈ a
theorem Wal.skip {E : Ents} {w x : List Nat} {K a : List (List Nat)} (h : Wal E w K (a ++ [x])) (hx : x ∈ K) : Wal E w K a where
  nd := h.nd
  kk := h.kk
  aa := fun y hy => h.aa y (List.mem_append_left _ hy)
  st := h.st.elim .inl fun z => (List.mem_append.mp z).elim .inr fun z => .inl (by rw [List.mem_singleton.mp z]; exact hx)
  on := fun y hy z hz => (h.on y hy z hz).elim .inl fun q => (List.mem_append.mp q).elim .inr fun q => .inl (by rw [List.mem_singleton.mp q]; exact hx)
theorem Wal.take {E : Ents} (hE : ClE E) {w x : List Nat} {K a : List (List Nat)} (h : Wal E w K (a ++ [x])) (hx : x ∉ K) : Wal E w (K ++ [x]) (a ++ stepW E x) where
  nd := List.nodup_append.mpr ⟨h.nd, List.pairwise_singleton _ _, fun y hy z hz e => hx (by rw [List.mem_singleton.mp hz] at e; exact e ▸ hy)⟩
  kk := fun y hy => (List.mem_append.mp hy).elim (h.kk y) fun z => by rw [List.mem_singleton.mp z]; exact h.aa x (List.mem_append_right _ List.mem_cons_self)
  aa := fun y hy => (List.mem_append.mp hy).elim (fun z => h.aa y (List.mem_append_left _ z)) fun z => Emb.trans (P := LowP E) (fun h1 h2 => lowP_trans hE h1 h2) (step_emb hE z) (h.aa x (List.mem_append_right _ List.mem_cons_self))
  st := h.st.elim (fun z => .inl (List.mem_append_left _ z)) fun z => (List.mem_append.mp z).elim (fun z => .inr (List.mem_append_left _ z)) fun z => .inl (List.mem_append_right _ z)
  on := fun y hy z hz => by
    rcases List.mem_append.mp hy with q | q
    · rcases h.on y q z hz with r | r
      · exact .inl (List.mem_append_left _ r)
      · rcases List.mem_append.mp r with r | r
        · exact .inr (List.mem_append_left _ r)
        · exact .inl (List.mem_append_right _ r)
    · rw [List.mem_singleton.mp q] at hz
      exact .inr (List.mem_append_right _ hz)
theorem Wal.all {E : Ents} (hE : ClE E) {w : List Nat} {K : List (List Nat)} (h : Wal E w K []) (y : List Nat) : y ∈ K ↔ y ∈ tamN E w := by
  rw [tam_mem]
  refine ⟨h.kk y, fun z => ?_⟩
  have hw : w ∈ K := h.st.elim (fun z => z) fun z => absurd z List.not_mem_nil
  exact closed_all hE (fun x hx y hy => (h.on x hx y hy).elim (fun z => z) fun z => absurd z List.not_mem_nil) z (p := []) hw
theorem Wal.few {E : Ents} {w : List Nat} {K a : List (List Nat)} (h : Wal E w K a) : K.length ≤ (tamN E w).length := by
  have key : ∀ {l m : List (List Nat)}, l.Nodup → (∀ x ∈ l, x ∈ m) → l.length ≤ m.length := by
    intro l
    induction l with
    | nil => exact fun _ _ => Nat.zero_le _
    | cons x l ih =>
      intro m h hs
      obtain ⟨h1, h2⟩ := List.nodup_cons.mp h
      have ih := ih (m := m.erase x) h2 fun y hy => (List.mem_erase_of_ne (fun e => h1 (by rw [← e]; exact hy))).mpr (hs y (List.mem_cons_of_mem _ hy))
      have hx := hs x List.mem_cons_self
      have := List.length_erase_of_mem hx
      have := List.length_pos_of_mem hx
      rw [List.length_cons]
      omega
  exact key h.nd fun x hx => (tam_mem w).mpr (h.kk x hx)

theorem words_snoc (a : List (List Nat)) (x : List Nat) : a.map wd ++ [wd x] = (a ++ [x]).map wd := by rw [List.map_append]; rfl
section
variable {E : Ents} {s : Sto}
end

end DL

namespace DL
open PySem PySem.Spec PyProof.Rows L2
local macro_rules | `(tactic| walk_at "op") => `(tactic| first | assumption | with_reducible rfl | exact cat_w (by omega) | exact sub_nn (by omega) | exact add_nn | exact at_w (by omega) (by assumption) | exact len_w (by omega) | exact in_l1 | exact notin_l1 | exact in_t1 | exact notin_t1 | exact in_k1 | exact notin_k1 | exact in_wl | exact notin_wl | exact in_wt | exact notin_wt | exact in_kd | exact notin_kd | exact eq_ww | exact ne_ww | exact any_bl | exact all_bl | rfl)
local macro_rules | `(tactic| walk_at "ev") => `(tactic| first | with_reducible exact c0 | ((with_reducible apply v0); rfl) | with_reducible exact a0 | with_reducible assumption | ((with_reducible apply aCons_ev); (focus walk_at "ev"); (focus walk_at "ev")) | ((with_reducible apply bindA_ev); (focus walk_at "ev"); (focus walk_at "op")) | ((with_reducible apply bind2_ev); (focus walk_at "ev"); (focus walk_at "ev"); (focus walk_at "op")) | ((with_reducible apply bind1_ev); (focus walk_at "ev"); (focus walk_at "op")) | ((with_reducible apply asB_ev); (focus walk_at "ev")) | ((with_reducible apply call_ev); (focus walk_at "ev"); (focus first | assumption | rfl)) | ((with_reducible apply truF_ev); (focus walk_at "ev"); (focus first | assumption | rfl)) | ((with_reducible apply notT_ev); (focus walk_at "ev")) | ((with_reducible apply andT_e); (focus walk_at "ev"); (focus (intro hq; walk_at "ev"))) | ((with_reducible apply orT_e); (focus walk_at "ev"); (focus (intro hq; walk_at "ev"))) | ((with_reducible apply seq_tup); (focus walk_at "ev")) | ((with_reducible apply seq_lst); (focus walk_at "ev")) | ((with_reducible apply seq_str); (focus walk_at "ev")))
section
variable {E : Ents} {s : Sto}
theorem emb_let (hE : ClE E) {u v : List Nat} (h : Emb (LowP E) u v) (hv : ∀ c ∈ v, c ∈ E.map (·.1)) : ∀ c ∈ u, c ∈ E.map (·.1) := by
  induction h with
  | nil v => exact fun c hc => absurd hc List.not_mem_nil
  | skip _ ih => exact ih fun c hc => hv c (List.mem_cons_of_mem _ hc)
  | take p _ ih =>
    intro c hc
    rcases List.mem_cons.mp hc with rfl | hc
    · rcases (lowP_iff hE).mp p with rfl | z
      · exact hv _ List.mem_cons_self
      · exact hE.rch z
    · exact ih (fun c hc => hv c (List.mem_cons_of_mem _ hc)) c hc
theorem ne_wordsL {s : Sto} {a : List (List Nat)} (h : ∀ x ∈ a, lowc x) : neG s (.lst (a.map wd)) (.lst []) = some (.bl (!a.isEmpty)) := ne_wds (l := a) (f := fun x => x) h
end

end DL

namespace DL
open PySem PySem.Spec PyProof.Rows L2
local macro_rules | `(tactic| walk_at "op") => `(tactic| first | assumption | with_reducible rfl | exact cat_w (by omega) | exact sub_nn (by omega) | exact add_nn | exact at_w (by omega) (by assumption) | exact len_w (by omega) | exact in_l1 | exact notin_l1 | exact in_t1 | exact notin_t1 | exact in_k1 | exact notin_k1 | exact in_wl | exact notin_wl | exact in_wt | exact notin_wt | exact in_kd | exact notin_kd | exact eq_ww | exact ne_ww | exact any_bl | exact all_bl | rfl)
local macro_rules | `(tactic| walk_at "ev") => `(tactic| first | with_reducible exact c0 | ((with_reducible apply v0); rfl) | with_reducible exact a0 | with_reducible assumption | ((with_reducible apply aCons_ev); (focus walk_at "ev"); (focus walk_at "ev")) | ((with_reducible apply bindA_ev); (focus walk_at "ev"); (focus walk_at "op")) | ((with_reducible apply bind2_ev); (focus walk_at "ev"); (focus walk_at "ev"); (focus walk_at "op")) | ((with_reducible apply bind1_ev); (focus walk_at "ev"); (focus walk_at "op")) | ((with_reducible apply asB_ev); (focus walk_at "ev")) | ((with_reducible apply call_ev); (focus walk_at "ev"); (focus first | assumption | rfl)) | ((with_reducible apply truF_ev); (focus walk_at "ev"); (focus first | assumption | rfl)) | ((with_reducible apply notT_ev); (focus walk_at "ev")) | ((with_reducible apply andT_e); (focus walk_at "ev"); (focus (intro hq; walk_at "ev"))) | ((with_reducible apply orT_e); (focus walk_at "ev"); (focus (intro hq; walk_at "ev"))) | ((with_reducible apply seq_tup); (focus walk_at "ev")) | ((with_reducible apply seq_lst); (focus walk_at "ev")) | ((with_reducible apply seq_str); (focus walk_at "ev")))
theorem Emb.last {P : Nat → Nat → Prop} {u : List Nat} {a : Nat} (w : List Nat) : Emb P (u ++ [a]) w ↔ ∃ j, j < w.length ∧ P a (w.getD j 0) ∧ Emb P u (w.take j) := by
  refine list_snoc (p := fun w => Emb P (u ++ [a]) w ↔ ∃ j, j < w.length ∧ P a (w.getD j 0) ∧ Emb P u (w.take j)) ?_ (fun w c ih => ?_) w
  · constructor
    · intro h
      have := h.len
      rw [List.length_append, List.length_singleton] at this
      simp only [List.length_nil] at this
      omega
    · rintro ⟨j, h, _⟩
      exact absurd h (Nat.not_lt_zero _)
  · rw [Emb.snoc, ih]
    constructor
    · rintro (⟨j, h1, h2, h3⟩ | ⟨t, b, e, h, p⟩)
      · refine ⟨j, by rw [List.length_append]; omega, ?_, ?_⟩
        · rw [List.getD_eq_getElem?_getD, List.getElem?_append_left h1, ← List.getD_eq_getElem?_getD]; exact h2
        · rw [List.take_append_of_le_length (by omega)]; exact h3
      · have e2 := List.append_inj' e rfl
        obtain ⟨rfl, e3⟩ := e2
        cases e3
        refine ⟨w.length, by rw [List.length_append, List.length_singleton]; omega, ?_, ?_⟩
        · rw [List.getD_eq_getElem?_getD, List.getElem?_append_right (Nat.le_refl _), Nat.sub_self]; exact p
        · rw [List.take_append_of_le_length (Nat.le_refl _), List.take_length]; exact h
    · rintro ⟨j, h1, h2, h3⟩
      rw [List.length_append, List.length_singleton] at h1
      by_cases hj : j < w.length
      · refine .inl ⟨j, hj, ?_, ?_⟩
        · rw [List.getD_eq_getElem?_getD, List.getElem?_append_left hj, ← List.getD_eq_getElem?_getD] at h2; exact h2
        · rw [List.take_append_of_le_length (by omega)] at h3; exact h3
      · have hj' : j = w.length := by omega
        subst hj'
        refine .inr ⟨u, a, rfl, ?_, ?_⟩
        · rw [List.take_append_of_le_length (Nat.le_refl _), List.take_length] at h3; exact h3
        · rw [List.getD_eq_getElem?_getD, List.getElem?_append_right (Nat.le_refl _), Nat.sub_self] at h2; exact h2
def condN (E : Ents) (v : List Nat) (a : Nat) (S : List Nat) (k : Nat) : Bool := lowB E a (v.getD k 0) && !(S.filter fun q => decide (q ≤ k)).isEmpty
def nextN (E : Ents) (v : List Nat) (a : Nat) (S : List Nat) : List Nat := ((List.range v.length).filter (condN E v a S)).map (· + 1)
structure Spt (E : Ents) (v u S : List Nat) : Prop where
  at_ : ∀ k, k ≤ v.length → ((∃ q ∈ S, q ≤ k) ↔ Emb (LowP E) u (v.take k))
  le : ∀ q ∈ S, q ≤ v.length
theorem filt_ne {S : List Nat} {k : Nat} : (!(S.filter fun q => decide (q ≤ k)).isEmpty) = true ↔ ∃ q ∈ S, q ≤ k := by
  rw [Bool.not_eq_true', List.isEmpty_eq_false_iff]
  constructor
  · intro h
    obtain ⟨q, hq⟩ := List.exists_mem_of_ne_nil _ h
    exact ⟨q, (List.mem_filter.mp hq).1, of_decide_eq_true (List.mem_filter.mp hq).2⟩
  · rintro ⟨q, h1, h2⟩ h
    have : q ∈ S.filter fun q => decide (q ≤ k) := List.mem_filter.mpr ⟨h1, decide_eq_true h2⟩
    rw [h] at this
    exact absurd this List.not_mem_nil
theorem Spt.next {E : Ents} {v u S : List Nat} (h : Spt E v u S) (a : Nat) : Spt E v (u ++ [a]) (nextN E v a S) where
  at_ := fun k hk => by
    rw [Emb.last]
    unfold nextN
    constructor
    · rintro ⟨q, hq, hqk⟩
      obtain ⟨j, hj, rfl⟩ := List.mem_map.mp hq
      obtain ⟨hj1, hj2⟩ := List.mem_filter.mp hj
      have hj1 := List.mem_range.mp hj1
      unfold condN at hj2
      rw [Bool.and_eq_true, filt_ne] at hj2
      refine ⟨j, by rw [List.length_take]; omega, ?_, ?_⟩
      · rw [List.getD_eq_getElem?_getD, List.getElem?_take_of_lt (by omega), ← List.getD_eq_getElem?_getD]; exact hj2.1
      · rw [List.take_take, Nat.min_eq_left (by omega)]; exact (h.at_ j (by omega)).mp hj2.2
    · rintro ⟨j, h1, h2, h3⟩
      rw [List.length_take] at h1
      rw [List.getD_eq_getElem?_getD, List.getElem?_take_of_lt (by omega), ← List.getD_eq_getElem?_getD] at h2
      rw [List.take_take, Nat.min_eq_left (by omega)] at h3
      refine ⟨j + 1, List.mem_map.mpr ⟨j, List.mem_filter.mpr ⟨List.mem_range.mpr (by omega), ?_⟩, rfl⟩, by omega⟩
      unfold condN
      rw [Bool.and_eq_true, filt_ne]
      exact ⟨h2, (h.at_ j (by omega)).mpr h3⟩
  le := fun q hq => by
    obtain ⟨j, hj, rfl⟩ := List.mem_map.mp hq
    have := List.mem_range.mp (List.mem_filter.mp hj).1
    omega
section
variable {E : Ents} {s : Sto}
end

end DL

namespace DL
open PySem PySem.Spec PyProof.Rows L2
local macro_rules | `(tactic| walk_at "op") => `(tactic| first | assumption | with_reducible rfl | exact cat_w (by omega) | exact sub_nn (by omega) | exact add_nn | exact at_w (by omega) (by assumption) | exact len_w (by omega) | exact in_l1 | exact notin_l1 | exact in_t1 | exact notin_t1 | exact in_k1 | exact notin_k1 | exact in_wl | exact notin_wl | exact in_wt | exact notin_wt | exact in_kd | exact notin_kd | exact eq_ww | exact ne_ww | exact any_bl | exact all_bl | rfl)
local macro_rules | `(tactic| walk_at "ev") => `(tactic| first | with_reducible exact c0 | ((with_reducible apply v0); rfl) | with_reducible exact a0 | with_reducible assumption | ((with_reducible apply aCons_ev); (focus walk_at "ev"); (focus walk_at "ev")) | ((with_reducible apply bindA_ev); (focus walk_at "ev"); (focus walk_at "op")) | ((with_reducible apply bind2_ev); (focus walk_at "ev"); (focus walk_at "ev"); (focus walk_at "op")) | ((with_reducible apply bind1_ev); (focus walk_at "ev"); (focus walk_at "op")) | ((with_reducible apply asB_ev); (focus walk_at "ev")) | ((with_reducible apply call_ev); (focus walk_at "ev"); (focus first | assumption | rfl)) | ((with_reducible apply truF_ev); (focus walk_at "ev"); (focus first | assumption | rfl)) | ((with_reducible apply notT_ev); (focus walk_at "ev")) | ((with_reducible apply andT_e); (focus walk_at "ev"); (focus (intro hq; walk_at "ev"))) | ((with_reducible apply orT_e); (focus walk_at "ev"); (focus (intro hq; walk_at "ev"))) | ((with_reducible apply seq_tup); (focus walk_at "ev")) | ((with_reducible apply seq_lst); (focus walk_at "ev")) | ((with_reducible apply seq_str); (focus walk_at "ev")))
structure OkD (W D : Nat) (d : Dt) : Prop where
  g : good d = true
  w : wt d ≤ W
  d : dep d ≤ D
theorem okds {W D : Nat} : ∀ {ds : List Dt}, (∀ d ∈ ds, OkD W D d) → goods ds = true ∧ wts ds ≤ ds.length * (W + 2) ∧ deps ds ≤ D
  | [], _ => ⟨rfl, Nat.zero_le _, Nat.zero_le _⟩
  | d :: ds, h => by
    obtain ⟨a1, a2, a3⟩ := h d List.mem_cons_self
    obtain ⟨b1, b2, b3⟩ := okds (ds := ds) fun y hy => h y (List.mem_cons_of_mem _ hy)
    refine ⟨?_, ?_, ?_⟩
    · show (good d && goods ds) = true
      rw [a1, b1]; rfl
    · show wt d + 2 + wts ds ≤ _
      rw [List.length_cons, Nat.succ_mul]; omega
    · show max (dep d) (deps ds) ≤ D
      exact Nat.max_le.mpr ⟨a3, b3⟩
theorem OkD.tup {W D n : Nat} {ds : List Dt} (h : ∀ d ∈ ds, OkD W D d) (hn : ds.length ≤ n) : OkD (n * (W + 2) + 3) (D + 1) (.tup ds) := by
  obtain ⟨h1, h2, h3⟩ := okds h
  have := Nat.mul_le_mul_right (W + 2) hn
  exact ⟨h1, by show wts ds + 3 ≤ _; omega, Nat.succ_le_succ h3⟩
theorem OkD.lst {W D n : Nat} {ds : List Dt} (h : ∀ d ∈ ds, OkD W D d) (hn : ds.length ≤ n) : OkD (n * (W + 2) + 3) (D + 1) (.lst ds) := by
  obtain ⟨h1, h2, h3⟩ := okds h
  have := Nat.mul_le_mul_right (W + 2) hn
  exact ⟨h1, by show wts ds + 2 ≤ _; omega, Nat.succ_le_succ h3⟩
theorem OkD.mono {W D W' D' : Nat} {d : Dt} (h : OkD W D d) (h1 : W ≤ W') (h2 : D ≤ D') : OkD W' D' d := ⟨h.g, Nat.le_trans h.w h1, Nat.le_trans h.d h2⟩
theorem okd_wd {w : List Nat} (h : lowc w) {n : Nat} (hn : w.length ≤ n) : OkD (10 * n + 2) 0 (wd w) := ⟨wd_good h, by rw [wd_wt]; omega, Nat.le_refl _⟩
theorem OkD.repr {W D : Nat} {d : Dt} (h : OkD W D d) (hW : W ≤ 16777216) (hD : D ≤ 60) (s : Sto) : reprG s [d] = some (.str (showD d)) := if_pos ⟨h.g, Nat.le_trans h.w hW, Nat.le_trans h.d hD⟩
theorem OkD.shaped {W D : Nat} {d : Dt} (h : OkD W D d) (hD : D ≤ 60) : plain d = true ∧ SeqAt.shaped (py d) = true := by
  obtain ⟨p1, p2, _, _, p5⟩ := good_plain d h.g
  have := h.d
  refine ⟨p1, ?_⟩
  unfold SeqAt.shaped
  rw [p2, p5]
  exact decide_eq_true (by omega)
theorem ne_str (s : Sto) (x : Str) : neG s (.str x) (.str x) = some (.bl false) := by
  show some (Dt.bl (!decide (x = x))) = _
  rw [decide_eq_true rfl]; rfl
theorem log_small {n : Nat} (h : n ≤ 100) : ((n : Int)).natAbs.log2 ≤ 7 := log_le (by omega)
theorem ru_okR {L : List Nat} {r : Ru} (h : ruL L r) (hlo : ∀ c ∈ L, 97 ≤ c ∧ c ≤ 122) : okR r = true ∧ lowRb r = true := by
  cases r with
  | drop n l => exact ⟨decide_eq_true (by have := h.2; omega), rfl⟩
  | half l => exact ⟨rfl, rfl⟩
  | empty => exact ⟨rfl, rfl⟩
  | lower l => exact ⟨rfl, rfl⟩
  | put c v l =>
    obtain ⟨h1, h2, _, h4⟩ := h
    refine ⟨decide_eq_true (by omega), ?_⟩
    unfold lowRb
    rw [List.all_eq_true]
    intro a ha
    refine decide_eq_true ?_
    rcases List.mem_cons.mp ha with rfl | ha
    · exact hlo a h1
    · exact hlo a (h2 a ha)
theorem Page.cl {M R : Nat} {L : List Nat} {E : Ents} {rs : List Ru} (h : Page M R L E rs) (hM : M ≤ 8) : ClE (sortE E) := cl_of h.row h.nd (Nat.le_trans h.n hM) h.lo
theorem Page.okR {M R : Nat} {L : List Nat} {E : Ents} {rs : List Ru} (h : Page M R L E rs) : ∀ r ∈ rs, DL.okR r = true ∧ lowRb r = true := fun r hr => ru_okR (h.ru r hr) h.lo
theorem Page.len {M R : Nat} {L : List Nat} {E : Ents} {rs : List Ru} (h : Page M R L E rs) : (sortE E).length = L.length := by
  have := congrArg List.length h.row.fst
  rw [List.length_map] at this
  rw [(sortE_perm E).length_eq, this]
theorem Page.fst {M R : Nat} {L : List Nat} {E : Ents} {rs : List Ru} (h : Page M R L E rs) (c : Nat) : c ∈ (sortE E).map (·.1) ↔ c ∈ L := by
  rw [((sortE_perm E).map _).mem_iff, h.row.fst]

end DL

namespace DL
open PySem PySem.Spec PyProof.Rows L2
local macro_rules | `(tactic| walk_at "op") => `(tactic| first | assumption | with_reducible rfl | exact cat_w (by omega) | exact sub_nn (by omega) | exact add_nn | exact at_w (by omega) (by assumption) | exact len_w (by omega) | exact in_l1 | exact notin_l1 | exact in_t1 | exact notin_t1 | exact in_k1 | exact notin_k1 | exact in_wl | exact notin_wl | exact in_wt | exact notin_wt | exact in_kd | exact notin_kd | exact eq_ww | exact ne_ww | exact any_bl | exact all_bl | rfl)
local macro_rules | `(tactic| walk_at "ev") => `(tactic| first | with_reducible exact c0 | ((with_reducible apply v0); rfl) | with_reducible exact a0 | with_reducible assumption | ((with_reducible apply aCons_ev); (focus walk_at "ev"); (focus walk_at "ev")) | ((with_reducible apply bindA_ev); (focus walk_at "ev"); (focus walk_at "op")) | ((with_reducible apply bind2_ev); (focus walk_at "ev"); (focus walk_at "ev"); (focus walk_at "op")) | ((with_reducible apply bind1_ev); (focus walk_at "ev"); (focus walk_at "op")) | ((with_reducible apply asB_ev); (focus walk_at "ev")) | ((with_reducible apply call_ev); (focus walk_at "ev"); (focus first | assumption | rfl)) | ((with_reducible apply truF_ev); (focus walk_at "ev"); (focus first | assumption | rfl)) | ((with_reducible apply notT_ev); (focus walk_at "ev")) | ((with_reducible apply andT_e); (focus walk_at "ev"); (focus (intro hq; walk_at "ev"))) | ((with_reducible apply orT_e); (focus walk_at "ev"); (focus (intro hq; walk_at "ev"))) | ((with_reducible apply seq_tup); (focus walk_at "ev")) | ((with_reducible apply seq_lst); (focus walk_at "ev")) | ((with_reducible apply seq_str); (focus walk_at "ev")))
def wE (f : Fe) (env : Env) (s : Sto) (Q : Dt → Sto → Prop) : Prop := ∃ d s', f env s = some (d, s') ∧ Q d s'
def wA (f : Fa) (env : Env) (s : Sto) (Q : List Dt → Sto → Prop) : Prop := ∃ d s', f env s = some (d, s') ∧ Q d s'
def wI (f : Fi) (env : Env) (s : Sto) (Q : List Dt → Sto → Prop) : Prop := ∃ d s', f env s = some (d, s') ∧ Q d s'
def wT (f : Ft) (env : Env) (s : Sto) (Q : Bool → Sto → Prop) : Prop := ∃ d s', f env s = some (d, s') ∧ Q d s'
def wO (f : Fo) (env : Env) (s : Sto) (Q : Option Int → Sto → Prop) : Prop := ∃ d s', f env s = some (d, s') ∧ Q d s'
def wF (F : List Dt → Sto → Option (Dt × Sto)) (ds : List Dt) (s : Sto) (Q : Dt → Sto → Prop) : Prop := ∃ d s', F ds s = some (d, s') ∧ Q d s'
def wS (F : Fs) (env : Env) (s : Sto) (N : Env → Sto → Prop) (R : Dt → Sto → Prop) : Prop := ∃ o s', F env s = some (o, s') ∧ ((∃ e, o = .nx e ∧ N e s') ∨ ∃ d, o = .rt d ∧ R d s')
section
variable {f g fa fb fc : Fe} {c c2 : Ft} {A B : Fs} {r : Fa} {env : Env} {s s' : Sto} {d x : Dt} {i j k m : Nat} {Q : Dt → Sto → Prop} {QA : List Dt → Sto → Prop} {QT : Bool → Sto → Prop} {N : Env → Sto → Prop} {R : Dt → Sto → Prop} {Fn : List Dt → Sto → Option (Dt × Sto)} {ds : List Dt}
theorem wE_imp {Q' : Dt → Sto → Prop} (h : wE f env s Q) (k : ∀ d s', Q d s' → Q' d s') : wE f env s Q' := let ⟨d, s', e, q⟩ := h; ⟨d, s', e, k d s' q⟩
theorem wF_eq (h : Fn ds s = some (d, s')) (q : Q d s') : wF Fn ds s Q := ⟨d, s', h, q⟩
theorem wE_eq (h : f env s = some (d, s')) (q : Q d s') : wE f env s Q := ⟨d, s', h, q⟩
theorem wF_out (h : wF Fn ds s fun d' s'' => d' = d ∧ s'' = s') : Fn ds s = some (d, s') := by obtain ⟨_, _, e, rfl, rfl⟩ := h; exact e
theorem wE_out (h : wE f env s fun d' s'' => d' = d ∧ s'' = s') : f env s = some (d, s') := by obtain ⟨_, _, e, rfl, rfl⟩ := h; exact e
theorem wF_fn {F : Fs} (h : wS F (ds.map some ++ List.replicate (m - ds.length) none) s (fun _ s' => Q .non s') Q) : wF (fnV m F) ds s Q := by
  obtain ⟨o, s', e, ⟨e', rfl, q⟩ | ⟨d, rfl, q⟩⟩ := h
  · exact ⟨_, s', fn_nx e, q⟩
  · exact ⟨_, s', fn_rt e, q⟩
theorem wE_v (h : env[i]? = some (some d)) (q : Q d s) : wE (fVar i) env s Q := ⟨d, s, v0 h, q⟩
theorem wE_c (q : Q d s) : wE (fC d) env s Q := ⟨d, s, rfl, q⟩
theorem wE_b2 {g : Sto → Dt → Dt → Option Dt} (h : wE fa env s fun x s1 => wE fb env s1 fun y s2 => ∃ z, g s2 x y = some z ∧ Q z s2) : wE (bind2 fa fb g) env s Q := by
  obtain ⟨x, s1, e1, y, s2, e2, z, e3, q⟩ := h
  exact ⟨z, s2, bind2_ev e1 e2 e3, q⟩
theorem wE_b1 {g : Sto → Dt → Option Dt} (h : wE fa env s fun x s1 => ∃ z, g s1 x = some z ∧ Q z s1) : wE (bind1 fa g) env s Q := by
  obtain ⟨x, s1, e1, z, e3, q⟩ := h
  exact ⟨z, s1, bind1_ev e1 e3, q⟩
theorem wE_bA {g : Sto → List Dt → Option Dt} (h : wA r env s fun x s1 => ∃ z, g s1 x = some z ∧ Q z s1) : wE (bindA r g) env s Q := by
  obtain ⟨x, s1, e1, z, e3, q⟩ := h
  exact ⟨z, s1, bindA_ev e1 e3, q⟩
theorem wE_bS {l h : Fo} {g : Sto → Dt → Option Int → Option Int → Option Dt} (w : wE fa env s fun x s1 => wO l env s1 fun a s2 => wO h env s2 fun b s3 => ∃ z, g s3 x a b = some z ∧ Q z s3) : wE (bindS fa l h g) env s Q := by
  obtain ⟨x, s1, e1, a, s2, e2, b, s3, e3, z, e4, q⟩ := w
  refine ⟨z, s3, ?_, q⟩
  unfold bindS
  rw [e1]; simp only [Option.bind_eq_bind, Option.bind_some]; rw [e2]; simp only [Option.bind_some]; rw [e3]; simp only [Option.bind_some]; rw [e4]; rfl
theorem wO_n {Q : Option Int → Sto → Prop} (q : Q none s) : wO oNone env s Q := ⟨none, s, rfl, q⟩
theorem wO_s {Q : Option Int → Sto → Prop} (h : wE f env s fun d s' => ∃ i, d = .int i ∧ Q (some i) s') : wO (oSome f) env s Q := by
  obtain ⟨d, s', e, i, rfl, q⟩ := h
  exact ⟨some i, s', by unfold oSome; rw [e], q⟩
theorem wA_n (q : QA [] s) : wA aNil env s QA := ⟨[], s, rfl, q⟩
theorem wA_c (h : wE f env s fun x s1 => wA r env s1 fun xs s2 => QA (x :: xs) s2) : wA (aCons f r) env s QA := by
  obtain ⟨x, s1, e1, xs, s2, e2, q⟩ := h
  exact ⟨_, s2, aCons_ev e1 e2, q⟩
theorem wE_call (h : wA r env s fun ds s1 => wF Fn ds s1 Q) : wE (callF Fn r) env s Q := by
  obtain ⟨x, s1, e1, d, s2, e2, q⟩ := h
  exact ⟨d, s2, call_ev e1 e2, q⟩
theorem wT_asB (h : wE f env s fun d s' => ∃ b, d = .bl b ∧ QT b s') : wT (asB f) env s QT := by
  obtain ⟨d, s', e, b, rfl, q⟩ := h
  exact ⟨b, s', asB_ev e, q⟩
theorem wT_tru (h : wE f env s fun d s' => ∃ b, truA s' d = some b ∧ QT b s') : wT (truF f) env s QT := by
  obtain ⟨d, s', e, b, e2, q⟩ := h
  exact ⟨b, s', truF_ev e e2, q⟩
theorem wT_not (h : wT c env s fun b s' => QT (!b) s') : wT (notT c) env s QT := by
  obtain ⟨b, s', e, q⟩ := h
  exact ⟨!b, s', notT_ev e, q⟩
theorem wT_and (h : wT c env s fun b s' => (b = true → wT c2 env s' QT) ∧ (b = false → QT false s')) : wT (andT c c2) env s QT := by
  obtain ⟨b, s', e, h1, h2⟩ := h
  cases b with
  | true =>
    obtain ⟨b, s2, e2, q⟩ := h1 rfl
    exact ⟨b, s2, by unfold andT; rw [e]; simpa using e2, q⟩
  | false => exact ⟨false, s', by unfold andT; rw [e]; rfl, h2 rfl⟩
theorem wT_or (h : wT c env s fun b s' => (b = true → QT true s') ∧ (b = false → wT c2 env s' QT)) : wT (orT c c2) env s QT := by
  obtain ⟨b, s', e, h1, h2⟩ := h
  cases b with
  | false =>
    obtain ⟨b, s2, e2, q⟩ := h2 rfl
    exact ⟨b, s2, by unfold orT; rw [e]; simpa using e2, q⟩
  | true => exact ⟨true, s', by unfold orT; rw [e]; rfl, h1 rfl⟩
theorem wT_yes (q : QT true s) : wT yesT env s QT := ⟨true, s, rfl, q⟩
theorem wE_and (h : wE f env s fun d s' => ∃ b, truB s' d = some b ∧ (b = true → wE g env s' Q) ∧ (b = false → Q d s')) : wE (andV f g) env s Q := by
  obtain ⟨d, s', e, b, e2, h1, h2⟩ := h
  cases b with
  | true =>
    obtain ⟨y, s2, e3, q⟩ := h1 rfl
    exact ⟨y, s2, by unfold andV; rw [e]; simp only [Option.bind_eq_bind, Option.bind_some]; rw [e2]; simpa using e3, q⟩
  | false => exact ⟨d, s', by unfold andV; rw [e]; simp only [Option.bind_eq_bind, Option.bind_some]; rw [e2]; rfl, h2 rfl⟩
theorem wE_or (h : wE f env s fun d s' => ∃ b, truB s' d = some b ∧ (b = true → Q d s') ∧ (b = false → wE g env s' Q)) : wE (orV f g) env s Q := by
  obtain ⟨d, s', e, b, e2, h1, h2⟩ := h
  cases b with
  | false =>
    obtain ⟨y, s2, e3, q⟩ := h2 rfl
    exact ⟨y, s2, by unfold orV; rw [e]; simp only [Option.bind_eq_bind, Option.bind_some]; rw [e2]; simpa using e3, q⟩
  | true => exact ⟨d, s', by unfold orV; rw [e]; simp only [Option.bind_eq_bind, Option.bind_some]; rw [e2]; rfl, h1 rfl⟩
theorem wE_if (h : wT c env s fun b s' => (b = true → wE f env s' Q) ∧ (b = false → wE g env s' Q)) : wE (ifV c f g) env s Q := by
  obtain ⟨b, s', e, h1, h2⟩ := h
  cases b with
  | true => obtain ⟨d, s2, e2, q⟩ := h1 rfl; exact ⟨d, s2, (ifV_t e).trans e2, q⟩
  | false => obtain ⟨d, s2, e2, q⟩ := h2 rfl; exact ⟨d, s2, (ifV_f e).trans e2, q⟩
theorem wS_seq (h : wS A env s (fun e s' => wS B e s' N R) R) : wS (seqS A B) env s N R := by
  obtain ⟨o, s', e, ⟨e', rfl, o2, s2, e2, q⟩ | ⟨d, rfl, q⟩⟩ := h
  · exact ⟨o2, s2, (seq_nx e).trans e2, q⟩
  · exact ⟨.rt d, s', seq_rt e, .inr ⟨d, rfl, q⟩⟩
theorem wS_skip (h : N env s) : wS skipS env s N R := ⟨.nx env, s, rfl, .inl ⟨env, rfl, h⟩⟩
theorem wS_set (h : wE f env s fun d s' => N (env.set i (some d)) s') : wS (setS i f) env s N R := by
  obtain ⟨d, s', e, q⟩ := h
  exact ⟨_, s', set_ev e, .inl ⟨_, rfl, q⟩⟩
theorem wS_setN (hi : i < env.length) (h : wE f env s fun d s' => N (env.set i (some d)) s') : wS (setNS i f) env s N R := by
  obtain ⟨d, s', e, q⟩ := h
  exact ⟨_, s', setN_ev hi e, .inl ⟨_, rfl, q⟩⟩
theorem wS_ret (h : wE f env s R) : wS (retS f) env s N R := by
  obtain ⟨d, s', e, q⟩ := h
  exact ⟨_, s', ret_ev e, .inr ⟨_, rfl, q⟩⟩
theorem wS_drop (h : wE f env s fun _ s' => N env s') : wS (dropS f) env s N R := by
  obtain ⟨d, s', e, q⟩ := h
  exact ⟨_, s', dropS_ev e, .inl ⟨_, rfl, q⟩⟩
theorem wS_if (h : wT c env s fun b s' => (b = true → wS A env s' N R) ∧ (b = false → wS B env s' N R)) : wS (ifS c A B) env s N R := by
  obtain ⟨b, s', e, h1, h2⟩ := h
  cases b with
  | true => obtain ⟨d, s2, e2, q⟩ := h1 rfl; exact ⟨d, s2, (if_t e).trans e2, q⟩
  | false => obtain ⟨d, s2, e2, q⟩ := h2 rfl; exact ⟨d, s2, (if_f e).trans e2, q⟩
theorem wS_unp (h : wE f env s fun d s' => ∃ x y, (d = .tup [x, y] ∨ d = .lst [x, y]) ∧ N ((env.set i (some x)).set k (some y)) s') : wS (unpS i k f) env s N R := by
  obtain ⟨d, s', e, x, y, rfl | rfl, q⟩ := h
  · exact ⟨_, s', unpT_ev e, .inl ⟨_, rfl, q⟩⟩
  · exact ⟨_, s', unpL_ev e, .inl ⟨_, rfl, q⟩⟩
theorem wS_par2 (hi : i < env.length ∧ k < env.length) (h : wE f env s fun x s1 => wE g env s1 fun y s2 => N ((env.set i (some x)).set k (some y)) s2) : wS (par2S i k f g) env s N R := by
  obtain ⟨x, s1, e1, y, s2, e2, q⟩ := h
  exact ⟨_, s2, par_ev hi e1 e2, .inl ⟨_, rfl, q⟩⟩
theorem wS_par3 (hi : i < env.length ∧ j < env.length ∧ k < env.length) (h : wE fa env s fun x s1 => wE fb env s1 fun y s2 => wE fc env s2 fun z s3 => N (((env.set i (some x)).set j (some y)).set k (some z)) s3) : wS (par3S i j k fa fb fc) env s N R := by
  obtain ⟨x, s1, e1, y, s2, e2, z, s3, e3, q⟩ := h
  refine ⟨_, s3, ?_, .inl ⟨_, rfl, q⟩⟩
  unfold par3S; rw [if_pos hi, e1]; dsimp only; rw [e2]; dsimp only; rw [e3]
theorem wS_app {l : List Dt} (hi : env[i]? = some (some (.lst l))) (h : wE f env s fun d s' => l.length < 16777215 ∧ N (env.set i (some (.lst (l ++ [d])))) s') : wS (appS i f) env s N R := by
  obtain ⟨d, s', e, hl, q⟩ := h
  exact ⟨_, s', app_ev e hi (small' hl), .inl ⟨_, rfl, q⟩⟩
theorem wS_ext {l : List Dt} (hi : env[i]? = some (some (.lst l))) (h : wE f env s fun d s' => ∃ es, d = .lst es ∧ l.length + es.length ≤ 16777215 ∧ N (env.set i (some (.lst (l ++ es)))) s') : wS (extS i f) env s N R := by
  obtain ⟨d, s', e, es, rfl, hl, q⟩ := h
  exact ⟨_, s', ext_ev e hi (small hl), .inl ⟨_, rfl, q⟩⟩
theorem wS_dput {l : List (Key × Dt)} (hi : env[i]? = some (some (.dct l))) (h : wE fa env s fun v s1 => wE fb env s1 fun kd s2 => ∃ key, keyOf kd = some key ∧ l.length < 16777215 ∧ N (env.set i (some (.dct (putD l key v)))) s2) : wS (dputS i fb fa) env s N R := by
  obtain ⟨v, s1, e1, kd, s2, e2, key, hk, hl, q⟩ := h
  exact ⟨_, s2, dput_e e1 e2 hi hk (small' hl), .inl ⟨_, rfl, q⟩⟩
theorem wI_rng (h : wE f env s fun d s' => ∃ n : Nat, d = .int (n : Int) ∧ n < 4611686018427387904 ∧ QA ((List.range n).map fun i => Dt.int (0 + (i : Nat))) s') : wI (rngF1 f) env s QA := by
  obtain ⟨d, s', e, n, rfl, hn, q⟩ := h
  exact ⟨_, s', rng_ev e (by omega) (by omega), q⟩
section
variable {α : Type} {enc : α → Dt} {fi : Fi} {tt : Ft} {te : Fe} {vs : List Nat} {st : Tg}
theorem wE_lc {xs : List α} (q : α → Bool) (g : α → Dt) (h : wI fi env s fun ds s1 => ds = xs.map enc ∧ xs.length ≤ 16777215 ∧ (∀ x, x ∈ xs → wT tt ((wipeE env vs).set k (some (enc x))) s1 fun b s2 => b = q x ∧ s2 = s1) ∧
    (∀ x, x ∈ xs → q x = true → wE te ((wipeE env vs).set k (some (enc x))) s1 fun d s2 => d = g x ∧ s2 = s1) ∧ Q (.lst ((xs.filter q).map g)) s1) : wE (lcF fi (tgN k) tt te vs) env s Q := by
  obtain ⟨_, s1, e, rfl, hl, h1, h2, q0⟩ := h
  refine ⟨_, s1, lc_e e (small hl) (fun x hx => ?_) (fun x hx hq => wE_out (h2 x hx hq)), q0⟩
  obtain ⟨_, _, e, rfl, rfl⟩ := h1 x hx
  exact e
theorem wE_lcy {xs : List α} (g : α → Dt) (h : wI fi env s fun ds s1 => ds = xs.map enc ∧ xs.length ≤ 16777215 ∧
    (∀ x, x ∈ xs → wE te ((wipeE env vs).set k (some (enc x))) s1 fun d s2 => d = g x ∧ s2 = s1) ∧ Q (.lst (xs.map g)) s1) : wE (lcF fi (tgN k) yesT te vs) env s Q := by
  obtain ⟨_, s1, e, rfl, hl, h2, q0⟩ := h
  exact ⟨_, s1, lc_y e (small hl) (fun x hx => wE_out (h2 x hx)), q0⟩
theorem wE_lcI {xs : List α} (I : List Dt → List α → Sto → Prop) (h : wI fi env s fun ds s1 => ds = xs.map enc ∧ xs.length ≤ 16777215 ∧ I [] [] s1 ∧
    (∀ pre x post ds s, xs = pre ++ x :: post → ds.length ≤ pre.length → I ds pre s → wT tt ((wipeE env vs).set k (some (enc x))) s fun b s2 => (b = true → wE te ((wipeE env vs).set k (some (enc x))) s2 fun d s3 => I (ds ++ [d]) (pre ++ [x]) s3) ∧ (b = false → I ds (pre ++ [x]) s2)) ∧
    ∀ ds s2, ds.length ≤ xs.length → I ds xs s2 → Q (.lst ds) s2) : wE (lcF fi (tgN k) tt te vs) env s Q := by
  obtain ⟨_, s1, e, rfl, hl, h0, h1, h2⟩ := h
  have key : ∀ (post pre : List α) (ds : List Dt) (s : Sto), xs = pre ++ post → ds.length ≤ pre.length → I ds pre s → ∃ ds' s', lcL (tgN k) tt te (wipeE env vs) (post.map enc) s = some (ds', s') ∧ (ds ++ ds').length ≤ xs.length ∧ I (ds ++ ds') xs s' := by
    intro post
    induction post with
    | nil => intro pre ds s he hd hi; rw [List.append_nil] at he; subst he; exact ⟨[], s, rfl, by rw [List.append_nil]; exact hd, by rw [List.append_nil]; exact hi⟩
    | cons x post ih =>
      intro pre ds s he hd hi
      obtain ⟨b, s2, e2, ht, hf⟩ := h1 pre x post ds s he hd hi
      rw [List.map_cons]
      unfold lcL
      simp only [tgN]
      rw [e2]
      cases b with
      | true =>
        obtain ⟨d, s3, e3, hi3⟩ := ht rfl
        dsimp only
        rw [e3]
        dsimp only
        obtain ⟨ds', s4, e4, hl4, hi4⟩ := ih (pre ++ [x]) (ds ++ [d]) s3 (by rw [he, List.append_assoc]; rfl) (by rw [List.length_append, List.length_append]; simp only [List.length_singleton]; omega) hi3
        rw [e4]
        refine ⟨d :: ds', s4, rfl, ?_⟩
        rw [List.append_assoc] at hl4 hi4
        exact ⟨hl4, hi4⟩
      | false =>
        dsimp only
        exact ih (pre ++ [x]) ds s2 (by rw [he, List.append_assoc]; rfl) (by rw [List.length_append]; omega) (hf rfl)
  obtain ⟨ds', s', e', hl', hi'⟩ := key xs [] [] s1 rfl (Nat.le_refl _) h0
  rw [List.nil_append] at hl' hi'
  refine ⟨.lst ds', s', ?_, h2 ds' s' hl' hi'⟩
  unfold lcF
  rw [e]
  dsimp only
  rw [e']
  dsimp only
  rw [if_pos (small (Nat.le_trans hl' hl))]
theorem wS_for {xs : List α} (I : List α → Env → Sto → Prop) (h : wI fi env s fun ds s1 => ds = xs.map enc ∧ I [] env s1 ∧ (∀ pre x post env s, xs = pre ++ x :: post → I pre env s → ∃ e1, st env (enc x) = some e1 ∧ wS A e1 s (fun e s' => I (pre ++ [x]) e s') R) ∧
    ∀ env s', I xs env s' → N env s') : wS (forF fi st A) env s N R := by
  obtain ⟨_, s1, e, rfl, h0, h1, h2⟩ := h
  obtain ⟨o, s', e1, h3⟩ := loop_pre (st := st) (F := A) (enc := enc) (xs := xs) I R (fun pre x post env s he hi => by
    obtain ⟨e1, q1, o, s', q2, q3⟩ := h1 pre x post env s he hi
    exact ⟨e1, o, s', q1, q2, q3⟩) xs [] env s1 rfl h0
  refine ⟨o, s', by unfold forF; rw [e]; exact e1, h3.imp (fun ⟨e', h4, h5⟩ => ⟨e', h4, h2 _ _ h5⟩) fun h => h⟩
end
theorem wS_while {n : Nat} (I : Nat → Env → Sto → Prop) (hn : n < FUEL) (h0 : I n env s) (hs : ∀ n env s, I n env s → wT c env s fun b s1 => (b = false → s1 = s ∧ N env s) ∧ (b = true → wS A env s1 (fun e s' => ∃ m, m < n ∧ I m e s') R)) :
    wS (whileS c A FUEL) env s N R := by
  obtain ⟨o, s', h1, h2⟩ := while_r (c := c) (F := A) (n := n) (env := env) (s := s) I (fun o s' => (∃ e, o = .nx e ∧ N e s') ∨ ∃ d, o = .rt d ∧ R d s') h0 hn (fun n env s hi => by
    obtain ⟨b, s1, e1, h1, h2⟩ := hs n env s hi
    cases b with
    | false => obtain ⟨rfl, q⟩ := h1 rfl; exact .inl ⟨e1, .inl ⟨env, rfl, q⟩⟩
    | true =>
      obtain ⟨o, s', e2, ⟨e', rfl, m, hm, q⟩ | ⟨d, rfl, q⟩⟩ := h2 rfl
      · exact .inr ⟨s1, e1, .inl ⟨e', s', m, e2, hm, q⟩⟩
      · exact .inr ⟨s1, e1, .inr ⟨d, s', e2, .inr ⟨d, rfl, q⟩⟩⟩)
  exact ⟨o, s', h1, h2⟩
theorem wF_draw {dp : List Dt → Sto → Option (Dt × Sto)} {Sp : Addr → Nat → Sto → Prop} (D : Dip dp Sp) {p : Addr} {n : Nat} {i : Int} (h : Sp p n s) (hn : n < 1000000) (h0 : 0 < i) (h1 : i < 1073741824) (q : ∀ (r : Nat) s', (r : Int) < i → Sp p (n + 1) s' → Q (.int r) s') : wF dp [.ref p, .int i] s Q := by
  obtain ⟨r, s', e, r1, r2, h'⟩ := D.draw h hn h0 h1
  obtain ⟨a, rfl⟩ := Int.eq_ofNat_of_zero_le r1
  exact ⟨_, s', e, q a s' r2 h'⟩
end

section
variable {g : Option Dt} {z : Dt} {QD : Dt → Prop} {b : Bool} {QB : Bool → Prop} {s : Sto} {P R : Prop} {l : List Dt} {QL : List Dt → Prop} {i : Int} {QI : Int → Prop}
theorem ex_op {α : Type} {g : Option α} {z : α} {QD : α → Prop} (h : g = some z) (q : QD z) : ∃ z, g = some z ∧ QD z := ⟨z, h, q⟩
theorem eq_ss {a b : Str} : eqG s (.str a) (.str b) = some (.bl (decide (a = b))) := rfl
theorem ne_ss {a b : Str} : neG s (.str a) (.str b) = some (.bl (!decide (a = b))) := rfl
theorem eq_ii {a b : Int} : eqG s (.int a) (.int b) = some (.bl (decide (a = b))) := rfl
theorem ne_ii {a b : Int} : neG s (.int a) (.int b) = some (.bl (!decide (a = b))) := rfl
theorem lt_ii {a b : Int} : ltG s (.int a) (.int b) = some (.bl (decide (a < b))) := rfl
theorem gt_ii {a b : Int} : gtG s (.int a) (.int b) = some (.bl (decide (b < a))) := rfl
theorem le_ii {a b : Int} : leG s (.int a) (.int b) = some (.bl (decide (a ≤ b))) := rfl
theorem ge_ii {a b : Int} : geG s (.int a) (.int b) = some (.bl (decide (b ≤ a))) := rfl
theorem ex_bl (q : QB b) : ∃ b', Dt.bl b = Dt.bl b' ∧ QB b' := ⟨b, rfl, q⟩
theorem ex_trA (q : QB b) : ∃ b', truA s (Dt.bl b) = some b' ∧ QB b' := ⟨b, rfl, q⟩
theorem ex_trB (q : QB b) : ∃ b', truB s (Dt.bl b) = some b' ∧ QB b' := ⟨b, rfl, q⟩
theorem ex_int (q : QI i) : ∃ j, Dt.int i = Dt.int j ∧ QI j := ⟨i, rfl, q⟩
theorem and_t (h : P) : (true = true → P) ∧ (true = false → R) := ⟨fun _ => h, fun h => by cases h⟩
theorem and_f (h : R) : (false = true → P) ∧ (false = false → R) := ⟨fun h => (by cases h), fun _ => h⟩
theorem and_nt (h : R) : ((!true) = true → P) ∧ ((!true) = false → R) := ⟨fun h => (by cases h), fun _ => h⟩
theorem and_nf (h : P) : ((!false) = true → P) ∧ ((!false) = false → R) := ⟨fun _ => h, fun h => by cases h⟩
theorem all_true' {α : Type} (s : Sto) (l : List α) : allG s [.lst (l.map fun _ => Dt.bl true)] = some (.bl true) := by
  rw [all_bl]; congr 2; exact List.all_eq_true.mpr fun _ _ => rfl
end

section
variable {f : Fe} {env : Env} {s : Sto} {QA : List Dt → Sto → Prop} {x y : Dt} {QX : Dt → Dt → Prop} {n : Nat} {QN : Nat → Prop} {w : List Nat}
theorem seqOf_wd : seqOf (wd w) = some (w.map fun c => wd [c]) := by
  show some (w.toArray.toList.map fun c => Dt.str ⟨#[c]⟩) = _
  rw [List.toList_toArray]; rfl
theorem wI_seq (h : wE f env s fun d s' => ∃ l, seqOf d = some l ∧ QA l s') : wI (seqF f) env s QA := by
  obtain ⟨d, s', e, l, e2, q⟩ := h
  refine ⟨l, s', ?_, q⟩
  unfold seqF
  rw [e]
  show (seqOf d).bind _ = _
  rw [e2]
  rfl
theorem ex_unT (q : QX x y) : ∃ x' y', (Dt.tup [x, y] = .tup [x', y'] ∨ Dt.tup [x, y] = .lst [x', y']) ∧ QX x' y' := ⟨x, y, .inl rfl, q⟩
theorem ex_unL (q : QX x y) : ∃ x' y', (Dt.lst [x, y] = .tup [x', y'] ∨ Dt.lst [x, y] = .lst [x', y']) ∧ QX x' y' := ⟨x, y, .inr rfl, q⟩
theorem ex_nat (q : QN n) : ∃ m : Nat, Dt.int ((n : Nat) : Int) = Dt.int ((m : Nat) : Int) ∧ QN m := ⟨n, rfl, q⟩
end

end DL

namespace DL
open PySem PySem.Spec PyProof.Rows L2
local macro_rules | `(tactic| walk_at "op") => `(tactic| first | assumption | with_reducible rfl | exact cat_w (by omega) | exact sub_nn (by omega) | exact add_nn | exact at_w (by omega) (by assumption) | exact len_w (by omega) | exact in_l1 | exact notin_l1 | exact in_t1 | exact notin_t1 | exact in_k1 | exact notin_k1 | exact in_wl | exact notin_wl | exact in_wt | exact notin_wt | exact in_kd | exact notin_kd | exact eq_ww | exact ne_ww | exact any_bl | exact all_bl | rfl)
local macro_rules | `(tactic| walk_at "ev") => `(tactic| first | with_reducible exact c0 | ((with_reducible apply v0); rfl) | with_reducible exact a0 | with_reducible assumption | ((with_reducible apply aCons_ev); (focus walk_at "ev"); (focus walk_at "ev")) | ((with_reducible apply bindA_ev); (focus walk_at "ev"); (focus walk_at "op")) | ((with_reducible apply bind2_ev); (focus walk_at "ev"); (focus walk_at "ev"); (focus walk_at "op")) | ((with_reducible apply bind1_ev); (focus walk_at "ev"); (focus walk_at "op")) | ((with_reducible apply asB_ev); (focus walk_at "ev")) | ((with_reducible apply call_ev); (focus walk_at "ev"); (focus first | assumption | rfl)) | ((with_reducible apply truF_ev); (focus walk_at "ev"); (focus first | assumption | rfl)) | ((with_reducible apply notT_ev); (focus walk_at "ev")) | ((with_reducible apply andT_e); (focus walk_at "ev"); (focus (intro hq; walk_at "ev"))) | ((with_reducible apply orT_e); (focus walk_at "ev"); (focus (intro hq; walk_at "ev"))) | ((with_reducible apply seq_tup); (focus walk_at "ev")) | ((with_reducible apply seq_lst); (focus walk_at "ev")) | ((with_reducible apply seq_str); (focus walk_at "ev")))
local macro_rules | `(tactic| walk_at "w1") => `(tactic| with_reducible first | refine wS_seq ?_ | refine wS_set ?_ | refine wS_ret ?_ | refine wS_if ?_ | refine wS_skip ?_ | refine wS_drop ?_ | refine wS_unp ?_ | refine wE_b2 ?_ | refine wE_b1 ?_ | refine wE_bA ?_ | refine wE_bS ?_ | refine wE_call ?_ | refine wA_c ?_ | refine wA_n ?_ | refine wE_c ?_ | refine wO_n ?_ | refine wO_s ?_ | refine wT_asB ?_ | refine wT_tru ?_ | refine wT_not ?_ | refine wT_and ?_ | refine wT_or ?_ | refine wT_yes ?_ | refine wE_and ?_ | refine wE_or ?_ | refine wE_if ?_ | refine wI_seq ?_ | refine wI_rng ?_ | refine ex_bl ?_ | refine ex_trA ?_ | refine ex_trB ?_ | refine ex_nat ?_ | refine ex_int ?_ | refine ex_unT ?_ | refine ex_unL ?_ | refine and_t ?_ | refine and_f ?_ | refine and_nt ?_ | refine and_nf ?_)
local macro_rules | `(tactic| walk_at "w") => `(tactic| repeat (first | walk_at "w1" | refine wE_v (by rfl) ?_ | ((with_reducible refine wS_par2 ?_ ?_); focus (simp; done)) | ((with_reducible refine wS_par3 ?_ ?_); focus (simp; done)) | ((with_reducible refine wS_setN ?_ ?_); focus (simp; done)) | ((with_reducible apply ex_op); focus (first | exact seqOf_wd | with_reducible exact eq_ss | with_reducible exact ne_ss | with_reducible exact eq_ww | with_reducible exact ne_ww | with_reducible exact eq_ii | with_reducible exact ne_ii | with_reducible exact lt_ii | with_reducible exact gt_ii | with_reducible exact le_ii | with_reducible exact ge_ii | exact all_true' _ _ | walk_at "op")) ))
def ddW : List (List Nat) → List (List Nat)
  | [] => []
  | x :: r => if x ∈ r then ddW r else x :: ddW r
theorem ddW_mem {y : List Nat} : ∀ {l : List (List Nat)}, y ∈ ddW l ↔ y ∈ l
  | [] => Iff.rfl
  | x :: r => by
    unfold ddW
    split
    · rename_i h
      rw [ddW_mem]
      exact ⟨fun z => List.mem_cons_of_mem _ z, fun z => (List.mem_cons.mp z).elim (fun e => e ▸ h) fun z => z⟩
    · rw [List.mem_cons, List.mem_cons, ddW_mem]
theorem ddW_nd : ∀ {l : List (List Nat)}, (ddW l).Nodup
  | [] => .nil
  | x :: r => by
    unfold ddW
    split
    · exact ddW_nd
    · rename_i h
      exact List.nodup_cons.mpr ⟨fun z => h (ddW_mem.mp z), ddW_nd⟩
theorem wE_lcR {f te : Fe} {k : Nat} {vs : List Nat} {env : Env} {s : Sto} {Q : Dt → Sto → Prop} (I : List Dt → Nat → Sto → Prop)
    (h : wE f env s fun d s1 => ∃ m : Nat, d = .int ((m : Nat) : Int) ∧ m ≤ 16777215 ∧ I [] 0 s1 ∧
      (∀ j ds s, j < m → ds.length ≤ j → I ds j s → wE te ((wipeE env vs).set k (some (.int (0 + ((j : Nat) : Int))))) s fun d s' => I (ds ++ [d]) (j + 1) s') ∧
      ∀ ds s2, ds.length ≤ m → I ds m s2 → Q (.lst ds) s2) : wE (lcF (rngF1 f) (tgN k) yesT te vs) env s Q := by
  obtain ⟨_, s1, e, m, rfl, hm, h0, h1, h2⟩ := h
  refine wE_lcI (xs := List.range m) (enc := fun i => .int (0 + ((i : Nat) : Int))) (fun ds pre s => I ds pre.length s) ⟨_, s1, rng_ev e (by omega) (by omega), rfl, by rw [List.length_range]; exact hm, h0, ?_, ?_⟩
  · intro pre x post ds s he hd hi
    obtain ⟨e1, e2⟩ := range_pre he
    subst e1
    refine wT_yes ⟨fun _ => ?_, fun h => by cases h⟩
    refine wE_imp (h1 _ ds s e2 hd hi) fun d s' q => ?_
    rw [List.length_append]
    exact q
  · intro ds s2 hd hi
    rw [List.length_range] at hd hi
    exact h2 ds s2 hd hi
section
variable {dp : Fn} {Sp : Addr → Nat → Sto → Prop}
theorem wF_pick (D : Dip dp Sp) {p : Addr} {n : Nat} {s : Sto} {ds : List Dt} {Q : Dt → Sto → Prop} (h : Sp p n s) (hn : n < 1000000) (h0 : ds ≠ []) (hl : ds.length < 1000000) (q : ∀ d s', d ∈ ds → Sp p (n + 1) s' → Q d s') : wF (V_law_pick_k01 dp) [.ref p, .lst ds] s Q := by
  obtain ⟨d, s', e, hd, h'⟩ := pick_sp D h hn h0 hl
  exact ⟨d, s', e, q d s' hd h'⟩
end
theorem wE_toStr {f : Fe} {env : Env} {s : Sto} {Q : Dt → Sto → Prop} (h : wE f env s fun d s' => ∃ z, d = .str z ∧ Q d s') : wE (toStrOnly f) env s Q := by
  obtain ⟨d, s', e, z, rfl, q⟩ := h
  refine ⟨_, s', ?_, q⟩
  unfold toStrOnly
  rw [e]
theorem wS_go {A : Fs} {env e' : Env} {s s' : Sto} {N : Env → Sto → Prop} {R : Dt → Sto → Prop} (h : A env s = some (.nx e', s')) (q : N e' s') : wS A env s N R := ⟨_, s', h, .inl ⟨_, rfl, q⟩⟩
theorem fil_any {α : Type} (l : List α) (q : α → Bool) : (!(l.filter q).isEmpty) = l.any q := by
  induction l with
  | nil => rfl
  | cons x r ih =>
    rw [List.filter_cons, List.any_cons]
    cases q x with
    | true => rfl
    | false => exact ih

end DL

namespace DL
open PySem PySem.Spec PyProof.Rows L2
local macro_rules | `(tactic| walk_at "op") => `(tactic| first | assumption | with_reducible rfl | exact cat_w (by omega) | exact sub_nn (by omega) | exact add_nn | exact at_w (by omega) (by assumption) | exact len_w (by omega) | exact in_l1 | exact notin_l1 | exact in_t1 | exact notin_t1 | exact in_k1 | exact notin_k1 | exact in_wl | exact notin_wl | exact in_wt | exact notin_wt | exact in_kd | exact notin_kd | exact eq_ww | exact ne_ww | exact any_bl | exact all_bl | rfl)
local macro_rules | `(tactic| walk_at "ev") => `(tactic| first | with_reducible exact c0 | ((with_reducible apply v0); rfl) | with_reducible exact a0 | with_reducible assumption | ((with_reducible apply aCons_ev); (focus walk_at "ev"); (focus walk_at "ev")) | ((with_reducible apply bindA_ev); (focus walk_at "ev"); (focus walk_at "op")) | ((with_reducible apply bind2_ev); (focus walk_at "ev"); (focus walk_at "ev"); (focus walk_at "op")) | ((with_reducible apply bind1_ev); (focus walk_at "ev"); (focus walk_at "op")) | ((with_reducible apply asB_ev); (focus walk_at "ev")) | ((with_reducible apply call_ev); (focus walk_at "ev"); (focus first | assumption | rfl)) | ((with_reducible apply truF_ev); (focus walk_at "ev"); (focus first | assumption | rfl)) | ((with_reducible apply notT_ev); (focus walk_at "ev")) | ((with_reducible apply andT_e); (focus walk_at "ev"); (focus (intro hq; walk_at "ev"))) | ((with_reducible apply orT_e); (focus walk_at "ev"); (focus (intro hq; walk_at "ev"))) | ((with_reducible apply seq_tup); (focus walk_at "ev")) | ((with_reducible apply seq_lst); (focus walk_at "ev")) | ((with_reducible apply seq_str); (focus walk_at "ev")))
variable {dp : Fn} {Sp : Addr → Nat → Sto → Prop}
structure Bk (M : Nat) (E : Ents) (rs : List Ru) : Prop where
  cl : ClE E
  n : E.length ≤ M
  rn : rs.length ≤ 10
  ok : ∀ r ∈ rs, okR r = true ∧ lowRb r = true
theorem Page.bk {M R : Nat} {L : List Nat} {E : Ents} {rs : List Ru} (h : Page M R L E rs) (hM : M ≤ 8) (hR : R ≤ 10) : Bk M (sortE E) rs := ⟨h.cl hM, by rw [h.len]; exact h.n, Nat.le_trans h.rn hR, h.okR⟩
theorem Bk.low {M : Nat} {E : Ents} {rs : List Ru} (h : Bk M E rs) {w : List Nat} (hw : ∀ c ∈ w, c ∈ E.map (·.1)) : lowc w := fun c hc => h.cl.lo c (hw c hc)
theorem Bk.word (D : Dip dp Sp) {p : Addr} {n M m : Nat} {E : Ents} {rs : List Ru} {s : Sto} (h : Bk M E rs) (hM : M ≤ 8) (hm : m ≤ 100) (hm1 : 1 ≤ m) (hs : Sp p n s) (hn : n < 800000) :
    ∃ w s', callF (V_law_word_k01 dp) (aCons (fC (.ref p)) (aCons (fC (.lst (onesD (E.map (·.1))))) (aCons (fC (.int ((m : Nat) : Int))) aNil))) [] s = some (wd w, s') ∧ (∀ c ∈ w, c ∈ E.map (·.1)) ∧ w.length ≤ m ∧ Sp p (n + (m + 2)) s' := by
  obtain ⟨w, s', e, h1, h2, h3⟩ := lword_sp D (L := E.map (·.1)) (M := m) hm hm1 (by rw [List.length_map]; have := h.n; omega) h.cl.lo hs hn
  exact ⟨w, s', call_ev (aCons_ev c0 (aCons_ev c0 (aCons_ev c0 a0))) e, h1, h2, h3⟩
end DL

namespace DL
open PySem PySem.Spec PyProof.Rows L2
local macro_rules | `(tactic| walk_at "op") => `(tactic| first | assumption | with_reducible rfl | exact cat_w (by omega) | exact sub_nn (by omega) | exact add_nn | exact at_w (by omega) (by assumption) | exact len_w (by omega) | exact in_l1 | exact notin_l1 | exact in_t1 | exact notin_t1 | exact in_k1 | exact notin_k1 | exact in_wl | exact notin_wl | exact in_wt | exact notin_wt | exact in_kd | exact notin_kd | exact eq_ww | exact ne_ww | exact any_bl | exact all_bl | rfl)
local macro_rules | `(tactic| walk_at "ev") => `(tactic| first | with_reducible exact c0 | ((with_reducible apply v0); rfl) | with_reducible exact a0 | with_reducible assumption | ((with_reducible apply aCons_ev); (focus walk_at "ev"); (focus walk_at "ev")) | ((with_reducible apply bindA_ev); (focus walk_at "ev"); (focus walk_at "op")) | ((with_reducible apply bind2_ev); (focus walk_at "ev"); (focus walk_at "ev"); (focus walk_at "op")) | ((with_reducible apply bind1_ev); (focus walk_at "ev"); (focus walk_at "op")) | ((with_reducible apply asB_ev); (focus walk_at "ev")) | ((with_reducible apply call_ev); (focus walk_at "ev"); (focus first | assumption | rfl)) | ((with_reducible apply truF_ev); (focus walk_at "ev"); (focus first | assumption | rfl)) | ((with_reducible apply notT_ev); (focus walk_at "ev")) | ((with_reducible apply andT_e); (focus walk_at "ev"); (focus (intro hq; walk_at "ev"))) | ((with_reducible apply orT_e); (focus walk_at "ev"); (focus (intro hq; walk_at "ev"))) | ((with_reducible apply seq_tup); (focus walk_at "ev")) | ((with_reducible apply seq_lst); (focus walk_at "ev")) | ((with_reducible apply seq_str); (focus walk_at "ev")))
local macro_rules | `(tactic| walk_at "w1") => `(tactic| with_reducible first | refine wS_seq ?_ | refine wS_set ?_ | refine wS_ret ?_ | refine wS_if ?_ | refine wS_skip ?_ | refine wS_drop ?_ | refine wS_unp ?_ | refine wE_b2 ?_ | refine wE_b1 ?_ | refine wE_bA ?_ | refine wE_bS ?_ | refine wE_call ?_ | refine wA_c ?_ | refine wA_n ?_ | refine wE_c ?_ | refine wO_n ?_ | refine wO_s ?_ | refine wT_asB ?_ | refine wT_tru ?_ | refine wT_not ?_ | refine wT_and ?_ | refine wT_or ?_ | refine wT_yes ?_ | refine wE_and ?_ | refine wE_or ?_ | refine wE_if ?_ | refine wI_seq ?_ | refine wI_rng ?_ | refine ex_bl ?_ | refine ex_trA ?_ | refine ex_trB ?_ | refine ex_nat ?_ | refine ex_int ?_ | refine ex_unT ?_ | refine ex_unL ?_ | refine and_t ?_ | refine and_f ?_ | refine and_nt ?_ | refine and_nf ?_)
local macro_rules | `(tactic| walk_at "w") => `(tactic| repeat (first | walk_at "w1" | refine wE_v (by rfl) ?_ | ((with_reducible refine wS_par2 ?_ ?_); focus (simp; done)) | ((with_reducible refine wS_par3 ?_ ?_); focus (simp; done)) | ((with_reducible refine wS_setN ?_ ?_); focus (simp; done)) | ((with_reducible apply ex_op); focus (first | exact seqOf_wd | with_reducible exact eq_ss | with_reducible exact ne_ss | with_reducible exact eq_ww | with_reducible exact ne_ww | with_reducible exact eq_ii | with_reducible exact ne_ii | with_reducible exact lt_ii | with_reducible exact gt_ii | with_reducible exact le_ii | with_reducible exact ge_ii | exact all_true' _ _ | walk_at "op")) ))
theorem map_nd {α β : Type} {f : α → β} : ∀ {l : List α}, l.Nodup → (∀ a ∈ l, ∀ b ∈ l, f a = f b → a = b) → (l.map f).Nodup
  | [], _, _ => .nil
  | x :: l, hn, hi => by
    obtain ⟨h1, h2⟩ := List.nodup_cons.mp hn
    rw [List.map_cons]
    refine List.nodup_cons.mpr ⟨fun hm => ?_, map_nd h2 fun a ha b hb => hi a (List.mem_cons_of_mem _ ha) b (List.mem_cons_of_mem _ hb)⟩
    obtain ⟨y, hy, e⟩ := List.mem_map.mp hm
    have := hi y (List.mem_cons_of_mem _ hy) x List.mem_cons_self e
    subst this
    exact h1 hy
theorem map_on {f : Nat → Nat} {L : List Nat} (hi : ∀ a ∈ L, ∀ b ∈ L, f a = f b → a = b) : ∀ {u v : List Nat}, (∀ a ∈ u, a ∈ L) → (∀ a ∈ v, a ∈ L) → u.map f = v.map f → u = v
  | [], [], _, _, _ => rfl
  | [], _ :: _, _, _, h => by cases h
  | _ :: _, [], _, _, h => by cases h
  | a :: u, b :: v, hu, hv, h => by
    rw [List.map_cons, List.map_cons] at h
    obtain ⟨h1, h2⟩ := List.cons.inj h
    rw [hi a (hu a List.mem_cons_self) b (hv b List.mem_cons_self) h1, map_on hi (fun x hx => hu x (List.mem_cons_of_mem _ hx)) (fun x hx => hv x (List.mem_cons_of_mem _ hx)) h2]
def nearN (E : Ents) (c : Nat) : List Nat := (lesN E c).filter fun a => !decide (a ∈ (lesN E c).flatMap (downN E))
theorem near_mem {E : Ents} {c x : Nat} : x ∈ nearN E c ↔ x ∈ lesN E c ∧ ∀ d ∈ lesN E c, x ∉ downN E d := by
  unfold nearN
  rw [List.mem_filter, Bool.not_eq_true', decide_eq_false_iff_not, List.mem_flatMap]
  exact and_congr_right fun _ => ⟨fun h d hd z => h ⟨d, hd, z⟩, fun h ⟨d, hd, z⟩ => h d hd z⟩
def wordsN (E : Ents) (c : Nat) : List (List Nat) := if lesN E c = [] then [[]] else (nearN E c).map fun a => [a]
def nlK (E : Ents) (x : List Nat) (k : Nat) : List (List Nat) := (wordsN E (x.getD k 0)).map fun v => x.take k ++ v ++ x.drop (k + 1)
def nlN (E : Ents) (x : List Nat) : List (List Nat) := (List.range x.length).flatMap (nlK E x)
theorem nl_mem {E : Ents} {x y : List Nat} : y ∈ nlN E x ↔ ∃ k, k < x.length ∧ ∃ v ∈ wordsN E (x.getD k 0), y = x.take k ++ v ++ x.drop (k + 1) := by
  unfold nlN nlK
  simp only [List.mem_flatMap, List.mem_range, List.mem_map]
  constructor
  · rintro ⟨k, hk, v, hv, rfl⟩; exact ⟨k, hk, v, hv, rfl⟩
  · rintro ⟨k, hk, v, hv, rfl⟩; exact ⟨k, hk, v, hv, rfl⟩
theorem words_in {E : Ents} (h : ClE E) {c : Nat} : ∀ v ∈ wordsN E c, (∀ a ∈ v, a ∈ E.map (·.1)) ∧ v.length ≤ 1 := fun v hv => by
  unfold wordsN at hv
  split at hv
  · rw [List.mem_singleton.mp hv]
    exact ⟨fun a ha => absurd ha List.not_mem_nil, Nat.zero_le _⟩
  · obtain ⟨a, ha, rfl⟩ := List.mem_map.mp hv
    exact ⟨fun b hb => by rw [List.mem_singleton.mp hb]; exact h.let (near_mem.mp ha).1, Nat.le_refl _⟩
theorem nl_let {E : Ents} (h : ClE E) {x y : List Nat} (hx : ∀ c ∈ x, c ∈ E.map (·.1)) (hy : y ∈ nlN E x) : (∀ c ∈ y, c ∈ E.map (·.1)) ∧ y.length ≤ x.length := by
  obtain ⟨k, hk, v, hv, rfl⟩ := nl_mem.mp hy
  obtain ⟨h1, h2⟩ := words_in h v hv
  refine ⟨fun c hc => ?_, ?_⟩
  · rcases List.mem_append.mp hc with hc | hc
    · rcases List.mem_append.mp hc with hc | hc
      · exact hx c (List.mem_of_mem_take hc)
      · exact h1 c hc
    · exact hx c (List.mem_of_mem_drop hc)
  · rw [List.length_append, List.length_append, List.length_take, List.length_drop]; omega
theorem low_iff {E : Ents} {a c : Nat} : LowP E a c ↔ a = c ∨ a ∈ downN E c := by
  show (decide (a = c) || decide (a ∈ downN E c)) = true ↔ _
  rw [Bool.or_eq_true, decide_eq_true_iff, decide_eq_true_iff]
def IncL (E : Ents) : Prop := ∀ e ∈ E, e.2.Pairwise (· < ·)
theorem lt_nd {l : List Nat} (h : l.Pairwise (· < ·)) : l.Nodup := h.imp fun h => Nat.ne_of_lt h
structure Mor (f : Nat → Nat) (E E' : Ents) : Prop where
  inj : ∀ a ∈ E.map (·.1), ∀ b ∈ E.map (·.1), f a = f b → a = b
  le : ∀ c ∈ E.map (·.1), f c ∈ E'.map (·.1)
  les : ∀ c ∈ E.map (·.1), ∀ x, x ∈ lesN E' (f c) ↔ ∃ a ∈ lesN E c, x = f a
section
variable {f : Nat → Nat} {E E' : Ents}
theorem Mor.rch (m : Mor f E E') (h : ClE E) {c x : Nat} (hc : c ∈ E.map (·.1)) : Rch E' (f c) x ↔ ∃ a, Rch E c a ∧ x = f a := by
  constructor
  · intro hr
    induction hr with
    | one hd =>
      obtain ⟨a, ha, rfl⟩ := (m.les c hc _).mp hd
      exact ⟨a, .one ha, rfl⟩
    | more hr hd ih =>
      obtain ⟨a, ha, rfl⟩ := ih
      obtain ⟨b, hb, rfl⟩ := (m.les a (h.rch ha) _).mp hd
      exact ⟨b, .more ha hb, rfl⟩
  · rintro ⟨a, ha, rfl⟩
    induction ha with
    | one hd => exact .one ((m.les _ hc _).mpr ⟨_, hd, rfl⟩)
    | more hr hd ih => exact .more ih ((m.les _ (h.rch hr) _).mpr ⟨_, hd, rfl⟩)
theorem Mor.down (m : Mor f E E') (h : ClE E) (h' : ClE E') {c : Nat} (hc : c ∈ E.map (·.1)) (x : Nat) : x ∈ downN E' (f c) ↔ ∃ a ∈ downN E c, x = f a := by
  rw [down_mem h', m.rch h hc]
  exact exists_congr fun a => and_congr_left fun _ => (down_mem h).symm
theorem down_let (h : ClE E) {c a : Nat} (ha : a ∈ downN E c) : a ∈ E.map (·.1) := h.rch ((down_mem h).mp ha)
theorem Mor.near (m : Mor f E E') (h : ClE E) (h' : ClE E') {c : Nat} (hc : c ∈ E.map (·.1)) (x : Nat) : x ∈ nearN E' (f c) ↔ ∃ a ∈ nearN E c, x = f a := by
  rw [near_mem, m.les c hc]
  constructor
  · rintro ⟨⟨a, ha, rfl⟩, hx⟩
    exact ⟨a, near_mem.mpr ⟨ha, fun d hd z => hx (f d) ((m.les c hc _).mpr ⟨d, hd, rfl⟩) ((m.down h h' (h.let hd) _).mpr ⟨a, z, rfl⟩)⟩, rfl⟩
  · rintro ⟨a, ha, rfl⟩
    obtain ⟨h1, h2⟩ := near_mem.mp ha
    refine ⟨⟨a, h1, rfl⟩, fun d hd z => ?_⟩
    obtain ⟨b, hb, rfl⟩ := (m.les c hc _).mp hd
    obtain ⟨a', z', e⟩ := (m.down h h' (h.let hb) _).mp z
    have := m.inj a (h.let h1) a' (down_let h z') e
    subst this
    exact h2 b hb z'
theorem Mor.low (m : Mor f E E') (h : ClE E) (h' : ClE E') {c : Nat} (hc : c ∈ E.map (·.1)) (x : Nat) : LowP E' x (f c) ↔ ∃ a, LowP E a c ∧ x = f a := by
  rw [low_iff, m.down h h' hc]
  constructor
  · rintro (rfl | ⟨a, ha, rfl⟩)
    · exact ⟨c, low_iff.mpr (.inl rfl), rfl⟩
    · exact ⟨a, low_iff.mpr (.inr ha), rfl⟩
  · rintro ⟨a, ha, rfl⟩
    rcases low_iff.mp ha with rfl | ha
    · exact .inl rfl
    · exact .inr ⟨a, ha, rfl⟩
theorem Mor.emb (m : Mor f E E') (h : ClE E) (h' : ClE E') : ∀ {w : List Nat}, (∀ c ∈ w, c ∈ E.map (·.1)) → ∀ {y : List Nat}, Emb (LowP E') y (w.map f) ↔ ∃ u, Emb (LowP E) u w ∧ y = u.map f
  | [], _, y => by
    constructor
    · intro q
      cases q
      exact ⟨[], .nil _, rfl⟩
    · rintro ⟨u, hu, rfl⟩
      cases hu
      exact .nil _
  | c :: w, hw, y => by
    have hw' : ∀ c ∈ w, c ∈ E.map (·.1) := fun x hx => hw x (List.mem_cons_of_mem _ hx)
    have hc := hw c List.mem_cons_self
    rw [List.map_cons]
    constructor
    · intro q
      cases q with
      | nil => exact ⟨[], .nil _, rfl⟩
      | skip q =>
        obtain ⟨u, hu, rfl⟩ := (m.emb h h' hw').mp q
        exact ⟨u, .skip hu, rfl⟩
      | take p q =>
        obtain ⟨a, ha, rfl⟩ := (m.low h h' hc _).mp p
        obtain ⟨u, hu, rfl⟩ := (m.emb h h' hw').mp q
        exact ⟨a :: u, .take ha hu, rfl⟩
    · rintro ⟨u, hu, rfl⟩
      cases hu with
      | nil => exact .nil _
      | skip q => exact .skip ((m.emb h h' hw').mpr ⟨_, q, rfl⟩)
      | take p q => exact .take ((m.low h h' hc _).mpr ⟨_, p, rfl⟩) ((m.emb h h' hw').mpr ⟨_, q, rfl⟩)
theorem Mor.embB (m : Mor f E E') (h : ClE E) (h' : ClE E') {u w : List Nat} (hu : ∀ c ∈ u, c ∈ E.map (·.1)) (hw : ∀ c ∈ w, c ∈ E.map (·.1)) : embB E' (u.map f) (w.map f) = embB E u w := by
  rw [Bool.eq_iff_iff, embB_iff, embB_iff, m.emb h h' hw]
  constructor
  · rintro ⟨v, hv, e⟩
    rw [map_on m.inj hu (emb_let h hv hw) e]
    exact hv
  · intro q
    exact ⟨u, q, rfl⟩
theorem maps_nd {E : Ents} (m : Mor f E E') {l : List (List Nat)} (hn : l.Nodup) (hl : ∀ x ∈ l, ∀ c ∈ x, c ∈ E.map (·.1)) : (l.map (List.map f)).Nodup := map_nd hn fun a ha b hb => map_on m.inj (hl a ha) (hl b hb)
theorem Mor.words (m : Mor f E E') (h : ClE E) (h' : ClE E') {c : Nat} (hc : c ∈ E.map (·.1)) (v : List Nat) : v ∈ wordsN E' (f c) ↔ ∃ u ∈ wordsN E c, v = u.map f := by
  have e0 : lesN E' (f c) = [] ↔ lesN E c = [] := by
    rw [List.eq_nil_iff_forall_not_mem, List.eq_nil_iff_forall_not_mem]
    exact ⟨fun q a ha => q (f a) ((m.les c hc _).mpr ⟨a, ha, rfl⟩), fun q x hx => by obtain ⟨a, ha, _⟩ := (m.les c hc _).mp hx; exact q a ha⟩
  unfold wordsN
  by_cases q : lesN E c = []
  · rw [if_pos q, if_pos (e0.mpr q)]
    simp
  · rw [if_neg q, if_neg fun z => q (e0.mp z)]
    constructor
    · intro z
      obtain ⟨x, hx, rfl⟩ := List.mem_map.mp z
      obtain ⟨a, ha, rfl⟩ := (m.near h h' hc _).mp hx
      exact ⟨[a], List.mem_map.mpr ⟨a, ha, rfl⟩, rfl⟩
    · rintro ⟨u, hu, rfl⟩
      obtain ⟨a, ha, rfl⟩ := List.mem_map.mp hu
      exact List.mem_map.mpr ⟨f a, (m.near h h' hc _).mpr ⟨a, ha, rfl⟩, rfl⟩
theorem Mor.nlm (m : Mor f E E') (h : ClE E) (h' : ClE E') {w : List Nat} (hw : ∀ c ∈ w, c ∈ E.map (·.1)) (y : List Nat) : y ∈ nlN E' (w.map f) ↔ ∃ u ∈ nlN E w, y = u.map f := by
  have g : ∀ k, k < w.length → (w.map f).getD k 0 = f (w.getD k 0) ∧ w.getD k 0 ∈ E.map (·.1) := fun k hk => by
    rw [List.getD_eq_getElem?_getD, List.getD_eq_getElem?_getD, List.getElem?_map, List.getElem?_eq_getElem hk]
    exact ⟨rfl, hw _ (List.getElem_mem hk)⟩
  rw [nl_mem, List.length_map]
  constructor
  · rintro ⟨k, hk, v, hv, rfl⟩
    obtain ⟨g1, g2⟩ := g k hk
    rw [g1] at hv
    obtain ⟨u, hu, rfl⟩ := (m.words h h' g2 v).mp hv
    exact ⟨_, nl_mem.mpr ⟨k, hk, u, hu, rfl⟩, by rw [List.map_append, List.map_append, List.map_take, List.map_drop]⟩
  · rintro ⟨u, hu, rfl⟩
    obtain ⟨k, hk, v, hv, rfl⟩ := nl_mem.mp hu
    obtain ⟨g1, g2⟩ := g k hk
    exact ⟨k, hk, v.map f, by rw [g1]; exact (m.words h h' g2 _).mpr ⟨v, hv, rfl⟩, by rw [List.map_append, List.map_append, List.map_take, List.map_drop]⟩
theorem Mor.nl (m : Mor f E E') (h : ClE E) (h' : ClE E') {w : List Nat} (hw : ∀ c ∈ w, c ∈ E.map (·.1)) : sortW (ddW (nlN E' (w.map f))) = sortW ((ddW (nlN E w)).map (List.map f)) :=
  sortW_eq ddW_nd (maps_nd m ddW_nd fun x hx => (nl_let h hw (ddW_mem.mp hx)).1) fun y => by
    rw [ddW_mem, m.nlm h h' hw, List.mem_map]
    exact exists_congr fun a => by rw [ddW_mem, eq_comm]
end
section
variable {f : Nat → Nat} {E : Ents}
end

end DL

namespace DL
open PySem PySem.Spec PyProof.Rows L2
local macro_rules | `(tactic| walk_at "op") => `(tactic| first | assumption | with_reducible rfl | exact cat_w (by omega) | exact sub_nn (by omega) | exact add_nn | exact at_w (by omega) (by assumption) | exact len_w (by omega) | exact in_l1 | exact notin_l1 | exact in_t1 | exact notin_t1 | exact in_k1 | exact notin_k1 | exact in_wl | exact notin_wl | exact in_wt | exact notin_wt | exact in_kd | exact notin_kd | exact eq_ww | exact ne_ww | exact any_bl | exact all_bl | rfl)
local macro_rules | `(tactic| walk_at "ev") => `(tactic| first | with_reducible exact c0 | ((with_reducible apply v0); rfl) | with_reducible exact a0 | with_reducible assumption | ((with_reducible apply aCons_ev); (focus walk_at "ev"); (focus walk_at "ev")) | ((with_reducible apply bindA_ev); (focus walk_at "ev"); (focus walk_at "op")) | ((with_reducible apply bind2_ev); (focus walk_at "ev"); (focus walk_at "ev"); (focus walk_at "op")) | ((with_reducible apply bind1_ev); (focus walk_at "ev"); (focus walk_at "op")) | ((with_reducible apply asB_ev); (focus walk_at "ev")) | ((with_reducible apply call_ev); (focus walk_at "ev"); (focus first | assumption | rfl)) | ((with_reducible apply truF_ev); (focus walk_at "ev"); (focus first | assumption | rfl)) | ((with_reducible apply notT_ev); (focus walk_at "ev")) | ((with_reducible apply andT_e); (focus walk_at "ev"); (focus (intro hq; walk_at "ev"))) | ((with_reducible apply orT_e); (focus walk_at "ev"); (focus (intro hq; walk_at "ev"))) | ((with_reducible apply seq_tup); (focus walk_at "ev")) | ((with_reducible apply seq_lst); (focus walk_at "ev")) | ((with_reducible apply seq_str); (focus walk_at "ev")))
local macro_rules | `(tactic| walk_at "w1") => `(tactic| with_reducible first | refine wS_seq ?_ | refine wS_set ?_ | refine wS_ret ?_ | refine wS_if ?_ | refine wS_skip ?_ | refine wS_drop ?_ | refine wS_unp ?_ | refine wE_b2 ?_ | refine wE_b1 ?_ | refine wE_bA ?_ | refine wE_bS ?_ | refine wE_call ?_ | refine wA_c ?_ | refine wA_n ?_ | refine wE_c ?_ | refine wO_n ?_ | refine wO_s ?_ | refine wT_asB ?_ | refine wT_tru ?_ | refine wT_not ?_ | refine wT_and ?_ | refine wT_or ?_ | refine wT_yes ?_ | refine wE_and ?_ | refine wE_or ?_ | refine wE_if ?_ | refine wI_seq ?_ | refine wI_rng ?_ | refine ex_bl ?_ | refine ex_trA ?_ | refine ex_trB ?_ | refine ex_nat ?_ | refine ex_int ?_ | refine ex_unT ?_ | refine ex_unL ?_ | refine and_t ?_ | refine and_f ?_ | refine and_nt ?_ | refine and_nf ?_)
local macro_rules | `(tactic| walk_at "w") => `(tactic| repeat (first | walk_at "w1" | refine wE_v (by rfl) ?_ | ((with_reducible refine wS_par2 ?_ ?_); focus (simp; done)) | ((with_reducible refine wS_par3 ?_ ?_); focus (simp; done)) | ((with_reducible refine wS_setN ?_ ?_); focus (simp; done)) | ((with_reducible apply ex_op); focus (first | exact seqOf_wd | with_reducible exact eq_ss | with_reducible exact ne_ss | with_reducible exact eq_ww | with_reducible exact ne_ww | with_reducible exact eq_ii | with_reducible exact ne_ii | with_reducible exact lt_ii | with_reducible exact gt_ii | with_reducible exact le_ii | with_reducible exact ge_ii | exact all_true' _ _ | walk_at "op")) ))
def wL (fs : List Fe) (env : Env) (s : Sto) (Q : List Dt → Sto → Prop) : Prop := ∃ ds s', evalL fs env s = some (ds, s') ∧ Q ds s'
theorem wL_n {env : Env} {s : Sto} {Q : List Dt → Sto → Prop} (q : Q [] s) : wL [] env s Q := ⟨[], s, rfl, q⟩
theorem wL_c {f : Fe} {fs : List Fe} {env : Env} {s : Sto} {Q : List Dt → Sto → Prop} (h : wE f env s fun d s1 => wL fs env s1 fun ds s2 => Q (d :: ds) s2) : wL (f :: fs) env s Q := by
  obtain ⟨d, s1, e1, ds, s2, e2, q⟩ := h
  exact ⟨_, s2, ev_cons e1 e2, q⟩
theorem wS_parN {is : List Nat} {fs : List Fe} {env : Env} {s : Sto} {N : Env → Sto → Prop} {R : Dt → Sto → Prop} (h1 : is.all (fun i => decide (i < env.length)) = true) (h : wL fs env s fun ds s' => is.length = ds.length ∧ N (setL is ds env) s') : wS (parNS is fs) env s N R := by
  obtain ⟨ds, s', e, hl, q⟩ := h
  exact ⟨_, s', parN_ev h1 e hl, .inl ⟨_, rfl, q⟩⟩
def namU : List (Str × List Nat) := [("abcd", [97, 98, 99, 100]), ("zyxw", [122, 121, 120, 119]), ("mbxa", [109, 98, 120, 97]), ("qdke", [113, 100, 107, 101])]
def shpU : List (Str × List (List Nat)) := [("a", [[0]]), ("a b", [[0], [1]]), ("a ba", [[0], [1, 0]]), ("a ba c", [[0], [1, 0], [2]]), ("a ba cab", [[0], [1, 0], [2, 0, 1]]), ("a ba cb", [[0], [1, 0], [2, 1]]), ("a b cab", [[0], [1], [2, 0, 1]]), ("a ba ca", [[0], [1, 0], [2, 0]]), ("a b c d", [[0], [1], [2], [3]]), ("a ba cab dc", [[0], [1, 0], [2, 0, 1], [3, 2]]),
  ("a ba ca dbc", [[0], [1, 0], [2, 0], [3, 1, 2]]), ("a ba c dc", [[0], [1, 0], [2], [3, 2]]), ("a b ca db", [[0], [1], [2, 0], [3, 1]]), ("a ba cb dcb", [[0], [1, 0], [2, 1], [3, 2, 1]]), ("a b c", [[0], [1], [2]]), ("a ba cb", [[0], [1, 0], [2, 1]])]
def entW (L : List Nat) (w : List Nat) : Nat × List Nat := (L.getD (w.headD 0) 0, sortN (w.tail.map fun i => L.getD i 0))
def entU (L : List Nat) (ws : List (List Nat)) : Ents := sortE (ws.map (entW L))
def lettersB : Fs := (seqS (setS 5 (lcF (seqF (fVar 4)) (tgN 6) yesT (bind2 (fVar 2) (bind2 (toStrOnly (fC (.str "abcd"))) (fVar 6) sidxG) ixA) [6])) (appS 3 (bindA (aCons (bind2 (fVar 5) (fC (.int 0)) ixA) (aCons (bindA (aCons (bindA (aCons (bindS (fVar 5) (oSome (fC (.int 1))) oNone sliceG) aNil) sortedG_) aNil) toTupG) aNil)) tupG)))
def lettersR : Fe := bindA (aCons (bindA (aCons (fVar 3) aNil) sortedG_) aNil) toTupG
theorem split_tab : ∀ h ∈ shpU, ∀ s : Sto, splitG s (.str h.1) (.str " ") = some (.lst (h.2.map fun w => wd (w.map (97 + ·)))) := by
  intro h hh
  simp only [shpU, List.mem_cons, List.not_mem_nil, or_false] at hh
  rcases hh with rfl | rfl | rfl | rfl | rfl | rfl | rfl | rfl | rfl | rfl | rfl | rfl | rfl | rfl | rfl | rfl <;> intro s <;> kernel_rfl
theorem letters_tab : ∀ t ∈ namU, ∀ h ∈ shpU, ∀ (p x1 : Option Dt) (s : Sto), seqS (forF (fun _ s => some (h.2.map fun w => wd (w.map (97 + ·)), s)) (tgN 4) lettersB) (retS lettersR) [p, x1, some (.str t.1), some (.lst []), none, none, none] s = some (.rt (.tup (entL (entU t.2 h.2))), s) := by
  intro t ht h hh
  simp only [namU, shpU, List.mem_cons, List.not_mem_nil, or_false] at ht hh
  rcases ht with rfl | rfl | rfl | rfl <;> rcases hh with rfl | rfl | rfl | rfl | rfl | rfl | rfl | rfl | rfl | rfl | rfl | rfl | rfl | rfl | rfl | rfl <;> intro p x1 s <;> kernel_rfl
def belD (E : Ents) : Dt := .dct (E.map fun e => (.inr (strW [e.1]), .lst (onesD (downN E e.1))))
theorem bel_tab : ∀ t ∈ namU, ∀ h ∈ shpU, ∀ s : Sto, V_law_below_k32 [.tup (entL (entU t.2 h.2))] s = some (belD (entU t.2 h.2), s) := by
  intro t ht h hh
  simp only [namU, shpU, List.mem_cons, List.not_mem_nil, or_false] at ht hh
  rcases ht with rfl | rfl | rfl | rfl <;> rcases hh with rfl | rfl | rfl | rfl | rfl | rfl | rfl | rfl | rfl | rfl | rfl | rfl | rfl | rfl | rfl | rfl <;> intro s <;> kernel_rfl
structure Eu (E : Ents) : Prop where
  cl : ClE E
  n : E.length ≤ 4
  n0 : E ≠ []
  i : IncL E
  up : (E.map (·.1)).Pairwise (· < ·)
  bel : ∀ s : Sto, V_law_below_k32 [.tup (entL E)] s = some (belD E, s)
  rank : ∃ w : Nat → Nat, ∀ e ∈ E, ∀ a ∈ e.2, w a < w e.1
theorem ent_eu {t : Str × List Nat} (ht : t ∈ namU) {h : Str × List (List Nat)} (hh : h ∈ shpU) : Eu (entU t.2 h.2) := by
  have z : ∀ t ∈ namU, ∀ h ∈ shpU, ((entU t.2 h.2).map (·.1)).Nodup ∧ (∀ e ∈ entU t.2 h.2, e.2.length ≤ 10) ∧ (∀ e ∈ entU t.2 h.2, ∀ d ∈ e.2, d ∈ (entU t.2 h.2).map (·.1)) ∧ (entU t.2 h.2).length ≤ 4 ∧
      (∀ c ∈ (entU t.2 h.2).map (·.1), 97 ≤ c ∧ c ≤ 122) ∧ (entU t.2 h.2) ≠ [] ∧ (∀ e ∈ entU t.2 h.2, e.2.Pairwise (· < ·)) ∧ ((entU t.2 h.2).map (·.1)).Pairwise (· < ·) ∧ ∀ e ∈ entU t.2 h.2, ∀ a ∈ e.2, t.2.idxOf a < t.2.idxOf e.1 := by decide +kernel
  obtain ⟨a1, a2, a3, a4, a5, a6, a7, a8, a9⟩ := z t ht h hh
  exact ⟨⟨⟨a1, a2⟩, a3, by omega, a5⟩, a4, a6, a7, a8, fun s => bel_tab t ht h hh s, _, a9⟩
section
variable {E : Ents}
theorem Eu.rch (h : Eu E) : ∃ w : Nat → Nat, ∀ c a, Rch E c a → w a < w c := by
  obtain ⟨w, hw⟩ := h.rank
  have one : ∀ c a, a ∈ lesN E c → w a < w c := fun c a ha => by
    obtain ⟨e, he, e1, e2⟩ := les_in ha
    rw [← e1]
    exact hw e he a e2
  refine ⟨w, fun c a hr => ?_⟩
  induction hr with
  | one hd => exact one _ _ hd
  | more _ hd ih => exact Nat.lt_trans (one _ _ hd) ih
theorem Eu.irr (h : Eu E) (c : Nat) : c ∉ downN E c := fun z => by
  obtain ⟨w, hw⟩ := h.rch
  exact Nat.lt_irrefl _ (hw c c ((down_mem h.cl).mp z))
end
variable {dp : Fn} {Sp : Addr → Nat → Sto → Prop}
theorem wF_pickT (D : Dip dp Sp) {p : Addr} {n : Nat} {s : Sto} {ds : List Dt} {Q : Dt → Sto → Prop} (h : Sp p n s) (hn : n < 1000000) (h0 : ds ≠ []) (hl : ds.length < 1000000) (q : ∀ d s', d ∈ ds → Sp p (n + 1) s' → Q d s') : wF (V_law_pick_k01 dp) [.ref p, .tup ds] s Q := by
  have hp : 0 < ds.length := List.length_pos_iff.mpr h0
  obtain ⟨r, s', e, r1, r2, h'⟩ := D.draw (m := ((ds.length : Nat) : Int)) h hn (by omega) (by omega)
  obtain ⟨k, rfl⟩ := Int.eq_ofNat_of_zero_le r1
  have hk : k < ds.length := by omega
  exact ⟨ds[k], s', fn_rt (ret_ev (bind2_ev (v0 rfl) (call_ev (aCons_ev (v0 rfl) (aCons_ev (bindA_ev (aCons_ev (v0 rfl) a0) rfl) a0)) e) (ixA_tup (List.getElem?_eq_getElem hk)))), q _ _ (List.getElem_mem hk) h'⟩
theorem wF_lets32 (D : Dip dp Sp) {p : Addr} {n : Nat} {s : Sto} {Q : Dt → Sto → Prop} (h : Sp p n s) (hn : n < 900000) (q : ∀ E s', Eu E → Sp p (n + 2) s' → Q (.tup (entL E)) s') : wF (V_law_letters_k32 dp) [.ref p] s Q := by
  refine wF_fn ?_
  delta F_law_letters_k32
  walk_at "w"
  refine wS_ext (l := [.str "a", .str "a b", .str "a ba", .str "a ba c", .str "a ba cab", .str "a ba cb", .str "a b cab", .str "a ba ca", .str "a b c d", .str "a ba cab dc"]) rfl ?_
  walk_at "w"
  refine ⟨_, rfl, by decide, ?_⟩
  walk_at "w"
  refine wS_parN (by simp) (wL_c (wE_call (wA_c (wE_v rfl (wA_c (wE_bA (wA_c (wE_c (wA_c (wE_c (wA_c (wE_c (wA_c (wE_c (wA_n ⟨.lst [.str "abcd", .str "zyxw", .str "mbxa", .str "qdke"], rfl, wA_n ?_⟩)))))))))))))))
  refine wF_pick D h (by omega) (by simp) (by simp) fun d s1 hd h1 => ?_
  have ht : ∃ t ∈ namU, d = .str t.1 := by
    simp only [List.mem_cons, List.not_mem_nil, or_false] at hd
    rcases hd with rfl | rfl | rfl | rfl
    · exact ⟨_, List.mem_cons_self, rfl⟩
    · exact ⟨_, List.mem_cons_of_mem _ List.mem_cons_self, rfl⟩
    · exact ⟨_, List.mem_cons_of_mem _ (List.mem_cons_of_mem _ List.mem_cons_self), rfl⟩
    · exact ⟨_, List.mem_cons_of_mem _ (List.mem_cons_of_mem _ (List.mem_cons_of_mem _ List.mem_cons_self)), rfl⟩
  obtain ⟨t, ht, rfl⟩ := ht
  clear hd
  refine wL_c (wE_bA (wA_n ⟨.lst [], rfl, wL_n ⟨rfl, ?_⟩⟩))
  have main : ∀ (x1 : List Dt), x1 = shpU.map (fun h => .str h.1) → wS (seqS (forF (seqF (bind2 (toStrOnly (callF (V_law_pick_k01 dp) (aCons (fVar 0) (aCons (fVar 1) aNil)))) (fC (.str " ")) splitG)) (tgN 4) lettersB) (retS lettersR)) [some (.ref p), some (.lst x1), some (.str t.1), some (.lst []), none, none, none] s1 (fun _ s' => Q .non s') Q := by
    rintro x1 rfl
    have hf : wI (seqF (bind2 (toStrOnly (callF (V_law_pick_k01 dp) (aCons (fVar 0) (aCons (fVar 1) aNil)))) (fC (.str " ")) splitG)) [some (.ref p), some (.lst (shpU.map (fun h => .str h.1))), some (.str t.1), some (.lst []), none, none, none] s1 (fun ds s2 => ∃ h ∈ shpU, ds = h.2.map (fun w => wd (w.map (97 + ·))) ∧ Sp p (n + 2) s2) := by
      refine wI_seq (wE_b2 (wE_toStr (wE_call (wA_c (wE_v rfl (wA_c (wE_v rfl (wA_n ?_))))))))
      refine wF_pick D h1 (by omega) (by simp [shpU]) (by simp [shpU]) fun d s2 hd h2 => ?_
      obtain ⟨g, hg, rfl⟩ := List.mem_map.mp hd
      exact ⟨g.1, rfl, wE_c ⟨_, split_tab g hg s2, _, rfl, g, hg, rfl, h2⟩⟩
    obtain ⟨ds, s2, e1, g, hg, rfl, h2⟩ := hf
    have e2 := letters_tab t ht g hg (some (.ref p)) (some (.lst (shpU.map (fun h => .str h.1)))) s2
    refine ⟨_, s2, ?_, .inr ⟨_, rfl, q _ s2 (ent_eu ht hg) h2⟩⟩
    unfold seqS at e2 ⊢
    have e3 : forF (seqF (bind2 (toStrOnly (callF (V_law_pick_k01 dp) (aCons (fVar 0) (aCons (fVar 1) aNil)))) (fC (.str " ")) splitG)) (tgN 4) lettersB [some (.ref p), some (.lst (shpU.map (fun h => .str h.1))), some (.str t.1), some (.lst []), none, none, none] s1 = forF (fun _ s => some (g.2.map fun w => wd (w.map (97 + ·)), s)) (tgN 4) lettersB [some (.ref p), some (.lst (shpU.map (fun h => .str h.1))), some (.str t.1), some (.lst []), none, none, none] s2 := by
      unfold forF
      rw [e1]
    rw [e3]
    exact e2
  exact main _ rfl

end DL

namespace DL
open PySem PySem.Spec PyProof.Rows L2
local macro_rules | `(tactic| walk_at "op") => `(tactic| first | assumption | with_reducible rfl | exact cat_w (by omega) | exact sub_nn (by omega) | exact add_nn | exact at_w (by omega) (by assumption) | exact len_w (by omega) | exact in_l1 | exact notin_l1 | exact in_t1 | exact notin_t1 | exact in_k1 | exact notin_k1 | exact in_wl | exact notin_wl | exact in_wt | exact notin_wt | exact in_kd | exact notin_kd | exact eq_ww | exact ne_ww | exact any_bl | exact all_bl | rfl)
local macro_rules | `(tactic| walk_at "ev") => `(tactic| first | with_reducible exact c0 | ((with_reducible apply v0); rfl) | with_reducible exact a0 | with_reducible assumption | ((with_reducible apply aCons_ev); (focus walk_at "ev"); (focus walk_at "ev")) | ((with_reducible apply bindA_ev); (focus walk_at "ev"); (focus walk_at "op")) | ((with_reducible apply bind2_ev); (focus walk_at "ev"); (focus walk_at "ev"); (focus walk_at "op")) | ((with_reducible apply bind1_ev); (focus walk_at "ev"); (focus walk_at "op")) | ((with_reducible apply asB_ev); (focus walk_at "ev")) | ((with_reducible apply call_ev); (focus walk_at "ev"); (focus first | assumption | rfl)) | ((with_reducible apply truF_ev); (focus walk_at "ev"); (focus first | assumption | rfl)) | ((with_reducible apply notT_ev); (focus walk_at "ev")) | ((with_reducible apply andT_e); (focus walk_at "ev"); (focus (intro hq; walk_at "ev"))) | ((with_reducible apply orT_e); (focus walk_at "ev"); (focus (intro hq; walk_at "ev"))) | ((with_reducible apply seq_tup); (focus walk_at "ev")) | ((with_reducible apply seq_lst); (focus walk_at "ev")) | ((with_reducible apply seq_str); (focus walk_at "ev")))
local macro_rules | `(tactic| walk_at "w1") => `(tactic| with_reducible first | refine wS_seq ?_ | refine wS_set ?_ | refine wS_ret ?_ | refine wS_if ?_ | refine wS_skip ?_ | refine wS_drop ?_ | refine wS_unp ?_ | refine wE_b2 ?_ | refine wE_b1 ?_ | refine wE_bA ?_ | refine wE_bS ?_ | refine wE_call ?_ | refine wA_c ?_ | refine wA_n ?_ | refine wE_c ?_ | refine wO_n ?_ | refine wO_s ?_ | refine wT_asB ?_ | refine wT_tru ?_ | refine wT_not ?_ | refine wT_and ?_ | refine wT_or ?_ | refine wT_yes ?_ | refine wE_and ?_ | refine wE_or ?_ | refine wE_if ?_ | refine wI_seq ?_ | refine wI_rng ?_ | refine ex_bl ?_ | refine ex_trA ?_ | refine ex_trB ?_ | refine ex_nat ?_ | refine ex_int ?_ | refine ex_unT ?_ | refine ex_unL ?_ | refine and_t ?_ | refine and_f ?_ | refine and_nt ?_ | refine and_nf ?_)
local macro_rules | `(tactic| walk_at "w") => `(tactic| repeat (first | walk_at "w1" | refine wE_v (by rfl) ?_ | ((with_reducible refine wS_par2 ?_ ?_); focus (simp; done)) | ((with_reducible refine wS_par3 ?_ ?_); focus (simp; done)) | ((with_reducible refine wS_setN ?_ ?_); focus (simp; done)) | ((with_reducible apply ex_op); focus (first | exact seqOf_wd | with_reducible exact eq_ss | with_reducible exact ne_ss | with_reducible exact eq_ww | with_reducible exact ne_ww | with_reducible exact eq_ii | with_reducible exact ne_ii | with_reducible exact lt_ii | with_reducible exact gt_ii | with_reducible exact le_ii | with_reducible exact ge_ii | exact all_true' _ _ | walk_at "op")) ))
variable {dp : Fn} {Sp : Addr → Nat → Sto → Prop}
structure Fu (E : Ents) (rs : List Ru) : Prop where
  e : Eu E
  n : rs.length ≤ 6
  r : ∀ r ∈ rs, ruL (E.map (·.1)) r
  f : ∀ r ∈ rs, fallB E r = true
theorem bel_get {E : Ents} {s : Sto} {c : Nat} (h : c ∈ E.map (·.1)) : ixA s (belD E) (wd [c]) = some (.lst (onesD (downN E c))) := by
  have e : belD E = .dct ((E.map (·.1)).map fun c => (.inr (strW [c]), .lst (onesD (downN E c)))) := by unfold belD; rw [List.map_map]; rfl
  rw [e]
  exact get_kd h
theorem wF_rule32 (D : Dip dp Sp) {E : Ents} (hE : Eu E) {p : Addr} {n : Nat} {s : Sto} {Q : Dt → Sto → Prop} (h : Sp p n s) (hn : n < 900000) (q : ∀ r s', ruL (E.map (·.1)) r → fallB E r = true → Sp p (n + 5) s' → Q (Ru.d r) s') : wF (V_law_rule_k32 dp) [.ref p, .tup (entL E), belD E] s Q := by
  have h3 := hE.n
  have q' : ∀ (r : Ru) (d : Dt) (m : Nat) (s' : Sto), ruL (E.map (·.1)) r → fallB E r = true → d = Ru.d r → Sp p m s' → m ≤ n + 5 → Q d s' := fun r d m s' h1 h1' h2 h3 h4 => by rw [h2]; exact q r s' h1 h1' (D.mono h3 h4)
  refine wF_fn ?_
  delta F_law_rule_k32
  walk_at "w"
  refine wF_draw D h (by omega) (by decide) (by decide) fun k s1 hk h1 => ?_
  walk_at "w"
  refine wF_pick D h1 (by omega) (by simp) (by simp) fun d s2 hd h2 => ?_
  have hb : ∃ b, d = sideD b := by
    simp only [List.mem_cons, List.not_mem_nil, or_false] at hd
    rcases hd with rfl | rfl
    · exact ⟨true, rfl⟩
    · exact ⟨false, rfl⟩
  obtain ⟨b, rfl⟩ := hb
  clear hd
  walk_at "w"
  refine ⟨fun _ => ?_, fun _ => ?_⟩
  · walk_at "w"
    exact q' (.drop 1 b) _ _ _ ⟨by decide, by decide⟩ rfl rfl h2 (by omega)
  walk_at "w"
  refine ⟨fun _ => ?_, fun _ => ?_⟩
  · walk_at "w"
    refine wF_draw D h2 (by omega) (by decide) (by decide) fun j s3 hj h3 => ?_
    have ga : addAll s3 (.int 2) (.int ((j : Nat) : Int)) = some (.int ((2 + j : Nat) : Int)) := add_nn (a := 2)
    walk_at "w"
    exact q' (.drop (2 + j) b) _ _ _ ⟨by omega, by omega⟩ rfl rfl h3 (by omega)
  walk_at "w"
  refine ⟨fun _ => ?_, fun _ => ?_⟩
  · walk_at "w"
    refine wF_draw D h2 (by omega) (by decide) (by decide) fun j s3 hj h3 => ?_
    walk_at "w"
    refine ⟨fun _ => ?_, fun _ => ?_⟩
    · walk_at "w"
      exact q' .empty _ _ _ trivial rfl rfl h3 (by omega)
    · walk_at "w"
      exact q' (.half b) _ _ _ trivial rfl rfl h3 (by omega)
  walk_at "w"
  refine ⟨fun _ => ?_, fun _ => ?_⟩
  · walk_at "w"
    exact q' (.half b) _ _ _ trivial rfl rfl h2 (by omega)
  walk_at "w"
  refine ⟨fun _ => ?_, fun _ => ?_⟩
  · walk_at "w"
    exact q' (.lower b) _ _ _ trivial rfl rfl h2 (by omega)
  have hne : entL E ≠ [] := fun z => hE.n0 (List.map_eq_nil_iff.mp z)
  walk_at "w"
  refine wF_pickT D h2 (by omega) hne (by unfold entL; rw [List.length_map]; omega) fun d s3 hd h3' => ?_
  obtain ⟨e, he, rfl⟩ := List.mem_map.mp hd
  have hc : e.1 ∈ E.map (·.1) := List.mem_map.mpr ⟨e, he, rfl⟩
  have g0 : ixA s3 (.tup [wd [e.1], .tup (e.2.map fun c => wd [c])]) (.int 0) = some (wd [e.1]) := rfl
  have gb := bel_get (s := s3) hc
  have hdl := down_len hE.cl e.1
  have ga : addAll s3 (.lst [.str ""]) (.lst (onesD (downN E e.1))) = some (.lst ([wd []] ++ onesD (downN E e.1))) := cat_l (by rw [List.length_map]; show 1 + _ ≤ _; omega)
  walk_at "w"
  refine wF_pick D h3' (by omega) (by simp) (by rw [List.length_append, List.length_map]; show 1 + _ < _; omega) fun d s4 hd h4 => ?_
  have hv : ∃ v, d = wd v ∧ ruL (E.map (·.1)) (.put e.1 v b) ∧ fallB E (.put e.1 v b) = true := by
    rcases List.mem_append.mp hd with hd | hd
    · exact ⟨[], List.mem_singleton.mp hd, ⟨hc, fun a ha => absurd ha List.not_mem_nil, (fun z => by cases z), by decide⟩, rfl⟩
    · obtain ⟨a, ha, rfl⟩ := List.mem_map.mp hd
      refine ⟨[a], rfl, ⟨hc, fun x hx => by rw [List.mem_singleton.mp hx]; exact down_let hE.cl ha, (fun z => hE.irr e.1 (by cases z; exact ha)), by show 1 ≤ 3; decide⟩, ?_⟩
      show (decide ([a] = []) || decide ([a] ∈ (downN E e.1).map fun a => [a])) = true
      rw [decide_eq_true (List.mem_map.mpr ⟨a, ha, rfl⟩)]
      simp
  obtain ⟨v, rfl, hr1, hr2⟩ := hv
  walk_at "w"
  exact q' _ _ _ _ hr1 hr2 rfl h4 (by omega)
theorem wF_tome (D : Dip dp Sp) {p : Addr} {n : Nat} {s : Sto} {Q : Dt → Sto → Prop} (h : Sp p n s) (hn : n < 800000) (q : ∀ E rs s', Fu E rs → Sp p (n + 40) s' → Q (bookD E rs) s') : wF (V_law_tome_k32 dp) [.ref p] s Q := by
  refine wF_fn ?_
  delta F_law_tome_k32
  walk_at "w"
  refine wF_lets32 D h (by omega) fun E s1 hE h1 => ?_
  have hb := hE.bel s1
  walk_at "w"
  refine wF_eq hb ?_
  walk_at "w"
  refine wE_lcR (fun ds j s => Sp p (n + 3 + 5 * j) s ∧ ∃ rs : List Ru, ds = rs.map Ru.d ∧ rs.length = j ∧ ∀ r ∈ rs, ruL (E.map (·.1)) r ∧ fallB E r = true) ?_
  walk_at "w"
  refine wF_pick D h1 (by omega) (by simp) (by simp) fun d s2 hd h2 => ?_
  have hk : ∃ k : Nat, d = .int ((k : Nat) : Int) ∧ k ≤ 6 := by
    simp only [List.mem_cons, List.not_mem_nil, or_false] at hd
    rcases hd with rfl | rfl | rfl | rfl | rfl | rfl | rfl | rfl | rfl
    · exact ⟨0, rfl, by omega⟩
    · exact ⟨1, rfl, by omega⟩
    · exact ⟨2, rfl, by omega⟩
    · exact ⟨2, rfl, by omega⟩
    · exact ⟨2, rfl, by omega⟩
    · exact ⟨3, rfl, by omega⟩
    · exact ⟨3, rfl, by omega⟩
    · exact ⟨4, rfl, by omega⟩
    · exact ⟨6, rfl, by omega⟩
  obtain ⟨k, rfl, hk⟩ := hk
  clear hd
  refine ⟨k, rfl, by omega, ⟨D.mono h2 (by omega), [], rfl, rfl, fun r hr => absurd hr List.not_mem_nil⟩, ?_, ?_⟩
  · rintro j ds s hj hd ⟨hs, rs, rfl, hl, hr⟩
    walk_at "w"
    refine wF_rule32 D hE hs (by omega) fun r s' hr' hf' hs' => ?_
    refine ⟨D.mono hs' (by omega), rs ++ [r], by rw [List.map_append]; rfl, by rw [List.length_append, hl]; rfl, fun x hx => ?_⟩
    rcases List.mem_append.mp hx with hx | hx
    · exact hr x hx
    · rw [List.mem_singleton.mp hx]; exact ⟨hr', hf'⟩
  rintro _ s3 hds ⟨h3, rs, rfl, hl, hr⟩
  walk_at "w"
  refine wF_draw D h3 (by omega) (by decide) (by decide) fun j s4 hj h4 => ?_
  walk_at "w"
  refine ⟨fun _ => ?_, fun _ => ?_⟩
  · have gs : sliceG s4 (.lst (rs.map Ru.d)) none (some 4) = some (.lst ((rs.take 4).map Ru.d)) := by
      show some (Dt.lst (cutD (rs.map Ru.d) none (some ((4 : Nat) : Int)))) = _
      rw [cutD_take, List.map_take]
    have ht : (rs.take 4).length ≤ 4 := by rw [List.length_take]; omega
    have ga : addAll s4 (.lst [.tup [.str "drop", .int 1, .str "left"], .tup [.str "lower", .str "right"]]) (.lst ((rs.take 4).map Ru.d)) = some (.lst ((Ru.drop 1 true :: Ru.lower false :: rs.take 4).map Ru.d)) := cat_l (by rw [List.length_map]; show 2 + _ ≤ _; omega)
    walk_at "w"
    refine q E (Ru.drop 1 true :: Ru.lower false :: rs.take 4) s4 ⟨hE, by show (rs.take 4).length + 1 + 1 ≤ 6; omega, fun r hr' => ?_, fun r hr' => ?_⟩ (D.mono h4 (by omega))
    · rcases List.mem_cons.mp hr' with rfl | hr'
      · exact ⟨by decide, by decide⟩
      rcases List.mem_cons.mp hr' with rfl | hr'
      · trivial
      exact (hr r (List.mem_of_mem_take hr')).1
    · rcases List.mem_cons.mp hr' with rfl | hr'
      · rfl
      rcases List.mem_cons.mp hr' with rfl | hr'
      · rfl
      exact (hr r (List.mem_of_mem_take hr')).2
  · walk_at "w"
    exact q E rs s4 ⟨hE, by omega, fun r hr' => (hr r hr').1, fun r hr' => (hr r hr').2⟩ (D.mono h4 (by omega))

end DL

namespace DL
open PySem PySem.Spec PyProof.Rows L2
local macro_rules | `(tactic| walk_at "op") => `(tactic| first | assumption | with_reducible rfl | exact cat_w (by omega) | exact sub_nn (by omega) | exact add_nn | exact at_w (by omega) (by assumption) | exact len_w (by omega) | exact in_l1 | exact notin_l1 | exact in_t1 | exact notin_t1 | exact in_k1 | exact notin_k1 | exact in_wl | exact notin_wl | exact in_wt | exact notin_wt | exact in_kd | exact notin_kd | exact eq_ww | exact ne_ww | exact any_bl | exact all_bl | rfl)
local macro_rules | `(tactic| walk_at "ev") => `(tactic| first | with_reducible exact c0 | ((with_reducible apply v0); rfl) | with_reducible exact a0 | with_reducible assumption | ((with_reducible apply aCons_ev); (focus walk_at "ev"); (focus walk_at "ev")) | ((with_reducible apply bindA_ev); (focus walk_at "ev"); (focus walk_at "op")) | ((with_reducible apply bind2_ev); (focus walk_at "ev"); (focus walk_at "ev"); (focus walk_at "op")) | ((with_reducible apply bind1_ev); (focus walk_at "ev"); (focus walk_at "op")) | ((with_reducible apply asB_ev); (focus walk_at "ev")) | ((with_reducible apply call_ev); (focus walk_at "ev"); (focus first | assumption | rfl)) | ((with_reducible apply truF_ev); (focus walk_at "ev"); (focus first | assumption | rfl)) | ((with_reducible apply notT_ev); (focus walk_at "ev")) | ((with_reducible apply andT_e); (focus walk_at "ev"); (focus (intro hq; walk_at "ev"))) | ((with_reducible apply orT_e); (focus walk_at "ev"); (focus (intro hq; walk_at "ev"))) | ((with_reducible apply seq_tup); (focus walk_at "ev")) | ((with_reducible apply seq_lst); (focus walk_at "ev")) | ((with_reducible apply seq_str); (focus walk_at "ev")))
local macro_rules | `(tactic| walk_at "w1") => `(tactic| with_reducible first | refine wS_seq ?_ | refine wS_set ?_ | refine wS_ret ?_ | refine wS_if ?_ | refine wS_skip ?_ | refine wS_drop ?_ | refine wS_unp ?_ | refine wE_b2 ?_ | refine wE_b1 ?_ | refine wE_bA ?_ | refine wE_bS ?_ | refine wE_call ?_ | refine wA_c ?_ | refine wA_n ?_ | refine wE_c ?_ | refine wO_n ?_ | refine wO_s ?_ | refine wT_asB ?_ | refine wT_tru ?_ | refine wT_not ?_ | refine wT_and ?_ | refine wT_or ?_ | refine wT_yes ?_ | refine wE_and ?_ | refine wE_or ?_ | refine wE_if ?_ | refine wI_seq ?_ | refine wI_rng ?_ | refine ex_bl ?_ | refine ex_trA ?_ | refine ex_trB ?_ | refine ex_nat ?_ | refine ex_int ?_ | refine ex_unT ?_ | refine ex_unL ?_ | refine and_t ?_ | refine and_f ?_ | refine and_nt ?_ | refine and_nf ?_)
local macro_rules | `(tactic| walk_at "w") => `(tactic| repeat (first | walk_at "w1" | refine wE_v (by rfl) ?_ | ((with_reducible refine wS_par2 ?_ ?_); focus (simp; done)) | ((with_reducible refine wS_par3 ?_ ?_); focus (simp; done)) | ((with_reducible refine wS_setN ?_ ?_); focus (simp; done)) | ((with_reducible apply ex_op); focus (first | exact seqOf_wd | with_reducible exact eq_ss | with_reducible exact ne_ss | with_reducible exact eq_ww | with_reducible exact ne_ww | with_reducible exact eq_ii | with_reducible exact ne_ii | with_reducible exact lt_ii | with_reducible exact gt_ii | with_reducible exact le_ii | with_reducible exact ge_ii | exact all_true' _ _ | walk_at "op")) ))
section
variable {E : Ents} {s : Sto}
def mW (E : Ents) (c : Nat) : List (List Nat) := [] :: [c] :: (downN E c).map fun a => [a]
theorem mW_len (hE : ClE E) (c : Nat) : (mW E c).length ≤ E.length + 2 := by
  have := down_len hE c
  unfold mW
  rw [List.length_cons, List.length_cons, List.length_map]
  omega
theorem mW_short {c : Nat} {m : List Nat} (h : m ∈ mW E c) : m.length ≤ 1 := by
  rcases List.mem_cons.mp h with rfl | h
  · exact Nat.zero_le _
  rcases List.mem_cons.mp h with rfl | h
  · exact Nat.le_refl _
  obtain ⟨a, _, rfl⟩ := List.mem_map.mp h
  exact Nat.le_refl _
theorem mW_tam {K : List (List Nat)} {pre : List Nat} {c : Nat} (hK : ∀ y, y ∈ K ↔ y ∈ tamN E pre) (y : List Nat) : y ∈ addsU [] (K.flatMap fun t => (mW E c).map (t ++ ·)) ↔ y ∈ tamN E (pre ++ [c]) := by
  rw [tam_snoc]
  unfold tamS
  rw [addsU_mem, addsU_mem]
  constructor
  · rintro (h | h)
    · exact absurd h List.not_mem_nil
    · obtain ⟨t, ht, h⟩ := List.mem_flatMap.mp h
      obtain ⟨m, hm, rfl⟩ := List.mem_map.mp h
      have ht' := (hK t).mp ht
      rcases List.mem_cons.mp hm with rfl | hm
      · exact .inl (by rw [List.append_nil]; exact ht')
      · refine .inr (List.mem_flatMap.mpr ⟨t, ht', ?_⟩)
        rcases List.mem_cons.mp hm with rfl | hm
        · exact List.mem_map.mpr ⟨c, List.mem_cons_self, rfl⟩
        · obtain ⟨a, ha, rfl⟩ := List.mem_map.mp hm
          exact List.mem_map.mpr ⟨a, List.mem_cons_of_mem _ ha, rfl⟩
  · rintro (h | h)
    · exact .inr (List.mem_flatMap.mpr ⟨y, (hK y).mpr h, List.mem_map.mpr ⟨[], List.mem_cons_self, List.append_nil y⟩⟩)
    · obtain ⟨t, ht, h⟩ := List.mem_flatMap.mp h
      obtain ⟨a, ha, rfl⟩ := List.mem_map.mp h
      refine .inr (List.mem_flatMap.mpr ⟨t, (hK t).mpr ht, List.mem_map.mpr ⟨[a], ?_, rfl⟩⟩)
      rcases List.mem_cons.mp ha with rfl | ha
      · exact List.mem_cons_of_mem _ List.mem_cons_self
      · exact List.mem_cons_of_mem _ (List.mem_cons_of_mem _ (List.mem_map.mpr ⟨a, ha, rfl⟩))
theorem perm_of {K K' : List (List Nat)} (h : K.Nodup) (h' : K'.Nodup) (e : ∀ y, y ∈ K ↔ y ∈ K') : K.Perm K' := (List.perm_ext_iff_of_nodup h h').mpr e
theorem all32_ok (hE : ClE E) {x : List Nat} (hx : ∀ c ∈ x, c ∈ E.map (·.1)) (hl : x.length ≤ 50) (hN : (E.length + 2) ^ x.length ≤ 10000000) : V_law_all_k32 [belD E, wd x] s = some (.lst ((sortW (tamN E x)).map wd), s) := by
  refine wF_out (wF_fn ?_)
  delta F_law_all_k32
  walk_at "w"
  refine wS_for (xs := x) (enc := fun c => wd [c]) (fun pre env s' => s' = s ∧ ∃ (K : List (List Nat)) (x3 x4 x5 x6 : Option Dt), K.Perm (tamN E pre) ∧ env = [some (belD E), some (wd x), some (.lst (K.map wd)), x3, x4, x5, x6]) ?_
  refine wI_seq (wE_v rfl ⟨_, seqOf_wd, rfl, ⟨rfl, [[]], none, none, none, none, List.Perm.refl _, rfl⟩, ?_, ?_⟩)
  · rintro pre c post env s' he ⟨rfl, K, x3, x4, x5, x6, hK, rfl⟩
    refine ⟨_, rfl, ?_⟩
    have hc : c ∈ E.map (·.1) := hx c (by rw [he]; exact List.mem_append_right _ List.mem_cons_self)
    have hp := tam_pow hE he hN
    have hKl : K.length * (E.length + 2) ≤ 10000000 := by rw [hK.length_eq]; exact hp
    have hKm : ∀ y, y ∈ K ↔ y ∈ tamN E pre := fun y => hK.mem_iff
    have hKw : ∀ t ∈ K, t.length ≤ 50 := fun t ht => by
      have h1 := ((tam_mem pre).mp ((hKm t).mp ht)).len
      have h2 := congrArg List.length he
      rw [List.length_append] at h2
      omega
    have hM := mW_len hE c
    walk_at "w"
    refine ⟨_, _, rfl, ?_⟩
    refine wS_seq (wS_for (xs := K) (enc := wd) (fun pk env s2 => s2 = s' ∧ ∃ (x5 x6 : Option Dt), env = [some (belD E), some (wd x), some (.lst (K.map wd)), some (wd [c]), some (.dct (trW (addsU [] (pk.flatMap fun t => (mW E c).map (t ++ ·))))), x5, x6]) ?_)
    walk_at "w"
    refine ⟨rfl, ⟨rfl, x5, x6, rfl⟩, ?_, ?_⟩
    · rintro pk t po env s2 he2 ⟨rfl, x5, x6, rfl⟩
      refine ⟨_, rfl, ?_⟩
      have ht : t ∈ K := by rw [he2]; exact List.mem_append_right _ List.mem_cons_self
      have gb := bel_get (s := s2) hc
      have hd := down_len hE c
      have ga : addAll s2 (.lst [wd [], wd [c]]) (.lst (onesD (downN E c))) = some (.lst ((mW E c).map wd)) := by
        have := cat_l (s := s2) (a := [wd [], wd [c]]) (b := onesD (downN E c)) (by rw [List.length_map]; have := hE.n; show 2 + _ ≤ _; omega)
        rw [this]
        unfold mW onesD
        rw [List.map_cons, List.map_cons, List.map_map]
        rfl
      have hpl := congrArg List.length he2
      rw [List.length_append, List.length_cons] at hpl
      have hb := flat_len (l := pk) (f := fun t => (mW E c).map (t ++ ·)) (m := E.length + 2) fun t _ => by rw [List.length_map]; exact hM
      have hb2 := addsU_len (K := []) (l := pk.flatMap fun t => (mW E c).map (t ++ ·))
      have hb3 : pk.length * (E.length + 2) ≤ K.length * (E.length + 2) := Nat.mul_le_mul_right _ (by omega)
      have eF : ∀ q, addsU [] ((pk ++ [t]).flatMap fun t => (mW E c).map (t ++ ·)) = q ↔ addsU (addsU [] (pk.flatMap fun t => (mW E c).map (t ++ ·))) ((mW E c).map (t ++ ·)) = q := fun q => by
        rw [List.flatMap_append, addsU_app]; simp
      rw [(eF _).mpr rfl]
      rw [List.length_nil] at hb2
      generalize addsU [] (pk.flatMap fun t => (mW E c).map (t ++ ·)) = A at hb2
      refine wS_for (xs := mW E c) (enc := wd) (fun pm env s3 => s3 = s2 ∧ ∃ (x6 : Option Dt), env = [some (belD E), some (wd x), some (.lst (K.map wd)), some (wd [c]), some (.dct (trW (addsU A (pm.map (t ++ ·))))), some (wd t), x6]) ?_
      walk_at "w"
      refine ⟨rfl, ⟨rfl, x6, rfl⟩, ?_, ?_⟩
      · rintro pm m po2 env s3 he3 ⟨rfl, x6, rfl⟩
        refine ⟨_, rfl, ?_⟩
        have hm : m ∈ mW E c := by rw [he3]; exact List.mem_append_right _ List.mem_cons_self
        have hms := mW_short hm
        have htw := hKw t ht
        have gc := cat_w (s := s3) (u := t) (v := m) (by omega)
        have hb4 := addsU_len (K := A) (l := pm.map (t ++ ·))
        have hb5 := congrArg List.length he3
        rw [List.length_append, List.length_cons] at hb5
        rw [List.length_map] at hb4
        have := hE.n
        refine wS_dput (l := trW (addsU A (pm.map (t ++ ·)))) rfl ?_
        walk_at "w"
        refine ⟨by rw [List.length_map]; omega, rfl, some (wd m), ?_⟩
        rw [show (Sum.inr { cps := (t ++ m).toArray } : Key) = .inr (strW (t ++ m)) from rfl, put_trW, List.map_append, addsU_app]
        rfl
      · rintro env s3 ⟨rfl, x6, rfl⟩
        exact ⟨rfl, _, _, rfl⟩
    · rintro env s2 ⟨rfl, x5, x6, rfl⟩
      have gt : toLstG s2 [.dct (trW (addsU [] (K.flatMap fun t => (mW E c).map (t ++ ·))))] = some (.lst ((addsU [] (K.flatMap fun t => (mW E c).map (t ++ ·))).map wd)) := by
        show some (Dt.lst ((trW _).map fun kv => keyD kv.1)) = _
        rw [keys_trW]
      walk_at "w"
      exact ⟨rfl, _, _, _, _, _, perm_of (addsU_nd .nil) (tam_nd _) (mW_tam hKm), rfl⟩
  · rintro env s' ⟨rfl, K, x3, x4, x5, x6, hK, rfl⟩
    have gs := sorted_words (s := s') K
    rw [sortW_eq (hK.nodup_iff.mpr (tam_nd x)) (tam_nd x) fun y => hK.mem_iff] at gs
    walk_at "w"
    exact ⟨rfl, rfl⟩
theorem lt_cast {i j : Nat} : decide (((i : Nat) : Int) < ((j : Nat) : Int)) = decide (i < j) := decide_eq_decide.mpr (by omega)
theorem eq_cast {i j : Nat} : decide (((i : Nat) : Int) = ((j : Nat) : Int)) = decide (i = j) := decide_eq_decide.mpr (by omega)
theorem most32_ok {u v : List Nat} (hv : ∀ c ∈ v, c ∈ E.map (·.1)) (hu : u.length ≤ 1000) : V_law_is_at_most_k32 [belD E, wd u, wd v] s = some (.bl (embB E u v), s) := by
  refine wF_out (wF_fn ?_)
  delta F_law_is_at_most_k32
  walk_at "w"
  refine wS_for (xs := v) (enc := fun c => wd [c]) (fun pre env s' => s' = s ∧ ∃ (i : Nat) (x4 : Option Dt) (post : List Nat), v = pre ++ post ∧ env = [some (belD E), some (wd u), some (wd v), some (.int ((i : Nat) : Int)), x4] ∧ grd E u 0 v = grd E u i post) ?_
  refine wI_seq (wE_v rfl ⟨_, seqOf_wd, rfl, ⟨rfl, 0, none, v, rfl, rfl, rfl⟩, ?_, ?_⟩)
  · rintro pre c post env s' he ⟨rfl, i, x4, post', he', rfl, hg⟩
    refine ⟨_, rfl, ?_⟩
    have hp : post' = c :: post := List.append_cancel_left (he'.symm.trans he)
    subst hp
    have hc : c ∈ E.map (·.1) := hv c (by rw [he]; exact List.mem_append_right _ List.mem_cons_self)
    have g1 := len_w (s := s') (w := u) (by omega)
    have g2 := bel_get (s := s') hc
    have g4 : ltG s' (.int (i : Int)) (.int ((u.length : Nat) : Int)) = some (.bl (decide (i < u.length))) := by
      show some (Dt.bl (decide ((i : Int) < (u.length : Int)))) = _
      congr 2
      exact decide_eq_decide.mpr (by omega)
    have fin : ∀ j x4, j = (if (decide (i < u.length) && lowB E (u.getD i 0) c) = true then i + 1 else i) → s' = s' ∧ ∃ (i : Nat) (x4' : Option Dt) (post_1 : List Nat), v = pre ++ [c] ++ post_1 ∧ [some (belD E), some (wd u), some (wd v), some (.int ((j : Nat) : Int)), x4] = [some (belD E), some (wd u), some (wd v), some (.int ((i : Nat) : Int)), x4'] ∧ grd E u 0 v = grd E u i post_1 := by
      rintro j x4 rfl
      exact ⟨rfl, _, x4, post, by rw [he, List.append_assoc]; rfl, rfl, hg⟩
    walk_at "w"
    rw [lt_cast]
    refine ⟨fun hlt => ?_, fun hlt => ?_⟩
    · have hlt' := of_decide_eq_true hlt
      have g5 := at_w (s := s') (w := u) (k := i) (c := u.getD i 0) (by omega) (by rw [List.getD_eq_getElem?_getD, List.getElem?_eq_getElem hlt']; rfl)
      walk_at "w"
      have e1 : ∀ b : Bool, decide ([u.getD i 0] = [c]) = b → decide (u.getD i 0 = c) = b := fun b h => by rw [← h]; exact decide_eq_decide.mpr ⟨fun z => by rw [z], fun z => by simpa using z⟩
      refine ⟨fun q => ?_, fun q => ?_⟩
      · walk_at "w"
        refine fin (i + 1) _ ?_
        rw [hlt]
        unfold lowB
        rw [e1 _ q]
        rfl
      · walk_at "w"
        refine ⟨fun q2 => ?_, fun q2 => ?_⟩
        · walk_at "w"
          refine fin (i + 1) _ ?_
          rw [hlt]
          unfold lowB
          rw [e1 _ q, q2]
          rfl
        · walk_at "w"
          refine fin i _ ?_
          rw [hlt]
          unfold lowB
          rw [e1 _ q, q2]
          rfl
    · walk_at "w"
      refine fin i _ ?_
      rw [hlt]
      rfl
  · rintro env s' ⟨rfl, i, x4, post, he, rfl, hg⟩
    have hp : post = [] := by
      have := congrArg List.length he
      rw [List.length_append] at this
      exact List.eq_nil_of_length_eq_zero (by omega)
    subst hp
    have g1 := len_w (s := s') (w := u) (by omega)
    walk_at "w"
    refine ⟨?_, rfl⟩
    rw [eq_cast]
    unfold embB
    rw [hg]
    rfl
end
variable {dp : Fn} {Sp : Addr → Nat → Sto → Prop}
theorem wF_start (D : Dip dp Sp) {E : Ents} (hE : Eu E) {p : Addr} {n m : Nat} {s : Sto} {Q : Dt → Sto → Prop} (hm : 1 ≤ m) (h : Sp p n s) (hn : n < 800000) (q : ∀ w s', (∀ c ∈ w, c ∈ E.map (·.1)) → w.length ≤ 6 → (tamN E w).length ≤ m → Sp p (n + 7) s' → Q (wd w) s') : wF (V_law_start_k32 dp) [.ref p, .tup (entL E), belD E, .int ((m : Nat) : Int)] s Q := by
  have h4 := hE.n
  have hne : entL E ≠ [] := fun z => hE.n0 (List.map_eq_nil_iff.mp z)
  refine wF_fn ?_
  delta F_law_start_k32
  obtain ⟨d, s1, e1, hd, h1⟩ := pick_sp D (ds := [.int 1, .int 2, .int 3, .int 3, .int 4, .int 4, .int 5, .int 6, .int 6]) h (by omega) (by simp) (by simp)
  have hk : ∃ k : Nat, d = .int ((k : Nat) : Int) ∧ k ≤ 6 := by
    simp only [List.mem_cons, List.not_mem_nil, or_false] at hd
    rcases hd with rfl | rfl | rfl | rfl | rfl | rfl | rfl | rfl | rfl
    · exact ⟨1, rfl, by omega⟩
    · exact ⟨2, rfl, by omega⟩
    · exact ⟨3, rfl, by omega⟩
    · exact ⟨3, rfl, by omega⟩
    · exact ⟨4, rfl, by omega⟩
    · exact ⟨4, rfl, by omega⟩
    · exact ⟨5, rfl, by omega⟩
    · exact ⟨6, rfl, by omega⟩
    · exact ⟨6, rfl, by omega⟩
  obtain ⟨k, rfl, hk⟩ := hk
  clear hd
  walk_at "w"
  refine wS_for (xs := List.range k) (enc := fun i => .int (0 + ((i : Nat) : Int))) (fun pre env s' => Sp p (n + 1 + pre.length) s' ∧ ∃ (w : List Nat) (x5 x6 : Option Dt), (∀ c ∈ w, c ∈ E.map (·.1)) ∧ w.length ≤ pre.length ∧ (tamN E w).length ≤ m ∧ env = [some (.ref p), some (.tup (entL E)), some (belD E), some (.int ((m : Nat) : Int)), some (wd w), x5, x6]) ?_
  walk_at "w"
  refine wF_eq e1 ⟨k, rfl, by omega, rfl, ⟨h1, [], none, none, fun c hc => absurd hc List.not_mem_nil, Nat.le_refl _, hm, rfl⟩, ?_, ?_⟩
  · rintro pre j post env s' he ⟨hs, w, x5, x6, hw, hwl, ht, rfl⟩
    obtain ⟨hj1, hj2⟩ := range_pre he
    refine ⟨_, rfl, ?_⟩
    walk_at "w"
    refine wF_pickT D hs (by omega) hne (by unfold entL; rw [List.length_map]; omega) fun d s2 hd h2 => ?_
    obtain ⟨e, he', rfl⟩ := List.mem_map.mp hd
    have hc : e.1 ∈ E.map (·.1) := List.mem_map.mpr ⟨e, he', rfl⟩
    have g0 : ixA s2 (.tup [wd [e.1], .tup (e.2.map fun c => wd [c])]) (.int 0) = some (wd [e.1]) := rfl
    have gc := cat_w (s := s2) (u := w) (v := [e.1]) (by show _ + 1 ≤ _; omega)
    have hw' : ∀ c ∈ w ++ [e.1], c ∈ E.map (·.1) := fun c hc' => by
      rcases List.mem_append.mp hc' with hc' | hc'
      · exact hw c hc'
      · rw [List.mem_singleton.mp hc']; exact hc
    have hwl' : (w ++ [e.1]).length ≤ pre.length + 1 := by rw [List.length_append]; show _ + 1 ≤ _; omega
    have hpow : (E.length + 2) ^ (w ++ [e.1]).length ≤ 10000000 := by
      have h1 : (E.length + 2) ^ (w ++ [e.1]).length ≤ 6 ^ (w ++ [e.1]).length := Nat.pow_le_pow_left (by omega) _
      have h2 : 6 ^ (w ++ [e.1]).length ≤ 6 ^ 6 := Nat.pow_le_pow_right (by decide) (by omega)
      have h3 : (6 : Nat) ^ 6 ≤ 10000000 := by decide
      omega
    have ga := all32_ok (s := s2) hE.cl hw' (by omega) hpow
    have gl : leG s2 (.int (((sortW (tamN E (w ++ [e.1]))).length : Nat) : Int)) (.int ((m : Nat) : Int)) = some (.bl (decide ((tamN E (w ++ [e.1])).length ≤ m))) := by
      show some (Dt.bl (decide (_ ≤ _))) = _
      rw [sortW_len]
      congr 2
      exact decide_eq_decide.mpr (by omega)
    have gn : lenG s2 [.lst ((sortW (tamN E (w ++ [e.1]))).map wd)] = some (.int (((sortW (tamN E (w ++ [e.1]))).length : Nat) : Int)) := by rw [len_lst, List.length_map]
    walk_at "w"
    refine wF_eq ga ?_
    refine wA_n ⟨_, gn, wE_v rfl ⟨_, gl, _, rfl, fun q2 => ?_, fun q2 => ?_⟩⟩
    · refine wE_v rfl ⟨D.mono h2 (by rw [List.length_append]; show _ ≤ _ + 1 + (_ + 1); omega), w ++ [e.1], _, _, hw', by rw [List.length_append (as := pre)]; exact hwl', of_decide_eq_true q2, rfl⟩
    · refine wE_v rfl ⟨D.mono h2 (by rw [List.length_append]; show _ ≤ _ + 1 + (_ + 1); omega), w, _, _, hw, by rw [List.length_append]; omega, ht, rfl⟩
  · rintro env s' ⟨hs, w, x5, x6, hw, hwl, ht, rfl⟩
    rw [List.length_range] at hs hwl
    walk_at "w"
    exact q w s' hw (by omega) ht (D.mono hs (by omega))

end DL

namespace DL
open PySem PySem.Spec PyProof.Rows L2
local macro_rules | `(tactic| walk_at "op") => `(tactic| first | assumption | with_reducible rfl | exact cat_w (by omega) | exact sub_nn (by omega) | exact add_nn | exact at_w (by omega) (by assumption) | exact len_w (by omega) | exact in_l1 | exact notin_l1 | exact in_t1 | exact notin_t1 | exact in_k1 | exact notin_k1 | exact in_wl | exact notin_wl | exact in_wt | exact notin_wt | exact in_kd | exact notin_kd | exact eq_ww | exact ne_ww | exact any_bl | exact all_bl | rfl)
local macro_rules | `(tactic| walk_at "ev") => `(tactic| first | with_reducible exact c0 | ((with_reducible apply v0); rfl) | with_reducible exact a0 | with_reducible assumption | ((with_reducible apply aCons_ev); (focus walk_at "ev"); (focus walk_at "ev")) | ((with_reducible apply bindA_ev); (focus walk_at "ev"); (focus walk_at "op")) | ((with_reducible apply bind2_ev); (focus walk_at "ev"); (focus walk_at "ev"); (focus walk_at "op")) | ((with_reducible apply bind1_ev); (focus walk_at "ev"); (focus walk_at "op")) | ((with_reducible apply asB_ev); (focus walk_at "ev")) | ((with_reducible apply call_ev); (focus walk_at "ev"); (focus first | assumption | rfl)) | ((with_reducible apply truF_ev); (focus walk_at "ev"); (focus first | assumption | rfl)) | ((with_reducible apply notT_ev); (focus walk_at "ev")) | ((with_reducible apply andT_e); (focus walk_at "ev"); (focus (intro hq; walk_at "ev"))) | ((with_reducible apply orT_e); (focus walk_at "ev"); (focus (intro hq; walk_at "ev"))) | ((with_reducible apply seq_tup); (focus walk_at "ev")) | ((with_reducible apply seq_lst); (focus walk_at "ev")) | ((with_reducible apply seq_str); (focus walk_at "ev")))
local macro_rules | `(tactic| walk_at "w1") => `(tactic| with_reducible first | refine wS_seq ?_ | refine wS_set ?_ | refine wS_ret ?_ | refine wS_if ?_ | refine wS_skip ?_ | refine wS_drop ?_ | refine wS_unp ?_ | refine wE_b2 ?_ | refine wE_b1 ?_ | refine wE_bA ?_ | refine wE_bS ?_ | refine wE_call ?_ | refine wA_c ?_ | refine wA_n ?_ | refine wE_c ?_ | refine wO_n ?_ | refine wO_s ?_ | refine wT_asB ?_ | refine wT_tru ?_ | refine wT_not ?_ | refine wT_and ?_ | refine wT_or ?_ | refine wT_yes ?_ | refine wE_and ?_ | refine wE_or ?_ | refine wE_if ?_ | refine wI_seq ?_ | refine wI_rng ?_ | refine ex_bl ?_ | refine ex_trA ?_ | refine ex_trB ?_ | refine ex_nat ?_ | refine ex_int ?_ | refine ex_unT ?_ | refine ex_unL ?_ | refine and_t ?_ | refine and_f ?_ | refine and_nt ?_ | refine and_nf ?_)
local macro_rules | `(tactic| walk_at "w") => `(tactic| repeat (first | walk_at "w1" | refine wE_v (by rfl) ?_ | ((with_reducible refine wS_par2 ?_ ?_); focus (simp; done)) | ((with_reducible refine wS_par3 ?_ ?_); focus (simp; done)) | ((with_reducible refine wS_setN ?_ ?_); focus (simp; done)) | ((with_reducible apply ex_op); focus (first | exact seqOf_wd | with_reducible exact eq_ss | with_reducible exact ne_ss | with_reducible exact eq_ww | with_reducible exact ne_ww | with_reducible exact eq_ii | with_reducible exact ne_ii | with_reducible exact lt_ii | with_reducible exact gt_ii | with_reducible exact le_ii | with_reducible exact ge_ii | exact all_true' _ _ | walk_at "op")) ))
def kindU : Ru → Str
  | .drop _ _ => "drop"
  | .half _ => "half"
  | .empty => "empty"
  | .lower _ => "lower"
  | .put _ _ _ => "put"
def resB32 : Fs := (ifS (asB (bind2 (bind2 (fVar 0) (fC (.int 0)) ixA) (fC (.str "drop")) eqG)) (appS 4 (bind2 (bindS (fVar 2) oNone (oSome (fVar 7)) sliceG) (bindS (fVar 2) (oSome (bind2 (fVar 7) (bind2 (fVar 0) (fC (.int 1)) ixA) addAll)) oNone sliceG) addAll)) (ifS (asB (bind2 (bind2 (fVar 0) (fC (.int 0)) ixA) (fC (.str "lower")) eqG)) (extS 4 (lcF (seqF (bind2 (fVar 1) (bind2 (fVar 2) (fVar 7) ixA) ixA)) (tgN 8) yesT (bind2 (bind2 (bindS (fVar 2) oNone (oSome (fVar 7)) sliceG) (fVar 8) addAll) (bindS (fVar 2) (oSome (bind2 (fVar 7) (fC (.int 1)) addAll)) oNone sliceG) addAll) [8])) (ifS (asB (bind2 (bind2 (fVar 2) (fVar 7) ixA) (bind2 (fVar 0) (fC (.int 1)) ixA) eqG)) (appS 4 (bind2 (bind2 (bindS (fVar 2) oNone (oSome (fVar 7)) sliceG) (bind2 (fVar 0) (fC (.int 2)) ixA) addAll) (bindS (fVar 2) (oSome (bind2 (fVar 7) (fC (.int 1)) addAll)) oNone sliceG) addAll)) skipS)))
def sizE : Fe := bind1 (ifV (asB (bind2 (bind2 (fVar 0) (fC (.int 0)) ixA) (fC (.str "drop")) eqG)) (bind2 (bind2 (fVar 3) (bind2 (fVar 0) (fC (.int 1)) ixA) subG) (fC (.int 1)) addAll) (fVar 3)) rg1G
abbrev intsD (l : List Nat) : List Dt := l.map fun k => .int ((k : Nat) : Int)
section
variable {E : Ents} {rs : List Ru} {s : Sto} {x : List Nat}
theorem slT {k : Nat} (h : x.length ≤ 1000) : sliceG s (wd x) none (some ((k : Nat) : Int)) = some (wd (x.take k)) := by
  show sliceG s (.str (strW x)) none (some ((k : Nat) : Int)) = _
  unfold sliceG
  dsimp only
  rw [if_pos (small (by rw [strW_len]; omega)), cut_take]; rfl
theorem slD {k : Nat} (h : x.length ≤ 1000) : sliceG s (wd x) (some ((k : Nat) : Int)) none = some (wd (x.drop k)) := by
  show sliceG s (.str (strW x)) (some ((k : Nat) : Int)) none = _
  unfold sliceG
  dsimp only
  rw [if_pos (small (by rw [strW_len]; omega)), cut_drop]; rfl
theorem wS_out {A : Fs} {env : Env} {e' : Env} {s s' : Sto} (h : wS A env s (fun e s2 => e = e' ∧ s2 = s') (fun _ _ => False)) : A env s = some (.nx e', s') := by
  obtain ⟨o, s2, e, ⟨e2, rfl, rfl, rfl⟩ | ⟨_, _, z⟩⟩ := h
  · exact e
  · exact z.elim
theorem rg1_int {m : Int} (h1 : -1000 ≤ m) (h2 : m ≤ 1000) : rg1G s (.int m) = some (.lst (intsD (List.range m.toNat))) := by
  show (if rgOk 0 m = true then some (Dt.lst (rgD 0 m)) else none) = _
  rw [if_pos (show rgOk 0 m = true from decide_eq_true ⟨by decide, by decide, by omega, by omega, by omega⟩), rgD_range]
theorem res32_run {r : Ru} (k1 : kindU r ≠ "empty") (k2 : kindU r ≠ "half") (hl : x.length ≤ 50) {m : Nat} (hm : m ≤ 60) {l : Bool} (x0 : ixA s r.d (.int 0) = some (.str (kindU r))) (xl : ixA s r.d (.int (-1)) = some (sideD l))
    (h6 : sizE [some r.d, some (edD E), some (wd x), some (.int ((x.length : Nat) : Int)), some (.lst []), none, none, none, none] s = some (.lst (intsD (List.range m)), s)) {F : Nat → List (List Nat)} (hf : ∀ k, (F k).length ≤ 10)
    (hF : ∀ k acc x8, k < m → acc.length < 100000 → resB32 [some r.d, some (edD E), some (wd x), some (.int ((x.length : Nat) : Int)), some (.lst (acc.map wd)), none, some (.lst (intsD (List.range m))), some (.int ((k : Nat) : Int)), x8] s = some (.nx [some r.d, some (edD E), some (wd x), some (.int ((x.length : Nat) : Int)), some (.lst ((acc ++ F k).map wd)), none, some (.lst (intsD (List.range m))), some (.int ((k : Nat) : Int)), x8], s)) :
    V_law_results_k32 [r.d, edD E, wd x] s = some (.lst (((pos m l).flatMap F).map wd), s) := by
  have gl := len_w (s := s) (w := x) (by omega)
  refine wF_out (wF_fn ?_)
  delta F_law_results_k32
  walk_at "w"
  refine ⟨fun h => absurd (of_decide_eq_true h) k1, fun _ => ?_⟩
  walk_at "w"
  refine ⟨fun h => absurd (of_decide_eq_true h) k2, fun _ => ?_⟩
  refine wS_skip (wS_seq (wS_set (wE_eq h6 ?_)))
  have e7 : seqF (ifV (asB (bind2 (bind2 (fVar 0) (bind1 (fC (.int 1)) negG) ixA) (fC (.str "right")) eqG)) (bind1 (fVar 6) revG) (fVar 6)) [some r.d, some (edD E), some (wd x), some (.int ((x.length : Nat) : Int)), some (.lst []), none, some (.lst (intsD (List.range m))), none, none] s = some ((pos m l).map fun k => .int ((k : Nat) : Int), s) := by
    have hc : asB (bind2 (bind2 (fVar 0) (bind1 (fC (.int 1)) negG) ixA) (fC (.str "right")) eqG) [some r.d, some (edD E), some (wd x), some (.int ((x.length : Nat) : Int)), some (.lst []), none, some (.lst (intsD (List.range m))), none, none] s = some (!l, s) := by
      refine asB_ev (bind2_ev (bind2_ev (v0 rfl) (bind1_ev c0 rfl) xl) c0 ?_)
      cases l <;> rfl
    cases l with
    | true => exact seq_lst ((ifV_f hc).trans (v0 rfl))
    | false =>
      have rv : revG s (.lst (intsD (List.range m))) = some (.lst ((pos m false).map fun k => .int ((k : Nat) : Int))) := by
        show some (Dt.lst ((List.range m).map _).reverse) = some (Dt.lst ((List.range m).reverse.map _))
        rw [List.map_reverse]
      exact seq_lst ((ifV_t hc).trans (bind1_ev (v0 rfl) rv))
  refine wS_seq (wS_for (xs := pos m l) (enc := fun k => .int ((k : Nat) : Int)) (fun pre env s' => s' = s ∧ ∃ x7 x8, env = [some r.d, some (edD E), some (wd x), some (.int ((x.length : Nat) : Int)), some (.lst ((pre.flatMap F).map wd)), none, some (.lst (intsD (List.range m))), x7, x8]) ⟨_, s, e7, rfl, ⟨rfl, none, none, rfl⟩, ?_, ?_⟩)
  · rintro pre k post env s' he ⟨rfl, x7, x8, rfl⟩
    refine ⟨_, rfl, ?_⟩
    have hk : k < m := pos_lt (l := l) (by rw [he]; exact List.mem_append_right _ List.mem_cons_self)
    have hpl := congrArg List.length he
    rw [pos_len, List.length_append, List.length_cons] at hpl
    have hb := flat_len (l := pre) (f := F) (m := 10) fun k _ => hf k
    refine wS_go (hF k (pre.flatMap F) x8 hk (by omega)) ⟨rfl, some (.int ((k : Nat) : Int)), x8, ?_⟩
    have e : (pre ++ [k]).flatMap F = pre.flatMap F ++ F k := by rw [List.flatMap_append]; simp
    rw [e]
  · rintro env s' ⟨rfl, x7, x8, rfl⟩
    walk_at "w"
    exact ⟨rfl, rfl⟩
theorem flat_one {α β : Type} (f : α → β) : ∀ l : List α, (l.flatMap fun a => [f a]) = l.map f
  | [] => rfl
  | a :: l => by rw [List.flatMap_cons, flat_one f l]; rfl
theorem flat_if {α β : Type} (q : α → Bool) (f : α → β) : ∀ l : List α, (l.flatMap fun a => if q a = true then [f a] else []) = (l.filter q).map f
  | [] => rfl
  | a :: l => by
    rw [List.flatMap_cons, flat_if q f l, List.filter_cons]
    cases q a <;> rfl
theorem results32_ok (hE : ClE E) {r : Ru} (hr : ruL (E.map (·.1)) r) (hx : ∀ c ∈ x, c ∈ E.map (·.1)) (hl : x.length ≤ 50) : V_law_results_k32 [r.d, edD E, wd x] s = some (.lst ((resN E x r).map wd), s) := by
  have gl := len_w (s := s) (w := x) (by omega)
  cases r with
  | empty =>
    have x0 : ixA s Ru.empty.d (.int 0) = some (.str "empty") := rfl
    refine wF_out (wF_fn ?_)
    delta F_law_results_k32
    walk_at "w"
    refine ⟨fun _ => ?_, fun h => absurd rfl (of_decide_eq_false h)⟩
    walk_at "w"
    exact ⟨rfl, rfl⟩
  | half l =>
    have x0 : ixA s (Ru.half l).d (.int 0) = some (.str "half") := rfl
    have hlf : ((x.length : Nat) : Int) / 2 = ((x.length / 2 : Nat) : Int) := by omega
    have gd : divG s (.int ((x.length : Nat) : Int)) (.int 2) = some (.int ((x.length / 2 : Nat) : Int)) := by
      show (if (0 : Int) < 2 ∧ (2 : Int) < 1073741824 then some (Dt.int (((x.length : Nat) : Int) / 2)) else none) = _
      rw [if_pos ⟨by decide, by decide⟩, hlf]
    have gs : subG s (.int ((x.length : Nat) : Int)) (.int ((x.length / 2 : Nat) : Int)) = some (.int ((x.length - x.length / 2 : Nat) : Int)) := sub_nn (by omega)
    have s1 := slT (s := s) (x := x) (k := x.length / 2) (by omega)
    have s2 := slD (s := s) (x := x) (k := x.length - x.length / 2) (by omega)
    refine wF_out (wF_fn ?_)
    delta F_law_results_k32
    walk_at "w"
    refine ⟨fun h => absurd (of_decide_eq_true h) (show ¬ (("half" : Str) = "empty") by decide), fun _ => ?_⟩
    walk_at "w"
    refine ⟨fun _ => ?_, fun h => absurd rfl (of_decide_eq_false h)⟩
    cases l with
    | true =>
      have x1 : ixA s (Ru.half true).d (.int 1) = some (.str "left") := rfl
      walk_at "w"
      refine ⟨fun _ => ?_, fun h => absurd rfl (of_decide_eq_false h)⟩
      walk_at "w"
      exact ⟨rfl, rfl⟩
    | false =>
      have x1 : ixA s (Ru.half false).d (.int 1) = some (.str "right") := rfl
      walk_at "w"
      refine ⟨fun h => absurd (of_decide_eq_true h) (show ¬ (("right" : Str) = "left") by decide), fun _ => ?_⟩
      walk_at "w"
      exact ⟨rfl, rfl⟩
  | drop n l =>
    obtain ⟨n1, n2⟩ := hr
    have x0 : ixA s (Ru.drop n l).d (.int 0) = some (.str "drop") := rfl
    have x1 : ixA s (Ru.drop n l).d (.int 1) = some (.int ((n : Nat) : Int)) := rfl
    have e : resN E x (.drop n l) = (pos ((x.length : Int) - n + 1).toNat l).flatMap fun k => [x.take k ++ x.drop (k + n)] := (flat_one _ _).symm
    rw [e]
    refine res32_run (r := .drop n l) (show ¬ (("drop" : Str) = "empty") by decide) (show ¬ (("drop" : Str) = "half") by decide) hl (by omega) x0 rfl ?_ (fun k => by show 1 ≤ 10; decide) fun k acc x8 hk ha => ?_
    · have hc : asB (bind2 (bind2 (fVar 0) (fC (.int 0)) ixA) (fC (.str "drop")) eqG) [some (Ru.drop n l).d, some (edD E), some (wd x), some (.int ((x.length : Nat) : Int)), some (.lst []), none, none, none, none] s = some (true, s) := asB_ev (bind2_ev (bind2_ev (v0 rfl) c0 x0) c0 rfl)
      exact bind1_ev ((ifV_t hc).trans (bind2_ev (bind2_ev (v0 rfl) (bind2_ev (v0 rfl) c0 x1) (z := .int (((x.length : Nat) : Int) - ((n : Nat) : Int))) rfl) c0 (z := .int (((x.length : Nat) : Int) - ((n : Nat) : Int) + 1)) rfl)) (rg1_int (by omega) (by omega))
    · have ad : addAll s (.int ((k : Nat) : Int)) (.int ((n : Nat) : Int)) = some (.int ((k + n : Nat) : Int)) := add_nn
      have s1 := slT (s := s) (x := x) (k := k) (by omega)
      have s2 := slD (s := s) (x := x) (k := k + n) (by omega)
      have gc := cat_w (s := s) (u := x.take k) (v := x.drop (k + n)) (by rw [List.length_take, List.length_drop]; omega)
      refine wS_out ?_
      unfold resB32
      walk_at "w"
      refine ⟨fun _ => ?_, fun h => absurd rfl (of_decide_eq_false h)⟩
      refine wS_app (l := acc.map wd) rfl ?_
      walk_at "w"
      exact ⟨by rw [List.length_map]; omega, by rw [words_snoc]; rfl, rfl⟩
  | lower l =>
    have x0 : ixA s (Ru.lower l).d (.int 0) = some (.str "lower") := rfl
    have e : resN E x (.lower l) = (pos x.length l).flatMap fun k => (lesN E (x.getD k 0)).map fun c => x.take k ++ [c] ++ x.drop (k + 1) := rfl
    rw [e]
    refine res32_run (r := .lower l) (show ¬ (("lower" : Str) = "empty") by decide) (show ¬ (("lower" : Str) = "half") by decide) hl (by omega) x0 rfl ?_ (fun k => by rw [List.length_map]; exact hE.few _) fun k acc x8 hk ha => ?_
    · have hc : asB (bind2 (bind2 (fVar 0) (fC (.int 0)) ixA) (fC (.str "drop")) eqG) [some (Ru.lower l).d, some (edD E), some (wd x), some (.int ((x.length : Nat) : Int)), some (.lst []), none, none, none, none] s = some (false, s) := asB_ev (bind2_ev (bind2_ev (v0 rfl) c0 x0) c0 rfl)
      exact bind1_ev ((ifV_f hc).trans (v0 rfl)) (rg1_int (by omega) (by omega))
    · have hc : x[k]? = some (x.getD k 0) := by rw [List.getD_eq_getElem?_getD, List.getElem?_eq_getElem hk]; rfl
      have hm : x.getD k 0 ∈ E.map (·.1) := hx _ (List.mem_of_getElem? hc)
      have gx := at_w (s := s) (w := x) (by omega) hc
      have g2 : ixA s (edD E) (wd [x.getD k 0]) = some (lesD (lesN E (x.getD k 0))) := get_ed hm
      have hfw := hE.few (x.getD k 0)
      have lt : (x.take k).length ≤ 50 := by rw [List.length_take]; omega
      have ld : (x.drop (k + 1)).length ≤ 50 := by rw [List.length_drop]; omega
      refine wS_out ?_
      unfold resB32
      walk_at "w"
      refine ⟨fun h => absurd (of_decide_eq_true h) (show ¬ (("lower" : Str) = "drop") by decide), fun _ => ?_⟩
      walk_at "w"
      refine ⟨fun _ => ?_, fun h => absurd rfl (of_decide_eq_false h)⟩
      refine wS_ext (l := acc.map wd) rfl (wE_lcy (xs := lesN E (x.getD k 0)) (enc := fun d => wd [d]) (fun d => wd (x.take k ++ [d] ++ x.drop (k + 1))) ?_)
      walk_at "w"
      refine ⟨rfl, by omega, fun d hd => ?_, ?_⟩
      · exact ⟨_, s, bind2_ev (bind2_ev (take_ev (v0 rfl) (v0 rfl) (by omega)) (v0 rfl) (cat_w (by show _ + 1 ≤ _; omega))) (drop_ev (k := k + 1) (v0 rfl) (bind2_ev (v0 rfl) c0 add_n1) (by omega)) (cat_w (by rw [List.length_append]; show _ + 1 + _ ≤ _; omega)), rfl, rfl⟩
      · refine ⟨_, rfl, by rw [List.length_map, List.length_map]; omega, ?_, rfl⟩
        rw [List.map_append, List.map_map]
        rfl
  | put c v l =>
    obtain ⟨r1, r2, _, r4⟩ := hr
    have x0 : ixA s (Ru.put c v l).d (.int 0) = some (.str "put") := rfl
    have x1 : ixA s (Ru.put c v l).d (.int 1) = some (wd [c]) := rfl
    have x2 : ixA s (Ru.put c v l).d (.int 2) = some (wd v) := rfl
    have e : resN E x (.put c v l) = (pos x.length l).flatMap fun k => if decide (x[k]? = some c) = true then [x.take k ++ v ++ x.drop (k + 1)] else [] := (flat_if (fun k => decide (x[k]? = some c)) (fun k => x.take k ++ v ++ x.drop (k + 1)) _).symm
    rw [e]
    refine res32_run (r := .put c v l) (show ¬ (("put" : Str) = "empty") by decide) (show ¬ (("put" : Str) = "half") by decide) hl (by omega) x0 rfl ?_ (fun k => by split <;> simp) fun k acc x8 hk ha => ?_
    · have hc : asB (bind2 (bind2 (fVar 0) (fC (.int 0)) ixA) (fC (.str "drop")) eqG) [some (Ru.put c v l).d, some (edD E), some (wd x), some (.int ((x.length : Nat) : Int)), some (.lst []), none, none, none, none] s = some (false, s) := asB_ev (bind2_ev (bind2_ev (v0 rfl) c0 x0) c0 rfl)
      exact bind1_ev ((ifV_f hc).trans (v0 rfl)) (rg1_int (by omega) (by omega))
    · have hc : x[k]? = some (x.getD k 0) := by rw [List.getD_eq_getElem?_getD, List.getElem?_eq_getElem hk]; rfl
      have gx := at_w (s := s) (w := x) (by omega) hc
      have lt : (x.take k).length ≤ 50 := by rw [List.length_take]; omega
      have ld : (x.drop (k + 1)).length ≤ 50 := by rw [List.length_drop]; omega
      have ad : addAll s (.int ((k : Nat) : Int)) (.int 1) = some (.int ((k + 1 : Nat) : Int)) := add_n1
      have s1 := slT (s := s) (x := x) (k := k) (by omega)
      have s2 := slD (s := s) (x := x) (k := k + 1) (by omega)
      have gc1 := cat_w (s := s) (u := x.take k) (v := v) (by omega)
      have gc2 := cat_w (s := s) (u := x.take k ++ v) (v := x.drop (k + 1)) (by rw [List.length_append]; omega)
      refine wS_out ?_
      unfold resB32
      walk_at "w"
      refine ⟨fun h => absurd (of_decide_eq_true h) (show ¬ (("put" : Str) = "drop") by decide), fun _ => ?_⟩
      walk_at "w"
      refine ⟨fun h => absurd (of_decide_eq_true h) (show ¬ (("put" : Str) = "lower") by decide), fun _ => ?_⟩
      walk_at "w"
      refine ⟨fun q => ?_, fun q => ?_⟩
      · have q' : x[k]? = some c := by rw [hc]; have := of_decide_eq_true q; simpa using this
        refine wS_app (l := acc.map wd) rfl ?_
        walk_at "w"
        refine ⟨by rw [List.length_map]; omega, ?_, rfl⟩
        rw [words_snoc, if_pos (decide_eq_true q')]
        rfl
      · have q' : ¬ x[k]? = some c := by rw [hc]; have := of_decide_eq_false q; simpa using this
        walk_at "w"
        refine ⟨?_, rfl⟩
        rw [if_neg (fun z => q' (of_decide_eq_true z)), List.append_nil]
end

end DL

namespace DL
open PySem PySem.Spec PyProof.Rows L2
local macro_rules | `(tactic| walk_at "op") => `(tactic| first | assumption | with_reducible rfl | exact cat_w (by omega) | exact sub_nn (by omega) | exact add_nn | exact at_w (by omega) (by assumption) | exact len_w (by omega) | exact in_l1 | exact notin_l1 | exact in_t1 | exact notin_t1 | exact in_k1 | exact notin_k1 | exact in_wl | exact notin_wl | exact in_wt | exact notin_wt | exact in_kd | exact notin_kd | exact eq_ww | exact ne_ww | exact any_bl | exact all_bl | rfl)
local macro_rules | `(tactic| walk_at "ev") => `(tactic| first | with_reducible exact c0 | ((with_reducible apply v0); rfl) | with_reducible exact a0 | with_reducible assumption | ((with_reducible apply aCons_ev); (focus walk_at "ev"); (focus walk_at "ev")) | ((with_reducible apply bindA_ev); (focus walk_at "ev"); (focus walk_at "op")) | ((with_reducible apply bind2_ev); (focus walk_at "ev"); (focus walk_at "ev"); (focus walk_at "op")) | ((with_reducible apply bind1_ev); (focus walk_at "ev"); (focus walk_at "op")) | ((with_reducible apply asB_ev); (focus walk_at "ev")) | ((with_reducible apply call_ev); (focus walk_at "ev"); (focus first | assumption | rfl)) | ((with_reducible apply truF_ev); (focus walk_at "ev"); (focus first | assumption | rfl)) | ((with_reducible apply notT_ev); (focus walk_at "ev")) | ((with_reducible apply andT_e); (focus walk_at "ev"); (focus (intro hq; walk_at "ev"))) | ((with_reducible apply orT_e); (focus walk_at "ev"); (focus (intro hq; walk_at "ev"))) | ((with_reducible apply seq_tup); (focus walk_at "ev")) | ((with_reducible apply seq_lst); (focus walk_at "ev")) | ((with_reducible apply seq_str); (focus walk_at "ev")))
local macro_rules | `(tactic| walk_at "w1") => `(tactic| with_reducible first | refine wS_seq ?_ | refine wS_set ?_ | refine wS_ret ?_ | refine wS_if ?_ | refine wS_skip ?_ | refine wS_drop ?_ | refine wS_unp ?_ | refine wE_b2 ?_ | refine wE_b1 ?_ | refine wE_bA ?_ | refine wE_bS ?_ | refine wE_call ?_ | refine wA_c ?_ | refine wA_n ?_ | refine wE_c ?_ | refine wO_n ?_ | refine wO_s ?_ | refine wT_asB ?_ | refine wT_tru ?_ | refine wT_not ?_ | refine wT_and ?_ | refine wT_or ?_ | refine wT_yes ?_ | refine wE_and ?_ | refine wE_or ?_ | refine wE_if ?_ | refine wI_seq ?_ | refine wI_rng ?_ | refine ex_bl ?_ | refine ex_trA ?_ | refine ex_trB ?_ | refine ex_nat ?_ | refine ex_int ?_ | refine ex_unT ?_ | refine ex_unL ?_ | refine and_t ?_ | refine and_f ?_ | refine and_nt ?_ | refine and_nf ?_)
local macro_rules | `(tactic| walk_at "w") => `(tactic| repeat (first | walk_at "w1" | refine wE_v (by rfl) ?_ | ((with_reducible refine wS_par2 ?_ ?_); focus (simp; done)) | ((with_reducible refine wS_par3 ?_ ?_); focus (simp; done)) | ((with_reducible refine wS_setN ?_ ?_); focus (simp; done)) | ((with_reducible apply ex_op); focus (first | exact seqOf_wd | with_reducible exact eq_ss | with_reducible exact ne_ss | with_reducible exact eq_ww | with_reducible exact ne_ww | with_reducible exact eq_ii | with_reducible exact ne_ii | with_reducible exact lt_ii | with_reducible exact gt_ii | with_reducible exact le_ii | with_reducible exact ge_ii | exact all_true' _ _ | walk_at "op")) ))
def ordN (n f : Nat) : List Nat := (List.range (n - f)).map (f + ·) ++ List.range f
def adK (x : List Nat) (k : Nat) (acc : List (List Nat × Nat)) (y : List Nat) : List (List Nat × Nat) := if y ≠ x ∧ y ∉ acc.map (·.1) then acc ++ [(y, k)] else acc
def ledF (E : Ents) (rs : List Ru) (x : List Nat) (ks : List Nat) : List (List Nat × Nat) := ks.foldl (fun acc k => (resN E x (rs.getD k .empty)).foldl (adK x k) acc) []
def stU (E : Ents) (rs : List Ru) (x : List Nat) (f : Nat) : List (List Nat × Nat) := ledF E rs x (ordN rs.length f)
def pQ (p : List Nat × Nat) : Dt := .tup [wd p.1, .int ((p.2 : Nat) : Int)]
section
variable {E : Ents} {rs : List Ru} {s : Sto} {x : List Nat}
theorem ord_mem {n f k : Nat} (h : f ≤ n) : k ∈ ordN n f ↔ k < n := by
  unfold ordN
  rw [List.mem_append, List.mem_map, List.mem_range]
  constructor
  · rintro (⟨a, ha, rfl⟩ | hk)
    · have := List.mem_range.mp ha; omega
    · omega
  · intro hk
    by_cases q : f ≤ k
    · exact .inl ⟨k - f, List.mem_range.mpr (by omega), by omega⟩
    · exact .inr (by omega)
theorem ord_len {n f : Nat} (h : f ≤ n) : (ordN n f).length = n := by
  unfold ordN
  rw [List.length_append, List.length_map, List.length_range, List.length_range]; omega
theorem adK_len (k : Nat) (acc : List (List Nat × Nat)) (y : List Nat) : (adK x k acc y).length ≤ acc.length + 1 := by
  unfold adK
  split
  · rw [List.length_append, List.length_singleton]; omega
  · omega
theorem adK_from {k : Nat} {acc : List (List Nat × Nat)} {y : List Nat} {p : List Nat × Nat} (h : p ∈ adK x k acc y) : p ∈ acc ∨ (p = (y, k) ∧ y ≠ x) := by
  unfold adK at h
  split at h
  · rename_i q
    exact (List.mem_append.mp h).elim .inl fun z => .inr ⟨List.mem_singleton.mp z, q.1⟩
  · exact .inl h
theorem adKs_len {k : Nat} : ∀ (ys : List (List Nat)) (acc : List (List Nat × Nat)), (ys.foldl (adK x k) acc).length ≤ acc.length + ys.length
  | [], acc => Nat.le_refl _
  | y :: ys, acc => by
    have h1 := adKs_len (k := k) ys (adK x k acc y)
    have h2 := adK_len (x := x) k acc y
    rw [List.foldl_cons, List.length_cons]
    omega
theorem adKs_from {k : Nat} {p : List Nat × Nat} : ∀ {ys : List (List Nat)} {acc : List (List Nat × Nat)}, p ∈ ys.foldl (adK x k) acc → p ∈ acc ∨ (p.2 = k ∧ p.1 ∈ ys ∧ p.1 ≠ x)
  | [], acc, h => .inl h
  | y :: ys, acc, h => by
    rcases adKs_from (ys := ys) h with h | ⟨h1, h2, h3⟩
    · rcases adK_from h with h | ⟨h1, h2⟩
      · exact .inl h
      · subst h1; exact .inr ⟨rfl, List.mem_cons_self, h2⟩
    · exact .inr ⟨h1, List.mem_cons_of_mem _ h2, h3⟩
theorem led_snoc (ks : List Nat) (k : Nat) : ledF E rs x (ks ++ [k]) = (resN E x (rs.getD k .empty)).foldl (adK x k) (ledF E rs x ks) := by
  unfold ledF
  rw [List.foldl_append]; rfl
theorem led_from {p : List Nat × Nat} : ∀ ks : List Nat, p ∈ ledF E rs x ks → p.2 ∈ ks ∧ p.1 ∈ resN E x (rs.getD p.2 .empty) ∧ p.1 ≠ x :=
  list_snoc (fun h => absurd h List.not_mem_nil) fun l a ih h => by
    rw [led_snoc] at h
    rcases adKs_from h with h | ⟨h1, h2, h3⟩
    · exact ⟨List.mem_append_left _ (ih h).1, (ih h).2⟩
    · exact ⟨by rw [h1]; exact List.mem_append_right _ (List.mem_singleton.mpr rfl), by rw [h1]; exact h2, h3⟩
theorem led_len (hE : ClE E) (hr : ∀ r ∈ rs, okR r = true) (hl : x.length ≤ 50) : ∀ ks : List Nat, (ledF E rs x ks).length ≤ ks.length * 500 :=
  list_snoc (Nat.le_refl _) fun l a ih => by
    rw [led_snoc]
    have h1 := adKs_len (x := x) (k := a) (resN E x (rs.getD a .empty)) (ledF E rs x l)
    have h2 : (resN E x (rs.getD a .empty)).length ≤ 500 := by
      refine res_len hE.ok x hl _ ?_
      rw [List.getD_eq_getElem?_getD]
      cases q : rs[a]? with
      | none => rfl
      | some r => exact hr r (List.mem_of_getElem? q)
    rw [List.length_append, List.length_singleton, Nat.add_mul]
    omega
theorem rg2_nat {a b : Nat} (ha : a ≤ 1000) (hb : b ≤ 1000) : rg2G s (.int ((a : Nat) : Int)) (.int ((b : Nat) : Int)) = some (.lst (intsD ((List.range (b - a)).map (a + ·)))) := by
  show (if rgOk ((a : Nat) : Int) ((b : Nat) : Int) = true then some (Dt.lst (rgD ((a : Nat) : Int) ((b : Nat) : Int))) else none) = _
  rw [if_pos (show rgOk ((a : Nat) : Int) ((b : Nat) : Int) = true from decide_eq_true ⟨by omega, by omega, by omega, by omega, by omega⟩)]
  unfold rgD intsD
  rw [List.map_map, show (((b : Nat) : Int) - ((a : Nat) : Int)).toNat = b - a by omega]
  rfl
theorem ord_ev {n f : Nat} (hn : n ≤ 1000) (hf : f ≤ n) : ∃ a b, rg2G s (.int ((f : Nat) : Int)) (.int ((n : Nat) : Int)) = some a ∧ rg1G s (.int ((f : Nat) : Int)) = some b ∧ catG s a b = some (.lst (intsD (ordN n f))) := by
  refine ⟨_, _, rg2_nat (by omega) hn, rg1_int (m := ((f : Nat) : Int)) (by omega) (by omega), ?_⟩
  have : catG s (.lst (intsD ((List.range (n - f)).map (f + ·)))) (.lst (intsD (List.range ((f : Nat) : Int).toNat))) = some (.lst (intsD ((List.range (n - f)).map (f + ·)) ++ intsD (List.range ((f : Nat) : Int).toNat))) := if_pos (small (by rw [List.length_map, List.length_map, List.length_map, List.length_range, List.length_range]; omega))
  rw [this]
  unfold intsD ordN
  rw [← List.map_append]
  rfl
theorem at_ru {k : Nat} (hk : k < rs.length) : ixA s (.tup (rs.map Ru.d)) (.int ((k : Nat) : Int)) = some (rs.getD k .empty).d := at_t (by rw [List.getElem?_map, List.getElem?_eq_getElem hk, List.getD_eq_getElem?_getD, List.getElem?_eq_getElem hk]; rfl)
theorem ru_at {k : Nat} (hk : k < rs.length) : rs.getD k .empty ∈ rs := by rw [List.getD_eq_getElem?_getD, List.getElem?_eq_getElem hk]; exact List.getElem_mem hk
theorem of_not_false {p : Prop} [Decidable p] (h : (!decide p) = false) : p := by
  by_cases q : p
  · exact q
  · rw [decide_eq_false q] at h; cases h
theorem steps32_ok (h : Fu E rs) (hx : ∀ c ∈ x, c ∈ E.map (·.1)) (hl : x.length ≤ 50) (way : Str) {f : Nat} (hf : f ≤ rs.length) : V_law_steps_k32 [bookD E rs, .str way, wd x, .int ((f : Nat) : Int)] s = some (.lst ((stU E rs x (if way = ("on" : Str) then f else 0)).map pQ), s) := by
  have hE := h.e.cl
  have hn := h.n
  have g1 : toDctG s [.tup (entL E)] = some (edD E) := (toDct_ent s hE.ok.nd).1
  have gx0 : ixA s (bookD E rs) (.int 0) = some (.tup (entL E)) := rfl
  have gx1 : ixA s (bookD E rs) (.int 1) = some (.tup (rs.map Ru.d)) := rfl
  have gle : lenG s [.tup (rs.map Ru.d)] = some (.int ((rs.length : Nat) : Int)) := by rw [len_tup, List.length_map]
  obtain ⟨g, hg, eg⟩ : ∃ g : Nat, g = (if way = ("on" : Str) then f else 0) ∧ ifV (asB (bind2 (fVar 1) (fC (.str "on")) eqG)) (fVar 3) (fC (.int 0)) [some (bookD E rs), some (.str way), some (wd x), some (.int ((f : Nat) : Int)), some (.tup (rs.map Ru.d)), some (edD E), some (.lst []), some (.lst [wd x]), none, none, none] s = some (.int ((g : Nat) : Int), s) := by
    have q : asB (bind2 (fVar 1) (fC (.str "on")) eqG) [some (bookD E rs), some (.str way), some (wd x), some (.int ((f : Nat) : Int)), some (.tup (rs.map Ru.d)), some (edD E), some (.lst []), some (.lst [wd x]), none, none, none] s = some (decide (way = ("on" : Str)), s) := asB_ev (bind2_ev (v0 rfl) c0 eq_ss)
    by_cases z : way = ("on" : Str)
    · rw [decide_eq_true z] at q
      exact ⟨f, (if_pos z).symm, (ifV_t q).trans (v0 rfl)⟩
    · rw [decide_eq_false z] at q
      exact ⟨0, (if_neg z).symm, (ifV_f q).trans c0⟩
  have hgn : g ≤ rs.length := by rw [hg]; split <;> omega
  rw [← hg]
  obtain ⟨a, b, o1, o2, o3⟩ := ord_ev (s := s) (n := rs.length) (f := g) (by omega) hgn
  refine wF_out (wF_fn ?_)
  delta F_law_steps_k32
  refine wS_seq (wS_parN (by simp) (wL_c (wE_b2 (wE_v rfl (wE_c ⟨_, gx1, wL_c (wE_bA (wA_c (wE_b2 (wE_v rfl (wE_c ⟨_, gx0, wA_n ⟨_, g1, wL_c (wE_bA (wA_n ⟨.lst [], rfl, wL_c (wE_bA (wA_c (wE_v rfl (wA_n ⟨.lst [wd x], rfl, wL_n ⟨rfl, ?_⟩⟩))))⟩))⟩⟩)))))⟩)))))
  refine wS_seq (wS_set (wE_eq eg ?_))
  refine wS_seq (wS_for (xs := ordN rs.length g) (enc := fun k => .int ((k : Nat) : Int)) (fun pre env s' => s' = s ∧ ∃ x9 x10, env = [some (bookD E rs), some (.str way), some (wd x), some (.int ((f : Nat) : Int)), some (.tup (rs.map Ru.d)), some (edD E), some (.lst ((ledF E rs x pre).map pQ)), some (.lst ((x :: (ledF E rs x pre).map (·.1)).map wd)), some (.int ((g : Nat) : Int)), x9, x10]) ?_)
  refine wI_seq (wE_b2 (wE_b2 (wE_v rfl (wE_bA (wA_c (wE_v rfl (wA_n ⟨_, gle, _, o1, wE_b1 (wE_v rfl ⟨_, o2, _, o3, _, rfl, rfl, ⟨rfl, none, none, rfl⟩, ?_, ?_⟩)⟩)))))))
  · rintro pre k post env s' he ⟨rfl, x9, x10, rfl⟩
    refine ⟨_, rfl, ?_⟩
    have hk : k < rs.length := (ord_mem hgn).mp (by rw [he]; exact List.mem_append_right _ List.mem_cons_self)
    have hr := h.r _ (ru_at hk)
    have hpl := congrArg List.length he
    rw [ord_len hgn, List.length_append, List.length_cons] at hpl
    have hb := led_len (rs := rs) hE (fun r hr => (ru_okR (h.r r hr) hE.lo).1) hl pre
    have hrl := res_len hE.ok x hl (rs.getD k .empty) (ru_okR hr hE.lo).1
    have gt := at_ru (s := s') hk
    rw [led_snoc]
    generalize ledF E rs x pre = A at hb
    refine wS_for (xs := resN E x (rs.getD k .empty)) (enc := wd) (fun pr env s2 => s2 = s' ∧ ∃ x10, env = [some (bookD E rs), some (.str way), some (wd x), some (.int ((f : Nat) : Int)), some (.tup (rs.map Ru.d)), some (edD E), some (.lst ((pr.foldl (adK x k) A).map pQ)), some (.lst ((x :: (pr.foldl (adK x k) A).map (·.1)).map wd)), some (.int ((g : Nat) : Int)), some (.int ((k : Nat) : Int)), x10]) ?_
    refine wI_seq (wE_call (wA_c (wE_b2 (wE_v rfl (wE_v rfl ⟨_, gt, wA_c (wE_v rfl (wA_c (wE_v rfl (wA_n (wF_eq (results32_ok hE hr hx hl) ⟨_, rfl, rfl, ⟨rfl, x10, rfl⟩, ?_, ?_⟩)))))⟩)))))
    · rintro pr y po env s2 he2 ⟨rfl, x10, rfl⟩
      refine ⟨_, rfl, ?_⟩
      have lA := adKs_len (x := x) (k := k) pr A
      have lr2 := congrArg List.length he2
      rw [List.length_append, List.length_cons] at lr2
      rw [List.foldl_append]
      show wS _ _ _ (fun e s'_1 => s'_1 = s2 ∧ ∃ x10, e = [some (bookD E rs), some (.str way), some (wd x), some (.int ((f : Nat) : Int)), some (.tup (rs.map Ru.d)), some (edD E), some (.lst ((adK x k (pr.foldl (adK x k) A) y).map pQ)), some (.lst ((x :: (adK x k (pr.foldl (adK x k) A) y).map (·.1)).map wd)), some (.int ((g : Nat) : Int)), some (.int ((k : Nat) : Int)), x10]) _
      generalize pr.foldl (adK x k) A = B at lA
      have gn : notinA s2 (wd y) (.lst ((x :: B.map (·.1)).map wd)) = some (.bl (!decide (y ∈ x :: B.map (·.1)))) := by
        have := notin_wl (s := s2) (l := x :: B.map (·.1)) (f := fun z => z) (x := y)
        rw [List.map_id' (x :: B.map (·.1))] at this
        exact this
      walk_at "w"
      refine ⟨fun q => ?_, fun q => ?_⟩
      · have q' : y ∉ x :: B.map (·.1) := by simpa using q
        have e : adK x k B y = B ++ [(y, k)] := if_pos ⟨fun z => q' (z ▸ List.mem_cons_self), fun z => q' (List.mem_cons_of_mem _ z)⟩
        refine wS_seq (wS_app (l := (x :: B.map (·.1)).map wd) rfl (wE_v rfl ⟨by rw [List.length_map, List.length_cons, List.length_map]; omega, ?_⟩))
        refine wS_app (l := B.map pQ) rfl (wE_bA (wA_c (wE_v rfl (wA_c (wE_v rfl (wA_n ⟨_, rfl, by rw [List.length_map]; omega, rfl, some (wd y), ?_⟩))))))
        have e1 : (B ++ [(y, k)]).map pQ = B.map pQ ++ [pQ (y, k)] := by rw [List.map_append]; rfl
        have e2 : (x :: (B ++ [(y, k)]).map (·.1)).map wd = (x :: B.map (·.1)).map wd ++ [wd y] := by simp
        rw [e, e1, e2]
        rfl
      · have q' : y ∈ x :: B.map (·.1) := of_not_false q
        have e : adK x k B y = B := if_neg fun z => (List.mem_cons.mp q').elim z.1 z.2
        walk_at "w"
        refine ⟨rfl, some (wd y), ?_⟩
        rw [e]
        rfl
    · rintro env s2 ⟨rfl, x10, rfl⟩
      exact ⟨rfl, _, _, rfl⟩
  · rintro env s' ⟨rfl, x9, x10, rfl⟩
    walk_at "w"
    exact ⟨rfl, rfl⟩
abbrev mapD (A : List (List Nat × Nat)) : List (Key × Dt) := A.map fun p => (.inr (strW p.1), .int ((p.2 : Nat) : Int))
theorem stU_ok (hE : ClE E) (hr : ∀ r ∈ rs, ruL (E.map (·.1)) r) (hn : rs.length ≤ 50) (hx : ∀ c ∈ x, c ∈ E.map (·.1)) (hl : x.length ≤ 50) {f : Nat} (hf : f ≤ rs.length) : Vled_steps [bookD E rs, wd x, .int ((f : Nat) : Int)] s = some (.tup ((stU E rs x f).map pQ), s) := by
  have hok : ∀ r ∈ rs, okR r = true := fun r hr' => (ru_okR (hr r hr') hE.lo).1
  have gx1 : ixA s (bookD E rs) (.int 1) = some (.tup (rs.map Ru.d)) := rfl
  have gle : lenG s [.tup (rs.map Ru.d)] = some (.int ((rs.length : Nat) : Int)) := by rw [len_tup, List.length_map]
  obtain ⟨a, b, o1, o2, o3⟩ := ord_ev (s := s) (n := rs.length) (f := f) (by omega) hf
  refine wF_out (wF_fn ?_)
  delta Fled_steps
  refine wS_seq (wS_set (wE_b2 (wE_b2 (wE_v rfl (wE_bA (wA_c (wE_b2 (wE_v rfl (wE_c ⟨_, gx1, wA_n ⟨_, gle, _, o1, wE_b1 (wE_v rfl ⟨_, o2, _, o3, ?_⟩)⟩⟩)))))))))
  refine wS_seq (wS_setN (by simp) (wE_eq (show emptyG _ s = some (.dct [], s) from rfl) ?_))
  refine wS_seq (wS_for (xs := ordN rs.length f) (enc := fun k => .int ((k : Nat) : Int)) (fun pre env s' => s' = s ∧ ∃ x5 x6, env = [some (bookD E rs), some (wd x), some (.int ((f : Nat) : Int)), some (.lst (intsD (ordN rs.length f))), some (.dct (mapD (ledF E rs x pre))), x5, x6]) ?_)
  refine wI_seq (wE_v rfl ⟨_, rfl, rfl, ⟨rfl, none, none, rfl⟩, ?_, ?_⟩)
  · rintro pre k post env s' he ⟨rfl, x5, x6, rfl⟩
    refine ⟨_, rfl, ?_⟩
    have hk : k < rs.length := (ord_mem hf).mp (by rw [he]; exact List.mem_append_right _ List.mem_cons_self)
    have hrk := hr _ (ru_at hk)
    have hpl := congrArg List.length he
    rw [ord_len hf, List.length_append, List.length_cons] at hpl
    have hb := led_len (rs := rs) hE hok hl pre
    have hrl := res_len hE.ok x hl (rs.getD k .empty) (ru_okR hrk hE.lo).1
    have gt := at_ru (s := s') hk
    rw [led_snoc]
    generalize ledF E rs x pre = A at hb
    refine wS_for (xs := resN E x (rs.getD k .empty)) (enc := wd) (fun pr env s2 => s2 = s' ∧ ∃ x6, env = [some (bookD E rs), some (wd x), some (.int ((f : Nat) : Int)), some (.lst (intsD (ordN rs.length f))), some (.dct (mapD (pr.foldl (adK x k) A))), some (.int ((k : Nat) : Int)), x6]) ?_
    refine wI_seq (wE_call (wA_c (wE_v rfl (wA_c (wE_b2 (wE_b2 (wE_v rfl (wE_c ⟨_, gx1, wE_v rfl ⟨_, gt, wA_c (wE_v rfl (wA_n (wF_eq (results_ok _ hE.ok _ (ru_okR hrk hE.lo).1 hx hl s') ⟨_, rfl, rfl, ⟨rfl, x6, rfl⟩, ?_, ?_⟩)))⟩⟩))))))))
    · rintro pr y po env s2 he2 ⟨rfl, x6, rfl⟩
      refine ⟨_, rfl, ?_⟩
      have lA := adKs_len (x := x) (k := k) pr A
      have lr2 := congrArg List.length he2
      rw [List.length_append, List.length_cons] at lr2
      rw [List.foldl_append]
      show wS _ _ _ (fun e s'_1 => s'_1 = s2 ∧ ∃ x6, e = [some (bookD E rs), some (wd x), some (.int ((f : Nat) : Int)), some (.lst (intsD (ordN rs.length f))), some (.dct (mapD (adK x k (pr.foldl (adK x k) A) y))), some (.int ((k : Nat) : Int)), x6]) _
      generalize pr.foldl (adK x k) A = B at lA
      have gn : notinA s2 (wd y) (.dct (mapD B)) = some (.bl (!decide (y ∈ B.map (·.1)))) := notin_kd
      walk_at "w"
      refine ⟨fun q => ?_, fun q => ?_⟩
      · have q1 : y ≠ x := by simpa using q
        walk_at "w"
        refine ⟨fun q2 => ?_, fun q2 => ?_⟩
        · have q2' : y ∉ B.map (·.1) := by simpa using q2
          have e : adK x k B y = B ++ [(y, k)] := if_pos ⟨q1, q2'⟩
          refine wS_dput (l := mapD B) rfl (wE_v rfl (wE_v rfl ⟨.inr (strW y), rfl, by rw [List.length_map]; omega, rfl, some (wd y), ?_⟩))
          have e1 : mapD (B ++ [(y, k)]) = mapD B ++ [(.inr (strW y), .int ((k : Nat) : Int))] := by unfold mapD; rw [List.map_append]; rfl
          rw [e, put_new q2', e1]
          rfl
        · have q2' : y ∈ B.map (·.1) := by simpa using q2
          have e : adK x k B y = B := if_neg fun z => z.2 q2'
          walk_at "w"
          refine ⟨rfl, some (wd y), ?_⟩
          rw [e]
          rfl
      · have q1 : y = x := by simpa using q
        have e : adK x k B y = B := if_neg fun z => z.1 q1
        walk_at "w"
        refine ⟨rfl, some (wd y), ?_⟩
        rw [e]
        rfl
    · rintro env s2 ⟨rfl, x6, rfl⟩
      exact ⟨rfl, _, _, rfl⟩
  · rintro env s' ⟨rfl, x5, x6, rfl⟩
    have hb := led_len (rs := rs) hE hok hl (ordN rs.length f)
    rw [ord_len hf] at hb
    have gi : itemsI (fVar 4) [some (bookD E rs), some (wd x), some (.int ((f : Nat) : Int)), some (.lst (intsD (ordN rs.length f))), some (.dct (mapD (ledF E rs x (ordN rs.length f)))), x5, x6] s' = some ((ledF E rs x (ordN rs.length f)).map fun p => .tup [wd p.1, .int ((p.2 : Nat) : Int)], s') := by
      unfold itemsI
      rw [v0 rfl]
      show some (((ledF E rs x (ordN rs.length f)).map _).map pairD, s') = _
      rw [List.map_map]
      rfl
    have e := lc_p (xs := ledF E rs x (ordN rs.length f)) (enc := fun p => wd p.1) (enc2 := fun p => .int ((p.2 : Nat) : Int)) (k := 6) (k1 := 5) (q := fun _ => true) (g := pQ) (tt := yesT) (te := bindA (aCons (fVar 6) (aCons (fVar 5) aNil)) tupG) (vs := [6, 5]) gi (small (by omega)) (fun p _ => rfl) fun p _ _ => bindA_ev (aCons_ev (v0 rfl) (aCons_ev (v0 rfl) a0)) rfl
    rw [List.filter_eq_self.mpr fun _ _ => rfl] at e
    refine wS_ret (wE_bA (wA_c (wE_eq e (wA_n ⟨_, rfl, rfl, rfl⟩))))
end

end DL

namespace DL
open PySem PySem.Spec PyProof.Rows L2
local macro_rules | `(tactic| walk_at "op") => `(tactic| first | assumption | with_reducible rfl | exact cat_w (by omega) | exact sub_nn (by omega) | exact add_nn | exact at_w (by omega) (by assumption) | exact len_w (by omega) | exact in_l1 | exact notin_l1 | exact in_t1 | exact notin_t1 | exact in_k1 | exact notin_k1 | exact in_wl | exact notin_wl | exact in_wt | exact notin_wt | exact in_kd | exact notin_kd | exact eq_ww | exact ne_ww | exact any_bl | exact all_bl | rfl)
local macro_rules | `(tactic| walk_at "ev") => `(tactic| first | with_reducible exact c0 | ((with_reducible apply v0); rfl) | with_reducible exact a0 | with_reducible assumption | ((with_reducible apply aCons_ev); (focus walk_at "ev"); (focus walk_at "ev")) | ((with_reducible apply bindA_ev); (focus walk_at "ev"); (focus walk_at "op")) | ((with_reducible apply bind2_ev); (focus walk_at "ev"); (focus walk_at "ev"); (focus walk_at "op")) | ((with_reducible apply bind1_ev); (focus walk_at "ev"); (focus walk_at "op")) | ((with_reducible apply asB_ev); (focus walk_at "ev")) | ((with_reducible apply call_ev); (focus walk_at "ev"); (focus first | assumption | rfl)) | ((with_reducible apply truF_ev); (focus walk_at "ev"); (focus first | assumption | rfl)) | ((with_reducible apply notT_ev); (focus walk_at "ev")) | ((with_reducible apply andT_e); (focus walk_at "ev"); (focus (intro hq; walk_at "ev"))) | ((with_reducible apply orT_e); (focus walk_at "ev"); (focus (intro hq; walk_at "ev"))) | ((with_reducible apply seq_tup); (focus walk_at "ev")) | ((with_reducible apply seq_lst); (focus walk_at "ev")) | ((with_reducible apply seq_str); (focus walk_at "ev")))
local macro_rules | `(tactic| walk_at "w1") => `(tactic| with_reducible first | refine wS_seq ?_ | refine wS_set ?_ | refine wS_ret ?_ | refine wS_if ?_ | refine wS_skip ?_ | refine wS_drop ?_ | refine wS_unp ?_ | refine wE_b2 ?_ | refine wE_b1 ?_ | refine wE_bA ?_ | refine wE_bS ?_ | refine wE_call ?_ | refine wA_c ?_ | refine wA_n ?_ | refine wE_c ?_ | refine wO_n ?_ | refine wO_s ?_ | refine wT_asB ?_ | refine wT_tru ?_ | refine wT_not ?_ | refine wT_and ?_ | refine wT_or ?_ | refine wT_yes ?_ | refine wE_and ?_ | refine wE_or ?_ | refine wE_if ?_ | refine wI_seq ?_ | refine wI_rng ?_ | refine ex_bl ?_ | refine ex_trA ?_ | refine ex_trB ?_ | refine ex_nat ?_ | refine ex_int ?_ | refine ex_unT ?_ | refine ex_unL ?_ | refine and_t ?_ | refine and_f ?_ | refine and_nt ?_ | refine and_nf ?_)
local macro_rules | `(tactic| walk_at "w") => `(tactic| repeat (first | walk_at "w1" | refine wE_v (by rfl) ?_ | ((with_reducible refine wS_par2 ?_ ?_); focus (simp; done)) | ((with_reducible refine wS_par3 ?_ ?_); focus (simp; done)) | ((with_reducible refine wS_setN ?_ ?_); focus (simp; done)) | ((with_reducible apply ex_op); focus (first | exact seqOf_wd | with_reducible exact eq_ss | with_reducible exact ne_ss | with_reducible exact eq_ww | with_reducible exact ne_ww | with_reducible exact eq_ii | with_reducible exact ne_ii | with_reducible exact lt_ii | with_reducible exact gt_ii | with_reducible exact le_ii | with_reducible exact ge_ii | exact all_true' _ _ | walk_at "op")) ))
section
variable {E : Ents}
theorem low_of_rch (h : ClE E) {c a : Nat} (hr : Rch E c a) : LowP E a c := (lowP_iff h).mpr (.inr hr)
theorem emb_sum (W : Nat → Nat) (hm : ∀ a c, LowP E a c → W a ≤ W c) {u v : List Nat} (h : Emb (LowP E) u v) : (u.map W).sum ≤ (v.map W).sum := by
  induction h with
  | nil v => exact Nat.zero_le _
  | @skip c u v hu ih => rw [List.map_cons, List.sum_cons]; omega
  | @take a c u v ha hu ih =>
    have := hm a c ha
    rw [List.map_cons, List.sum_cons, List.map_cons, List.sum_cons]; omega
end

end DL

namespace DL
open PySem PySem.Spec PyProof.Rows L2
local macro_rules | `(tactic| walk_at "op") => `(tactic| first | assumption | with_reducible rfl | exact cat_w (by omega) | exact sub_nn (by omega) | exact add_nn | exact at_w (by omega) (by assumption) | exact len_w (by omega) | exact in_l1 | exact notin_l1 | exact in_t1 | exact notin_t1 | exact in_k1 | exact notin_k1 | exact in_wl | exact notin_wl | exact in_wt | exact notin_wt | exact in_kd | exact notin_kd | exact eq_ww | exact ne_ww | exact any_bl | exact all_bl | rfl)
local macro_rules | `(tactic| walk_at "ev") => `(tactic| first | with_reducible exact c0 | ((with_reducible apply v0); rfl) | with_reducible exact a0 | with_reducible assumption | ((with_reducible apply aCons_ev); (focus walk_at "ev"); (focus walk_at "ev")) | ((with_reducible apply bindA_ev); (focus walk_at "ev"); (focus walk_at "op")) | ((with_reducible apply bind2_ev); (focus walk_at "ev"); (focus walk_at "ev"); (focus walk_at "op")) | ((with_reducible apply bind1_ev); (focus walk_at "ev"); (focus walk_at "op")) | ((with_reducible apply asB_ev); (focus walk_at "ev")) | ((with_reducible apply call_ev); (focus walk_at "ev"); (focus first | assumption | rfl)) | ((with_reducible apply truF_ev); (focus walk_at "ev"); (focus first | assumption | rfl)) | ((with_reducible apply notT_ev); (focus walk_at "ev")) | ((with_reducible apply andT_e); (focus walk_at "ev"); (focus (intro hq; walk_at "ev"))) | ((with_reducible apply orT_e); (focus walk_at "ev"); (focus (intro hq; walk_at "ev"))) | ((with_reducible apply seq_tup); (focus walk_at "ev")) | ((with_reducible apply seq_lst); (focus walk_at "ev")) | ((with_reducible apply seq_str); (focus walk_at "ev")))
local macro_rules | `(tactic| walk_at "w1") => `(tactic| with_reducible first | refine wS_seq ?_ | refine wS_set ?_ | refine wS_ret ?_ | refine wS_if ?_ | refine wS_skip ?_ | refine wS_drop ?_ | refine wS_unp ?_ | refine wE_b2 ?_ | refine wE_b1 ?_ | refine wE_bA ?_ | refine wE_bS ?_ | refine wE_call ?_ | refine wA_c ?_ | refine wA_n ?_ | refine wE_c ?_ | refine wO_n ?_ | refine wO_s ?_ | refine wT_asB ?_ | refine wT_tru ?_ | refine wT_not ?_ | refine wT_and ?_ | refine wT_or ?_ | refine wT_yes ?_ | refine wE_and ?_ | refine wE_or ?_ | refine wE_if ?_ | refine wI_seq ?_ | refine wI_rng ?_ | refine ex_bl ?_ | refine ex_trA ?_ | refine ex_trB ?_ | refine ex_nat ?_ | refine ex_int ?_ | refine ex_unT ?_ | refine ex_unL ?_ | refine and_t ?_ | refine and_f ?_ | refine and_nt ?_ | refine and_nf ?_)
local macro_rules | `(tactic| walk_at "w") => `(tactic| repeat (first | walk_at "w1" | refine wE_v (by rfl) ?_ | ((with_reducible refine wS_par2 ?_ ?_); focus (simp; done)) | ((with_reducible refine wS_par3 ?_ ?_); focus (simp; done)) | ((with_reducible refine wS_setN ?_ ?_); focus (simp; done)) | ((with_reducible apply ex_op); focus (first | exact seqOf_wd | with_reducible exact eq_ss | with_reducible exact ne_ss | with_reducible exact eq_ww | with_reducible exact ne_ww | with_reducible exact eq_ii | with_reducible exact ne_ii | with_reducible exact lt_ii | with_reducible exact gt_ii | with_reducible exact le_ii | with_reducible exact ge_ii | exact all_true' _ _ | walk_at "op")) ))
section
variable {E : Ents} {s : Sto} {k : Str} {ts : List (List Nat)}
end

end DL

namespace DL
open PySem PySem.Spec PyProof.Rows L2
end DL

namespace DL
open PySem PySem.Spec PyProof.Rows L2
local macro_rules | `(tactic| walk_at "op") => `(tactic| first | assumption | with_reducible rfl | exact cat_w (by omega) | exact sub_nn (by omega) | exact add_nn | exact at_w (by omega) (by assumption) | exact len_w (by omega) | exact in_l1 | exact notin_l1 | exact in_t1 | exact notin_t1 | exact in_k1 | exact notin_k1 | exact in_wl | exact notin_wl | exact in_wt | exact notin_wt | exact in_kd | exact notin_kd | exact eq_ww | exact ne_ww | exact any_bl | exact all_bl | rfl)
local macro_rules | `(tactic| walk_at "ev") => `(tactic| first | with_reducible exact c0 | ((with_reducible apply v0); rfl) | with_reducible exact a0 | with_reducible assumption | ((with_reducible apply aCons_ev); (focus walk_at "ev"); (focus walk_at "ev")) | ((with_reducible apply bindA_ev); (focus walk_at "ev"); (focus walk_at "op")) | ((with_reducible apply bind2_ev); (focus walk_at "ev"); (focus walk_at "ev"); (focus walk_at "op")) | ((with_reducible apply bind1_ev); (focus walk_at "ev"); (focus walk_at "op")) | ((with_reducible apply asB_ev); (focus walk_at "ev")) | ((with_reducible apply call_ev); (focus walk_at "ev"); (focus first | assumption | rfl)) | ((with_reducible apply truF_ev); (focus walk_at "ev"); (focus first | assumption | rfl)) | ((with_reducible apply notT_ev); (focus walk_at "ev")) | ((with_reducible apply andT_e); (focus walk_at "ev"); (focus (intro hq; walk_at "ev"))) | ((with_reducible apply orT_e); (focus walk_at "ev"); (focus (intro hq; walk_at "ev"))) | ((with_reducible apply seq_tup); (focus walk_at "ev")) | ((with_reducible apply seq_lst); (focus walk_at "ev")) | ((with_reducible apply seq_str); (focus walk_at "ev")))
local macro_rules | `(tactic| walk_at "w1") => `(tactic| with_reducible first | refine wS_seq ?_ | refine wS_set ?_ | refine wS_ret ?_ | refine wS_if ?_ | refine wS_skip ?_ | refine wS_drop ?_ | refine wS_unp ?_ | refine wE_b2 ?_ | refine wE_b1 ?_ | refine wE_bA ?_ | refine wE_bS ?_ | refine wE_call ?_ | refine wA_c ?_ | refine wA_n ?_ | refine wE_c ?_ | refine wO_n ?_ | refine wO_s ?_ | refine wT_asB ?_ | refine wT_tru ?_ | refine wT_not ?_ | refine wT_and ?_ | refine wT_or ?_ | refine wT_yes ?_ | refine wE_and ?_ | refine wE_or ?_ | refine wE_if ?_ | refine wI_seq ?_ | refine wI_rng ?_ | refine ex_bl ?_ | refine ex_trA ?_ | refine ex_trB ?_ | refine ex_nat ?_ | refine ex_int ?_ | refine ex_unT ?_ | refine ex_unL ?_ | refine and_t ?_ | refine and_f ?_ | refine and_nt ?_ | refine and_nf ?_)
local macro_rules | `(tactic| walk_at "w") => `(tactic| repeat (first | walk_at "w1" | refine wE_v (by rfl) ?_ | ((with_reducible refine wS_par2 ?_ ?_); focus (simp; done)) | ((with_reducible refine wS_par3 ?_ ?_); focus (simp; done)) | ((with_reducible refine wS_setN ?_ ?_); focus (simp; done)) | ((with_reducible apply ex_op); focus (first | exact seqOf_wd | with_reducible exact eq_ss | with_reducible exact ne_ss | with_reducible exact eq_ww | with_reducible exact ne_ww | with_reducible exact eq_ii | with_reducible exact ne_ii | with_reducible exact lt_ii | with_reducible exact gt_ii | with_reducible exact le_ii | with_reducible exact ge_ii | exact all_true' _ _ | walk_at "op")) ))
section
variable {E : Ents} {s : Sto}
end

end DL

namespace DL
open PySem PySem.Spec PyProof.Rows L2
end DL

namespace DL
open PySem PySem.Spec PyProof.Rows L2
local macro_rules | `(tactic| walk_at "op") => `(tactic| first | assumption | with_reducible rfl | exact cat_w (by omega) | exact sub_nn (by omega) | exact add_nn | exact at_w (by omega) (by assumption) | exact len_w (by omega) | exact in_l1 | exact notin_l1 | exact in_t1 | exact notin_t1 | exact in_k1 | exact notin_k1 | exact in_wl | exact notin_wl | exact in_wt | exact notin_wt | exact in_kd | exact notin_kd | exact eq_ww | exact ne_ww | exact any_bl | exact all_bl | rfl)
local macro_rules | `(tactic| walk_at "ev") => `(tactic| first | with_reducible exact c0 | ((with_reducible apply v0); rfl) | with_reducible exact a0 | with_reducible assumption | ((with_reducible apply aCons_ev); (focus walk_at "ev"); (focus walk_at "ev")) | ((with_reducible apply bindA_ev); (focus walk_at "ev"); (focus walk_at "op")) | ((with_reducible apply bind2_ev); (focus walk_at "ev"); (focus walk_at "ev"); (focus walk_at "op")) | ((with_reducible apply bind1_ev); (focus walk_at "ev"); (focus walk_at "op")) | ((with_reducible apply asB_ev); (focus walk_at "ev")) | ((with_reducible apply call_ev); (focus walk_at "ev"); (focus first | assumption | rfl)) | ((with_reducible apply truF_ev); (focus walk_at "ev"); (focus first | assumption | rfl)) | ((with_reducible apply notT_ev); (focus walk_at "ev")) | ((with_reducible apply andT_e); (focus walk_at "ev"); (focus (intro hq; walk_at "ev"))) | ((with_reducible apply orT_e); (focus walk_at "ev"); (focus (intro hq; walk_at "ev"))) | ((with_reducible apply seq_tup); (focus walk_at "ev")) | ((with_reducible apply seq_lst); (focus walk_at "ev")) | ((with_reducible apply seq_str); (focus walk_at "ev")))
local macro_rules | `(tactic| walk_at "w1") => `(tactic| with_reducible first | refine wS_seq ?_ | refine wS_set ?_ | refine wS_ret ?_ | refine wS_if ?_ | refine wS_skip ?_ | refine wS_drop ?_ | refine wS_unp ?_ | refine wE_b2 ?_ | refine wE_b1 ?_ | refine wE_bA ?_ | refine wE_bS ?_ | refine wE_call ?_ | refine wA_c ?_ | refine wA_n ?_ | refine wE_c ?_ | refine wO_n ?_ | refine wO_s ?_ | refine wT_asB ?_ | refine wT_tru ?_ | refine wT_not ?_ | refine wT_and ?_ | refine wT_or ?_ | refine wT_yes ?_ | refine wE_and ?_ | refine wE_or ?_ | refine wE_if ?_ | refine wI_seq ?_ | refine wI_rng ?_ | refine ex_bl ?_ | refine ex_trA ?_ | refine ex_trB ?_ | refine ex_nat ?_ | refine ex_int ?_ | refine ex_unT ?_ | refine ex_unL ?_ | refine and_t ?_ | refine and_f ?_ | refine and_nt ?_ | refine and_nf ?_)
local macro_rules | `(tactic| walk_at "w") => `(tactic| repeat (first | walk_at "w1" | refine wE_v (by rfl) ?_ | ((with_reducible refine wS_par2 ?_ ?_); focus (simp; done)) | ((with_reducible refine wS_par3 ?_ ?_); focus (simp; done)) | ((with_reducible refine wS_setN ?_ ?_); focus (simp; done)) | ((with_reducible apply ex_op); focus (first | exact seqOf_wd | with_reducible exact eq_ss | with_reducible exact ne_ss | with_reducible exact eq_ww | with_reducible exact ne_ww | with_reducible exact eq_ii | with_reducible exact ne_ii | with_reducible exact lt_ii | with_reducible exact gt_ii | with_reducible exact le_ii | with_reducible exact ge_ii | exact all_true' _ _ | walk_at "op")) ))
section
variable {E : Ents} {rs : List Ru} {s : Sto} {x : List Nat}
theorem enD_gen : ∀ (ds : List Dt) (n : Nat), enD n ds = (List.range ds.length).map fun k => .tup [.int ((n + k : Nat) : Int), ds.getD k .non]
  | [], _ => rfl
  | d :: ds, n => by
    show .tup [.int ((n : Nat) : Int), d] :: enD (n + 1) ds = _
    rw [enD_gen ds (n + 1), List.length_cons, List.range_succ_eq_map, List.map_cons, List.map_map]
    congr 1
    refine List.map_congr_left fun k _ => ?_
    show Dt.tup [Dt.int ((n + 1 + k : Nat) : Int), _] = Dt.tup [Dt.int ((n + (k + 1) : Nat) : Int), _]
    rw [show n + 1 + k = n + (k + 1) by omega]
    rfl
theorem wI_enumT {f : Fe} {env : Env} {QA : List Dt → Sto → Prop} (h : wE f env s fun d s' => ∃ ds, d = .tup ds ∧ QA ((List.range ds.length).map fun k => .tup [.int ((k : Nat) : Int), ds.getD k .non]) s') : wI (enumF f) env s QA := by
  obtain ⟨d, s', e, ds, rfl, q⟩ := h
  refine ⟨_, s', ?_, q⟩
  unfold enumF
  rw [e]
  show some (enD 0 ds, s') = _
  rw [enD_gen]
  simp only [Nat.zero_add]
theorem need_fall (h : Fu E rs) : Vneed_falling [bookD E rs] s = some (.non, s) := by
  have hE := h.e.cl
  have hn := h.n
  refine wF_out (wF_fn ?_)
  delta Fneed_falling
  refine wS_for (xs := List.range rs.length) (enc := fun k => .tup [.int ((k : Nat) : Int), (rs.getD k .empty).d]) (fun pre env s' => s' = s ∧ ∃ x1 x2, env = [some (bookD E rs), x1, x2]) ?_
  refine wI_enumT (wE_b2 (wE_v rfl (wE_c ⟨.tup (rs.map Ru.d), rfl, _, rfl, ?_, ⟨rfl, none, none, rfl⟩, ?_, ?_⟩)))
  · rw [List.length_map]
    refine List.map_congr_left fun k hk => ?_
    have hk := List.mem_range.mp hk
    rw [List.getD_eq_getElem?_getD, List.getElem?_map, List.getElem?_eq_getElem hk, List.getD_eq_getElem?_getD, List.getElem?_eq_getElem hk]
    rfl
  · rintro pre k post env s' he ⟨rfl, x1, x2, rfl⟩
    refine ⟨_, rfl, ?_⟩
    obtain ⟨_, hk⟩ := range_pre he
    have hr := ru_at hk
    have hf := fall_ok (s := s') hE (.tup (rs.map Ru.d)) (rs.getD k .empty) (by
      have := h.r _ hr
      cases q : rs.getD k .empty with
      | put c v l => rw [q] at this; exact ⟨this.1, this.2.1⟩
      | drop n l => trivial
      | half l => trivial
      | empty => trivial
      | lower l => trivial)
    rw [h.f _ hr] at hf
    walk_at "w"
    refine wF_eq hf ?_
    walk_at "w"
    exact ⟨rfl, _, _, rfl⟩
  · rintro env s' ⟨rfl, x1, x2, rfl⟩
    exact ⟨rfl, rfl⟩
theorem tam_small {m : Nat} (hE : Eu E) (hl : x.length ≤ m) (hm : m ≤ 8) : (E.length + 2) ^ x.length ≤ 10000000 := by
  have h4 := hE.n
  have h1 : (E.length + 2) ^ x.length ≤ 6 ^ x.length := Nat.pow_le_pow_left (by omega) _
  have h2 : 6 ^ x.length ≤ 6 ^ 8 := Nat.pow_le_pow_right (by decide) (by omega)
  have h3 : (6 : Nat) ^ 8 ≤ 10000000 := by decide
  omega
end

end DL

namespace DL
open PySem PySem.Spec PyProof.Rows L2
local macro_rules | `(tactic| walk_at "op") => `(tactic| first | assumption | with_reducible rfl | exact cat_w (by omega) | exact sub_nn (by omega) | exact add_nn | exact at_w (by omega) (by assumption) | exact len_w (by omega) | exact in_l1 | exact notin_l1 | exact in_t1 | exact notin_t1 | exact in_k1 | exact notin_k1 | exact in_wl | exact notin_wl | exact in_wt | exact notin_wt | exact in_kd | exact notin_kd | exact eq_ww | exact ne_ww | exact any_bl | exact all_bl | rfl)
local macro_rules | `(tactic| walk_at "ev") => `(tactic| first | with_reducible exact c0 | ((with_reducible apply v0); rfl) | with_reducible exact a0 | with_reducible assumption | ((with_reducible apply aCons_ev); (focus walk_at "ev"); (focus walk_at "ev")) | ((with_reducible apply bindA_ev); (focus walk_at "ev"); (focus walk_at "op")) | ((with_reducible apply bind2_ev); (focus walk_at "ev"); (focus walk_at "ev"); (focus walk_at "op")) | ((with_reducible apply bind1_ev); (focus walk_at "ev"); (focus walk_at "op")) | ((with_reducible apply asB_ev); (focus walk_at "ev")) | ((with_reducible apply call_ev); (focus walk_at "ev"); (focus first | assumption | rfl)) | ((with_reducible apply truF_ev); (focus walk_at "ev"); (focus first | assumption | rfl)) | ((with_reducible apply notT_ev); (focus walk_at "ev")) | ((with_reducible apply andT_e); (focus walk_at "ev"); (focus (intro hq; walk_at "ev"))) | ((with_reducible apply orT_e); (focus walk_at "ev"); (focus (intro hq; walk_at "ev"))) | ((with_reducible apply seq_tup); (focus walk_at "ev")) | ((with_reducible apply seq_lst); (focus walk_at "ev")) | ((with_reducible apply seq_str); (focus walk_at "ev")))
local macro_rules | `(tactic| walk_at "w1") => `(tactic| with_reducible first | refine wS_seq ?_ | refine wS_set ?_ | refine wS_ret ?_ | refine wS_if ?_ | refine wS_skip ?_ | refine wS_drop ?_ | refine wS_unp ?_ | refine wE_b2 ?_ | refine wE_b1 ?_ | refine wE_bA ?_ | refine wE_bS ?_ | refine wE_call ?_ | refine wA_c ?_ | refine wA_n ?_ | refine wE_c ?_ | refine wO_n ?_ | refine wO_s ?_ | refine wT_asB ?_ | refine wT_tru ?_ | refine wT_not ?_ | refine wT_and ?_ | refine wT_or ?_ | refine wT_yes ?_ | refine wE_and ?_ | refine wE_or ?_ | refine wE_if ?_ | refine wI_seq ?_ | refine wI_rng ?_ | refine ex_bl ?_ | refine ex_trA ?_ | refine ex_trB ?_ | refine ex_nat ?_ | refine ex_int ?_ | refine ex_unT ?_ | refine ex_unL ?_ | refine and_t ?_ | refine and_f ?_ | refine and_nt ?_ | refine and_nf ?_)
local macro_rules | `(tactic| walk_at "w") => `(tactic| repeat (first | walk_at "w1" | refine wE_v (by rfl) ?_ | ((with_reducible refine wS_par2 ?_ ?_); focus (simp; done)) | ((with_reducible refine wS_par3 ?_ ?_); focus (simp; done)) | ((with_reducible refine wS_setN ?_ ?_); focus (simp; done)) | ((with_reducible apply ex_op); focus (first | exact seqOf_wd | with_reducible exact eq_ss | with_reducible exact ne_ss | with_reducible exact eq_ww | with_reducible exact ne_ww | with_reducible exact eq_ii | with_reducible exact ne_ii | with_reducible exact lt_ii | with_reducible exact gt_ii | with_reducible exact le_ii | with_reducible exact ge_ii | exact all_true' _ _ | walk_at "op")) ))
section
variable {S : List Nat × Nat → List (List Nat × Nat)} {ht : List Nat → Nat}
def vis (S : List Nat × Nat → List (List Nat × Nat)) : Nat → List (List Nat) → List Nat × Nat → List (List Nat)
  | 0, R, _ => R
  | n + 1, R, e => if e.1 ∈ R then R else addU ((S e).foldl (vis S n) R) e.1
def act (S : List Nat × Nat → List (List Nat × Nat)) (N : Nat) (B : List (List Nat)) (R : List (List Nat)) (e : List Nat × Nat) : List (List Nat) := if e.1 ∈ B then addU R e.1 else vis S N R e
theorem fold_cong {α β : Type} {f g : β → α → β} {I : β → Prop} : ∀ {l : List α} {b : β}, I b → (∀ b, I b → ∀ a ∈ l, f b a = g b a ∧ I (g b a)) → l.foldl f b = l.foldl g b ∧ I (l.foldl g b)
  | [], b, hb, _ => ⟨rfl, hb⟩
  | a :: l, b, hb, h => by
    obtain ⟨e, i⟩ := h b hb a List.mem_cons_self
    have := fold_cong (l := l) i fun b hb a ha => h b hb a (List.mem_cons_of_mem _ ha)
    rw [List.foldl_cons, List.foldl_cons, e]
    exact this
theorem fold_inv {α β : Type} {f : β → α → β} {I : β → Prop} : ∀ {l : List α} {b : β}, I b → (∀ b, I b → ∀ a ∈ l, I (f b a)) → I (l.foldl f b)
  | [], _, hb, _ => hb
  | a :: l, b, hb, h => fold_inv (l := l) (h b hb a List.mem_cons_self) fun b hb c hc => h b hb c (List.mem_cons_of_mem _ hc)
theorem vis_keep : ∀ (n : Nat) {R : List (List Nat)} {e : List Nat × Nat} {y : List Nat}, y ∈ R → y ∈ vis S n R e
  | 0, R, e, y, h => h
  | n + 1, R, e, y, h => by
    unfold vis
    split
    · exact h
    · exact addU_mem.mpr (.inl (fold_inv (I := fun R => y ∈ R) h fun b hb a _ => vis_keep n hb))
theorem act_keep {N : Nat} {B R : List (List Nat)} {e : List Nat × Nat} {y : List Nat} (h : y ∈ R) : y ∈ act S N B R e := by
  unfold act
  split
  · exact addU_mem.mpr (.inl h)
  · exact vis_keep N h
theorem vis_fuel (hS : ∀ e z, z ∈ S e → ht z.1 < ht e.1) : ∀ (n : Nat) {R : List (List Nat)} {e : List Nat × Nat}, ht e.1 < n → vis S n R e = vis S (n + 1) R e
  | 0, R, e, h => absurd h (Nat.not_lt_zero _)
  | n + 1, R, e, h => by
    show (if e.1 ∈ R then R else addU ((S e).foldl (vis S n) R) e.1) = (if e.1 ∈ R then R else addU ((S e).foldl (vis S (n + 1)) R) e.1)
    rw [(fold_cong (f := vis S n) (g := vis S (n + 1)) (I := fun _ => True) (l := S e) (b := R) trivial fun b _ a ha => ⟨vis_fuel hS n (by have := hS e a ha; omega), trivial⟩).1]
theorem vis_unfold (hS : ∀ e z, z ∈ S e → ht z.1 < ht e.1) {N : Nat} {R : List (List Nat)} {e : List Nat × Nat} (h : ht e.1 < N) : vis S N R e = if e.1 ∈ R then R else addU ((S e).foldl (vis S N) R) e.1 := by
  rw [vis_fuel hS N h]
  rfl
theorem vis_has (hS : ∀ e z, z ∈ S e → ht z.1 < ht e.1) {N : Nat} {R : List (List Nat)} {e : List Nat × Nat} (h : ht e.1 < N) : e.1 ∈ vis S N R e := by
  rw [vis_unfold hS h]
  split
  · assumption
  · exact addU_mem.mpr (.inr rfl)
theorem vis_nd : ∀ (n : Nat) {R : List (List Nat)} {e : List Nat × Nat}, R.Nodup → (vis S n R e).Nodup
  | 0, R, e, h => h
  | n + 1, R, e, h => by
    unfold vis
    split
    · exact h
    · exact addU_nd (fold_inv (I := List.Nodup) h fun b hb a _ => vis_nd n hb)
theorem vis_all {P : List Nat → Prop} (hP : ∀ e z, P e.1 → z ∈ S e → P z.1) : ∀ (n : Nat) {R : List (List Nat)} {e : List Nat × Nat}, (∀ y ∈ R, P y) → P e.1 → ∀ y ∈ vis S n R e, P y
  | 0, R, e, h, _ => h
  | n + 1, R, e, h, he => by
    unfold vis
    split
    · exact h
    · intro y hy
      rcases addU_mem.mp hy with hy | rfl
      · exact fold_inv (I := fun R => ∀ y ∈ R, P y) h (fun b hb a ha => vis_all hP n hb (hP e a he ha)) y hy
      · exact he
structure Rk (S : List Nat × Nat → List (List Nat × Nat)) (ht : List Nat → Nat) (N : Nat) (F : List (List Nat)) (R B : List (List Nat)) (L : List (List Nat × Nat)) : Prop where
  fin : L.reverse.foldl (act S N B) R = F
  sub : ∀ y ∈ R, y ∈ B
  way : ∀ P ∈ B, P ∉ R → ∃ L1 L2 k, L = L1 ++ (P, k) :: L2 ∧ ∀ e ∈ L2, ht e.1 < ht P
  low : ∀ e ∈ L, ht e.1 < N
theorem Rk.start {N : Nat} {e : List Nat × Nat} (h : ht e.1 < N) : Rk S ht N (vis S N [] e) [] [] [e] where
  fin := by
    show act S N [] [] e = _
    unfold act
    rw [if_neg List.not_mem_nil]
  sub := fun y hy => absurd hy List.not_mem_nil
  way := fun P hP => absurd hP List.not_mem_nil
  low := fun a ha => by rw [List.mem_singleton.mp ha]; exact h
theorem last_split {α : Type} {L L1 L2 : List α} {e p : α} (h : L ++ [e] = L1 ++ p :: L2) : (L2 = [] ∧ e = p ∧ L = L1) ∨ ∃ L3, L2 = L3 ++ [e] ∧ L = L1 ++ p :: L3 := by
  rcases List.eq_nil_or_concat L2 with rfl | ⟨L3, a, rfl⟩
  · have h' : L ++ [e] = L1 ++ [p] := h
    have := List.append_inj' h' rfl
    refine .inl ⟨rfl, by simpa using this.2, this.1⟩
  · rw [List.concat_eq_append] at *
    have h' : L ++ [e] = (L1 ++ p :: L3) ++ [a] := by rw [h]; simp
    have := List.append_inj' h' rfl
    have ea : e = a := by simpa using this.2
    exact .inr ⟨L3, by rw [ea], this.1⟩
theorem Rk.done {N : Nat} {F R B : List (List Nat)} {L : List (List Nat × Nat)} {e : List Nat × Nat} (h : Rk S ht N F R B (L ++ [e])) (he : e.1 ∈ B) : Rk S ht N F (addU R e.1) B L where
  fin := by
    have := h.fin
    rw [List.reverse_append] at this
    show L.reverse.foldl (act S N B) (addU R e.1) = F
    have e1 : act S N B R e = addU R e.1 := if_pos he
    rw [← e1]
    exact this
  sub := fun y hy => (addU_mem.mp hy).elim (h.sub y) fun z => z ▸ he
  way := fun P hP hn => by
    have hn' : P ∉ R ∧ P ≠ e.1 := ⟨fun z => hn (addU_mem.mpr (.inl z)), fun z => hn (addU_mem.mpr (.inr z))⟩
    obtain ⟨L1, L2, k, e1, e2⟩ := h.way P hP hn'.1
    rcases last_split e1 with ⟨_, e3, _⟩ | ⟨L3, rfl, e4⟩
    · exact absurd (by rw [e3]) hn'.2
    · exact ⟨L1, L3, k, e4, fun a ha => e2 a (List.mem_append_left _ ha)⟩
  low := fun a ha => h.low a (List.mem_append_left _ ha)
theorem Rk.step_in (hS : ∀ e z, z ∈ S e → ht z.1 < ht e.1) {N : Nat} {F R B : List (List Nat)} {L : List (List Nat × Nat)} {e z : List Nat × Nat} (h : Rk S ht N F R B (L ++ [e])) (hz : z ∈ S e) (hb : z.1 ∈ B) : z.1 ∈ R := by
  apply Classical.byContradiction
  intro hn
  obtain ⟨L1, L2, k, e1, e2⟩ := h.way z.1 hb hn
  have h1 := hS e z hz
  rcases last_split e1 with ⟨_, e3, _⟩ | ⟨L3, rfl, _⟩
  · rw [e3] at h1; exact Nat.lt_irrefl _ h1
  · have := e2 e (List.mem_append_right _ List.mem_cons_self)
    omega
theorem Rk.begin (hS : ∀ e z, z ∈ S e → ht z.1 < ht e.1) {N : Nat} {F R B : List (List Nat)} {L : List (List Nat × Nat)} {e : List Nat × Nat} (h : Rk S ht N F R B (L ++ [e])) (he : e.1 ∉ B) : Rk S ht N F R (B ++ [e.1]) (L ++ [e] ++ (S e).reverse) where
  fin := by
    have hl := h.low e (List.mem_append_right _ List.mem_cons_self)
    have heR : e.1 ∉ R := fun z => he (h.sub _ z)
    have h0 := h.fin
    rw [List.reverse_append] at h0
    have h1 : L.reverse.foldl (act S N B) (vis S N R e) = F := by
      have e1 : act S N B R e = vis S N R e := if_neg he
      rw [← e1]
      exact h0
    rw [List.reverse_append, List.reverse_reverse, List.reverse_append, List.foldl_append, List.foldl_append]
    have e2 := fold_cong (f := act S N (B ++ [e.1])) (g := vis S N) (I := fun R' => ∀ y ∈ R, y ∈ R') (l := S e) (b := R) (fun y hy => hy) fun R' hR' z hz => by
      refine ⟨?_, fun y hy => vis_keep N (hR' y hy)⟩
      unfold act
      by_cases q : z.1 ∈ B ++ [e.1]
      · rw [if_pos q]
        have hzR : z.1 ∈ R' := by
          rcases List.mem_append.mp q with q | q
          · exact hR' _ (h.step_in hS hz q)
          · have := hS e z hz
            rw [List.mem_singleton.mp q] at this
            exact absurd this (Nat.lt_irrefl _)
        have hzl : ht z.1 < N := Nat.lt_trans (hS e z hz) hl
        rw [vis_unfold hS hzl, if_pos hzR]
        unfold addU
        rw [if_pos hzR]
      · rw [if_neg q]
    rw [e2.1]
    have e3 : [e].reverse.foldl (act S N (B ++ [e.1])) ((S e).foldl (vis S N) R) = vis S N R e := by
      show act S N (B ++ [e.1]) ((S e).foldl (vis S N) R) e = _
      unfold act
      rw [if_pos (List.mem_append_right _ List.mem_cons_self), vis_unfold hS hl, if_neg heR]
    rw [e3]
    have e4 := fold_cong (f := act S N (B ++ [e.1])) (g := act S N B) (I := fun R' => e.1 ∈ R') (l := L.reverse) (b := vis S N R e) (vis_has hS hl) fun R' hR' z hz => by
      refine ⟨?_, act_keep hR'⟩
      unfold act
      by_cases q : z.1 ∈ B
      · rw [if_pos q, if_pos (List.mem_append_left _ q)]
      · rw [if_neg q]
        by_cases q2 : z.1 = e.1
        · have hzl : ht z.1 < N := by rw [q2]; exact hl
          rw [if_pos (by rw [q2]; exact List.mem_append_right _ List.mem_cons_self), vis_unfold hS hzl, if_pos (by rw [q2]; exact hR')]
          unfold addU
          rw [if_pos (by rw [q2]; exact hR')]
        · rw [if_neg fun w => (List.mem_append.mp w).elim q fun w => q2 (List.mem_singleton.mp w)]
    rw [e4.1]
    exact h1
  sub := fun y hy => List.mem_append_left _ (h.sub y hy)
  way := fun P hP hn => by
    by_cases q : P = e.1
    · subst q
      exact ⟨L, (S e).reverse, e.2, by simp, fun a ha => hS e a (List.mem_reverse.mp ha)⟩
    · have hB : P ∈ B := (List.mem_append.mp hP).elim id fun z => absurd (List.mem_singleton.mp z) q
      obtain ⟨L1, L2, k, e1, e2⟩ := h.way P hB hn
      rcases last_split e1 with ⟨_, e3, _⟩ | ⟨L3, rfl, e4⟩
      · exact absurd (by rw [e3]) q
      · have hey := e2 e (List.mem_append_right _ List.mem_cons_self)
        refine ⟨L1, L3 ++ [e] ++ (S e).reverse, k, by rw [e4]; simp, fun a ha => ?_⟩
        rcases List.mem_append.mp ha with ha | ha
        · exact e2 a ha
        · have := hS e a (List.mem_reverse.mp ha)
          omega
  low := fun a ha => by
    rcases List.mem_append.mp ha with ha | ha
    · exact h.low a ha
    · have := hS e a (List.mem_reverse.mp ha)
      have := h.low e (List.mem_append_right _ List.mem_cons_self)
      omega
end

end DL

namespace DL
open PySem PySem.Spec PyProof.Rows L2
local macro_rules | `(tactic| walk_at "op") => `(tactic| first | assumption | with_reducible rfl | exact cat_w (by omega) | exact sub_nn (by omega) | exact add_nn | exact at_w (by omega) (by assumption) | exact len_w (by omega) | exact in_l1 | exact notin_l1 | exact in_t1 | exact notin_t1 | exact in_k1 | exact notin_k1 | exact in_wl | exact notin_wl | exact in_wt | exact notin_wt | exact in_kd | exact notin_kd | exact eq_ww | exact ne_ww | exact any_bl | exact all_bl | rfl)
local macro_rules | `(tactic| walk_at "ev") => `(tactic| first | with_reducible exact c0 | ((with_reducible apply v0); rfl) | with_reducible exact a0 | with_reducible assumption | ((with_reducible apply aCons_ev); (focus walk_at "ev"); (focus walk_at "ev")) | ((with_reducible apply bindA_ev); (focus walk_at "ev"); (focus walk_at "op")) | ((with_reducible apply bind2_ev); (focus walk_at "ev"); (focus walk_at "ev"); (focus walk_at "op")) | ((with_reducible apply bind1_ev); (focus walk_at "ev"); (focus walk_at "op")) | ((with_reducible apply asB_ev); (focus walk_at "ev")) | ((with_reducible apply call_ev); (focus walk_at "ev"); (focus first | assumption | rfl)) | ((with_reducible apply truF_ev); (focus walk_at "ev"); (focus first | assumption | rfl)) | ((with_reducible apply notT_ev); (focus walk_at "ev")) | ((with_reducible apply andT_e); (focus walk_at "ev"); (focus (intro hq; walk_at "ev"))) | ((with_reducible apply orT_e); (focus walk_at "ev"); (focus (intro hq; walk_at "ev"))) | ((with_reducible apply seq_tup); (focus walk_at "ev")) | ((with_reducible apply seq_lst); (focus walk_at "ev")) | ((with_reducible apply seq_str); (focus walk_at "ev")))
local macro_rules | `(tactic| walk_at "w1") => `(tactic| with_reducible first | refine wS_seq ?_ | refine wS_set ?_ | refine wS_ret ?_ | refine wS_if ?_ | refine wS_skip ?_ | refine wS_drop ?_ | refine wS_unp ?_ | refine wE_b2 ?_ | refine wE_b1 ?_ | refine wE_bA ?_ | refine wE_bS ?_ | refine wE_call ?_ | refine wA_c ?_ | refine wA_n ?_ | refine wE_c ?_ | refine wO_n ?_ | refine wO_s ?_ | refine wT_asB ?_ | refine wT_tru ?_ | refine wT_not ?_ | refine wT_and ?_ | refine wT_or ?_ | refine wT_yes ?_ | refine wE_and ?_ | refine wE_or ?_ | refine wE_if ?_ | refine wI_seq ?_ | refine wI_rng ?_ | refine ex_bl ?_ | refine ex_trA ?_ | refine ex_trB ?_ | refine ex_nat ?_ | refine ex_int ?_ | refine ex_unT ?_ | refine ex_unL ?_ | refine and_t ?_ | refine and_f ?_ | refine and_nt ?_ | refine and_nf ?_)
local macro_rules | `(tactic| walk_at "w") => `(tactic| repeat (first | walk_at "w1" | refine wE_v (by rfl) ?_ | ((with_reducible refine wS_par2 ?_ ?_); focus (simp; done)) | ((with_reducible refine wS_par3 ?_ ?_); focus (simp; done)) | ((with_reducible refine wS_setN ?_ ?_); focus (simp; done)) | ((with_reducible apply ex_op); focus (first | exact seqOf_wd | with_reducible exact eq_ss | with_reducible exact ne_ss | with_reducible exact eq_ww | with_reducible exact ne_ww | with_reducible exact eq_ii | with_reducible exact ne_ii | with_reducible exact lt_ii | with_reducible exact gt_ii | with_reducible exact le_ii | with_reducible exact ge_ii | exact all_true' _ _ | walk_at "op")) ))
section
variable {E : Ents} {rs : List Ru} {s : Sto} {x : List Nat}
theorem nodup_leA {α : Type} [DecidableEq α] : ∀ {l m : List α}, l.Nodup → (∀ a ∈ l, a ∈ m) → l.length ≤ m.length
  | [], m, _, _ => Nat.zero_le _
  | a :: l, m, h, hs => by
    obtain ⟨h1, h2⟩ := List.nodup_cons.mp h
    have ha := hs a List.mem_cons_self
    have := nodup_leA (l := l) (m := m.erase a) h2 fun b hb => (List.mem_erase_of_ne fun z => h1 (by rw [← z]; exact hb)).mpr (hs b (List.mem_cons_of_mem _ hb))
    rw [List.length_erase_of_mem ha] at this
    have hp := List.length_pos_of_mem ha
    rw [List.length_cons]
    omega
def hgt (E : Ents) (c : Nat) : Nat := (downN E c).length
def htU (E : Ents) (y : List Nat) : Nat := (y.map fun c => 1 + hgt E c).sum
theorem hgt_lt (hE : Eu E) {c a : Nat} (h : Rch E c a) : hgt E a < hgt E c := by
  have h1 : (a :: downN E a).Nodup := List.nodup_cons.mpr ⟨hE.irr a, lt_nd (down_lt hE.cl a)⟩
  have := nodup_leA (m := downN E c) h1 fun b hb => by
    rcases List.mem_cons.mp hb with rfl | hb
    · exact (down_mem hE.cl).mpr h
    · exact (down_mem hE.cl).mpr (Rch.trans h ((down_mem hE.cl).mp hb))
  exact this
theorem emb_lt (hE : Eu E) {u v : List Nat} (h : Emb (LowP E) u v) : u ≠ v → htU E u < htU E v := by
  have hm : ∀ a c, LowP E a c → 1 + hgt E a ≤ 1 + hgt E c := fun a c hac => by
    rcases (lowP_iff hE.cl).mp hac with rfl | hr
    · exact Nat.le_refl _
    · have := hgt_lt hE hr; omega
  unfold htU
  induction h with
  | nil v =>
    intro hne
    cases v with
    | nil => exact absurd rfl hne
    | cons c v => rw [List.map_cons, List.sum_cons]; show 0 < _; omega
  | @skip c u v hu ih =>
    intro _
    have := emb_sum (fun c => 1 + hgt E c) hm hu
    rw [List.map_cons, List.sum_cons]
    omega
  | @take a c u v ha hu ih =>
    intro hne
    have h1 := emb_sum (fun c => 1 + hgt E c) hm hu
    rw [List.map_cons, List.sum_cons, List.map_cons, List.sum_cons]
    by_cases q : a = c
    · subst q
      have := ih fun z => hne (by rw [z])
      omega
    · have hr := ((lowP_iff hE.cl).mp ha).resolve_left q
      have := hgt_lt hE hr
      omega
theorem emb_sublist {P : Nat → Nat → Prop} (hp : ∀ c, P c c) {u v : List Nat} (h : u.Sublist v) : Emb P u v := by
  induction h with
  | slnil => exact .nil []
  | cons a _ ih => exact .skip ih
  | cons_cons a _ ih => exact .take (hp a) ih
theorem mid_at {k : Nat} (hk : k < x.length) : x = x.take k ++ [x.getD k 0] ++ x.drop (k + 1) := by
  rw [List.append_assoc]
  have := List.take_append_drop k x
  rw [List.drop_eq_getElem_cons hk] at this
  have e : x[k] = x.getD k 0 := by rw [List.getD_eq_getElem?_getD, List.getElem?_eq_getElem hk]; rfl
  rw [e] at this
  exact this.symm
theorem res_lowU (hE : ClE E) {r : Ru} (hf : fallB E r = true) {y : List Nat} (hy : y ∈ resN E x r) : Emb (LowP E) y x := by
  have sl : ∀ k n, (x.take k ++ x.drop (k + n)).Sublist x := fun k n => by
    have := List.Sublist.append (List.Sublist.refl (x.take k)) (List.drop_sublist n (x.drop k))
    rw [List.take_append_drop, List.drop_drop] at this
    exact this
  cases r with
  | empty => rw [List.mem_singleton.mp hy]; exact .nil x
  | half l =>
    rw [List.mem_singleton.mp hy]
    cases l with
    | true => exact emb_sublist low_refl (List.take_sublist _ _)
    | false => exact emb_sublist low_refl (List.drop_sublist _ _)
  | drop n l =>
    obtain ⟨k, _, rfl⟩ := List.mem_map.mp hy
    exact emb_sublist low_refl (sl k n)
  | lower l =>
    obtain ⟨k, hk, hy⟩ := List.mem_flatMap.mp hy
    obtain ⟨a, ha, rfl⟩ := List.mem_map.mp hy
    have hk := pos_lt hk
    have := ((Emb.refl (P := LowP E) low_refl (x.take k)).app (.take (low_of_rch hE (.one ha)) (.nil []))).app (Emb.refl (P := LowP E) low_refl (x.drop (k + 1)))
    rw [← mid_at hk] at this
    exact this
  | put c v l =>
    obtain ⟨k, hk, rfl⟩ := List.mem_map.mp hy
    obtain ⟨hk, hc⟩ := List.mem_filter.mp hk
    have hk := pos_lt hk
    have hc := of_decide_eq_true hc
    have ec : x.getD k 0 = c := by rw [List.getD_eq_getElem?_getD, hc]; rfl
    have hv : v = [] ∨ ∃ a ∈ downN E c, v = [a] := by
      have hf : (decide (v = []) || decide (v ∈ (downN E c).map fun a => [a])) = true := hf
      rw [Bool.or_eq_true, decide_eq_true_iff, decide_eq_true_iff] at hf
      rcases hf with h | h
      · exact .inl h
      · obtain ⟨a, ha, e⟩ := List.mem_map.mp h
        exact .inr ⟨a, ha, e.symm⟩
    have hvc : Emb (LowP E) v [c] := by
      rcases hv with rfl | ⟨a, ha, rfl⟩
      · exact .nil _
      · exact .take (low_of_rch hE ((down_mem hE).mp ha)) (.nil [])
    have := ((Emb.refl (P := LowP E) low_refl (x.take k)).app hvc).app (Emb.refl (P := LowP E) low_refl (x.drop (k + 1)))
    rw [← ec, ← mid_at hk] at this
    exact this
theorem st_low (h : Fu E rs) {f : Nat} {z : List Nat × Nat} (hz : z ∈ stU E rs x f) : Emb (LowP E) z.1 x ∧ z.1 ≠ x := by
  obtain ⟨_, h2, h3⟩ := led_from _ hz
  refine ⟨?_, h3⟩
  by_cases hk : z.2 < rs.length
  · exact res_lowU h.e.cl (h.f _ (ru_at hk)) h2
  · have e : rs.getD z.2 .empty = .empty := by rw [List.getD_eq_getElem?_getD, List.getElem?_eq_none_iff.mpr (by omega)]; rfl
    rw [e] at h2
    rw [List.mem_singleton.mp h2]
    exact .nil x
def ldS (E : Ents) (rs : List Ru) (m : Str) (e : List Nat × Nat) : List (List Nat × Nat) := stU E rs e.1 (if m = ("on" : Str) then e.2 else 0)
theorem ld_lt (h : Fu E rs) (m : Str) : ∀ e z, z ∈ ldS E rs m e → htU E z.1 < htU E e.1 := fun e z hz => by
  obtain ⟨h1, h2⟩ := st_low h hz
  exact emb_lt h.e h1 h2
def rankN (E : Ents) (rs : List Ru) (m : Str) (x : List Nat) : List (List Nat) := vis (ldS E rs m) (htU E x + 1) [] (x, 0)
theorem rank_nd (m : Str) : (rankN E rs m x).Nodup := vis_nd _ .nil
theorem rank_low (h : Fu E rs) (m : Str) : ∀ y ∈ rankN E rs m x, Emb (LowP E) y x :=
  vis_all (P := fun y => Emb (LowP E) y x) (fun e z he hz => Emb.trans (P := LowP E) (fun {a b c} => lowP_trans h.e.cl) (st_low h hz).1 he) _ (fun y hy => absurd hy List.not_mem_nil) (Emb.refl low_refl x)
theorem popF_ev {i : Nat} {env : Env} {ds : List Dt} {d : Dt} (h : env[i]? = some (some (.lst (ds ++ [d])))) : popF i env s = some (d, env.set i (some (.lst ds)), s) := by
  unfold popF lstAt
  rw [h]
  dsimp only
  rw [List.length_append, List.length_singleton, Nat.add_sub_cancel, List.getElem?_append_right (Nat.le_refl _), Nat.sub_self, List.dropLast_concat]
  rfl
theorem wS_unpPop {i j k : Nat} {env : Env} {ds : List Dt} {a b : Dt} {N : Env → Sto → Prop} {R : Dt → Sto → Prop} (h : env[i]? = some (some (.lst (ds ++ [.tup [a, b]])))) (q : N (((env.set i (some (.lst ds))).set j (some a)).set k (some b)) s) : wS (unpX j k (popF i)) env s N R := by
  refine ⟨_, s, ?_, .inl ⟨_, rfl, q⟩⟩
  unfold unpX
  rw [popF_ev h]
theorem wS_extAT {i : Nat} {f : Fe} {env : Env} {l : List Dt} {N : Env → Sto → Prop} {R : Dt → Sto → Prop} (hi : env[i]? = some (some (.lst l))) (h : wE f env s fun d s' => ∃ es, d = .tup es ∧ l.length + es.length ≤ 16777215 ∧ N (env.set i (some (.lst (l ++ es)))) s') : wS (extA i f) env s N R := by
  obtain ⟨d, s', e, es, rfl, hl, q⟩ := h
  refine ⟨_, s', ?_, .inl ⟨_, rfl, q⟩⟩
  unfold extA
  rw [e]
  unfold lstAt
  rw [hi]
  dsimp only
  rw [if_pos (small hl)]
theorem rank_ok (h : Fu E rs) (m : Str) (hx : ∀ c ∈ x, c ∈ E.map (·.1)) (hl : x.length ≤ 50) (hT : (tamN E x).length ≤ 1000) : Vranking_from [bookD E rs, wd x, .int 0, .str m] s = some (.tup ((rankN E rs m x).map wd), s) := by
  have hE := h.e.cl
  have hn := h.n
  have hS := ld_lt h m
  have hW : ∀ y ∈ tamN E x, (∀ c ∈ y, c ∈ E.map (·.1)) ∧ y.length ≤ 50 := fun y hy => by
    have e := (tam_mem x).mp hy
    exact ⟨emb_let hE e hx, by have := e.len; omega⟩
  refine wF_out (wF_fn ?_)
  delta Franking_from
  refine wS_seq (wS_setN (by simp) (wE_eq (show emptyG _ s = some (.dct [], s) from rfl) ?_))
  refine wS_seq (wS_setN (by simp) (wE_eq (show emptyG _ s = some (.dct [], s) from rfl) ?_))
  refine wS_seq (wS_setN (by simp) (wE_bA (wA_c (wE_bA (wA_c (wE_v rfl (wA_c (wE_v rfl (wA_n ⟨.tup [wd x, .int 0], rfl, wA_n ⟨.lst [.tup [wd x, .int 0]], rfl, ?_⟩⟩)))))))))
  refine wS_seq (wS_while (n := (tamN E x).length * 4000 + 1) (fun n env s' => s' = s ∧ ∃ (R B : List (List Nat)) (L : List (List Nat × Nat)) (x7 x8 x9 : Option Dt), Rk (ldS E rs m) (htU E) (htU E x + 1) (rankN E rs m x) R B L ∧ R.Nodup ∧ B.Nodup ∧ (∀ b ∈ B, b ∈ tamN E x) ∧ (∀ e ∈ L, e.1 ∈ tamN E x ∧ e.2 ≤ rs.length) ∧ L.length ≤ 1 + B.length * 3001 ∧ n = ((tamN E x).length - B.length) * 4000 + L.length ∧
    env = [some (bookD E rs), some (wd x), some (.int 0), some (.str m), some (.dct (trW R)), some (.dct (trW B)), some (.lst (L.map pQ)), x7, x8, x9]) (by show _ < 1000000000; omega) ?_ ?_)
  · refine ⟨rfl, [], [], [(x, 0)], none, none, none, Rk.start (Nat.lt_succ_self _), .nil, .nil, fun b hb => absurd hb List.not_mem_nil, fun e he => ?_, by show 1 ≤ 1 + _; omega, rfl, rfl⟩
    rw [List.mem_singleton.mp he]
    exact ⟨(tam_mem x).mpr (Emb.refl low_refl x), Nat.zero_le _⟩
  rintro n env s' ⟨rfl, R, B, L, x7, x8, x9, K, hRn, hBn, hB, hL, hLl, rfl, rfl⟩
  have hBl : B.length ≤ (tamN E x).length := nodup_leA hBn hB
  have hRl : R.length ≤ B.length := nodup_leA hRn K.sub
  refine wT_tru (wE_v rfl ⟨!(L.map pQ).isEmpty, rfl, fun q => ⟨rfl, ?_⟩, fun q => ?_⟩)
  · have : L = [] := by cases L with | nil => rfl | cons a l => cases q
    subst this
    have hf : R = rankN E rs m x := K.fin
    have g1 : toLstG s' [.dct (trW R)] = some (.lst (R.map wd)) := by
      show some (Dt.lst ((trW R).map fun kv => keyD kv.1)) = _
      rw [keys_trW]
    refine wS_ret (wE_bA (wA_c (wE_bA (wA_c (wE_v rfl (wA_n ⟨_, g1, wA_n ⟨_, rfl, ?_, rfl⟩⟩))))))
    rw [hf]
  · rcases List.eq_nil_or_concat L with rfl | ⟨L', e, rfl⟩
    · cases q
    rw [List.concat_eq_append] at *
    obtain ⟨heT, he2⟩ := hL e (List.mem_append_right _ List.mem_cons_self)
    obtain ⟨hel, helen⟩ := hW e.1 heT
    have hLl' : L'.length + 1 ≤ 1 + B.length * 3001 := by rw [List.length_append] at hLl; exact hLl
    refine wS_seq (wS_unpPop (ds := L'.map pQ) (a := wd e.1) (b := .int ((e.2 : Nat) : Int)) (by rw [List.map_append]; rfl) ?_)
    have gi : inA s' (wd e.1) (.dct (trW B)) = some (.bl (decide (e.1 ∈ B))) := by
      have := in_kd (s := s') (l := B) (f := fun z => z) (g := fun _ => .bl true) (x := e.1)
      rw [List.map_id' B] at this
      exact this
    refine wS_if (wT_asB (wE_b2 (wE_v rfl (wE_v rfl ⟨_, gi, _, rfl, fun q2 => ?_, fun q2 => ?_⟩))))
    · have hin := of_decide_eq_true q2
      refine wS_dput (l := trW R) rfl (wE_c (wE_v rfl ⟨.inr (strW e.1), rfl, by rw [List.length_map]; omega, ((tamN E x).length - B.length) * 4000 + L'.length, by rw [List.length_append]; show _ < _ + (_ + 1); omega, rfl, addU R e.1, B, L', some (wd e.1), some (.int ((e.2 : Nat) : Int)), x9, K.done hin, addU_nd hRn, hBn, hB, fun a ha => hL a (List.mem_append_left _ ha), by omega, rfl, ?_⟩))
      rw [put_trW]
      rfl
    · have hni := of_decide_eq_false q2
      have hB1 : (B ++ [e.1]).Nodup := by
        refine List.nodup_append.mpr ⟨hBn, List.nodup_cons.mpr ⟨List.not_mem_nil, .nil⟩, fun a ha b hb z => ?_⟩
        rw [List.mem_singleton.mp hb] at z
        exact hni (z ▸ ha)
      have hB2 : ∀ b ∈ B ++ [e.1], b ∈ tamN E x := fun b hb => (List.mem_append.mp hb).elim (hB b) fun z => by rw [List.mem_singleton.mp z]; exact heT
      have hB3 : (B ++ [e.1]).length ≤ (tamN E x).length := nodup_leA hB1 hB2
      rw [List.length_append, List.length_singleton] at hB3
      have eB : addU B e.1 = B ++ [e.1] := if_neg hni
      refine wS_seq (wS_dput (l := trW B) rfl (wE_c (wE_v rfl ⟨.inr (strW e.1), rfl, by rw [List.length_map]; omega, ?_⟩)))
      rw [put_trW, eB]
      refine wS_seq (wS_app (l := L'.map pQ) rfl (wE_bA (wA_c (wE_v rfl (wA_c (wE_v rfl (wA_n ⟨_, rfl, by rw [List.length_map]; omega, ?_⟩)))))))
      obtain ⟨g, hg, eg⟩ : ∃ g : Nat, g = (if m = ("on" : Str) then e.2 else 0) ∧ ifV (asB (bind2 (fVar 3) (fC (.str "on")) eqG)) (fVar 8) (fC (.int 0)) [some (bookD E rs), some (wd x), some (.int 0), some (.str m), some (.dct (trW R)), some (.dct (trW (B ++ [e.1]))), some (.lst (L'.map pQ ++ [.tup [wd e.1, .int ((e.2 : Nat) : Int)]])), some (wd e.1), some (.int ((e.2 : Nat) : Int)), x9] s' = some (.int ((g : Nat) : Int), s') := by
        have q : asB (bind2 (fVar 3) (fC (.str "on")) eqG) [some (bookD E rs), some (wd x), some (.int 0), some (.str m), some (.dct (trW R)), some (.dct (trW (B ++ [e.1]))), some (.lst (L'.map pQ ++ [.tup [wd e.1, .int ((e.2 : Nat) : Int)]])), some (wd e.1), some (.int ((e.2 : Nat) : Int)), x9] s' = some (decide (m = ("on" : Str)), s') := asB_ev (bind2_ev (v0 rfl) c0 eq_ss)
        by_cases z : m = ("on" : Str)
        · rw [decide_eq_true z] at q
          exact ⟨e.2, (if_pos z).symm, (ifV_t q).trans (v0 rfl)⟩
        · rw [decide_eq_false z] at q
          exact ⟨0, (if_neg z).symm, (ifV_f q).trans c0⟩
      have hgn : g ≤ rs.length := by rw [hg]; split <;> omega
      have hst := stU_ok (s := s') hE h.r (by omega) hel helen hgn
      have eS : stU E rs e.1 g = ldS E rs m e := by unfold ldS; rw [hg]
      have hsl : (stU E rs e.1 g).length ≤ 3000 := by
        have := led_len (rs := rs) hE (fun r hr' => (ru_okR (h.r r hr') hE.lo).1) helen (ordN rs.length g)
        rw [ord_len hgn] at this
        unfold stU
        omega
      rw [eS] at hst hsl
      refine wS_seq (wS_set (wE_call (wA_c (wE_v rfl (wA_c (wE_v rfl (wA_c (wE_eq eg (wA_n (wF_eq hst ?_))))))))))
      refine wS_extAT (l := L'.map pQ ++ [.tup [wd e.1, .int ((e.2 : Nat) : Int)]]) rfl (wE_b1 (wE_v rfl ⟨.tup ((ldS E rs m e).reverse.map pQ), ?_, _, rfl, ?_, ?_⟩))
      · show some (Dt.tup ((ldS E rs m e).map pQ).reverse) = _
        rw [List.map_reverse]
      · rw [List.length_append, List.length_map, List.length_map, List.length_reverse, List.length_singleton]; omega
      · refine ⟨((tamN E x).length - (B ++ [e.1]).length) * 4000 + (L' ++ [e] ++ (ldS E rs m e).reverse).length, ?_, rfl, R, B ++ [e.1], L' ++ [e] ++ (ldS E rs m e).reverse, some (wd e.1), some (.int ((e.2 : Nat) : Int)), some (.tup ((ldS E rs m e).map pQ)), K.begin hS hni, hRn, hB1, hB2, fun a ha => ?_, ?_, rfl, ?_⟩
        · simp only [List.length_append, List.length_reverse, List.length_singleton]
          omega
        · rcases List.mem_append.mp ha with ha | ha
          · exact hL a ha
          · have ha' := List.mem_reverse.mp ha
            have e1 := (st_low h ha').1
            refine ⟨(tam_mem x).mpr (Emb.trans (P := LowP E) (fun {a b c} => lowP_trans hE) e1 ((tam_mem x).mp heT)), ?_⟩
            have h2 := (led_from _ ha').1
            have : a.2 < rs.length := (ord_mem (by split <;> omega)).mp h2
            omega
        · simp only [List.length_append, List.length_reverse, List.length_singleton]
          omega
        · have e5 : (L' ++ [e] ++ (ldS E rs m e).reverse).map pQ = L'.map pQ ++ [.tup [wd e.1, .int ((e.2 : Nat) : Int)]] ++ (ldS E rs m e).reverse.map pQ := by rw [List.map_append, List.map_append]; rfl
          rw [e5]
          rfl
end

end DL

namespace DL
open PySem PySem.Spec PyProof.Rows L2
local macro_rules | `(tactic| walk_at "op") => `(tactic| first | assumption | with_reducible rfl | exact cat_w (by omega) | exact sub_nn (by omega) | exact add_nn | exact at_w (by omega) (by assumption) | exact len_w (by omega) | exact in_l1 | exact notin_l1 | exact in_t1 | exact notin_t1 | exact in_k1 | exact notin_k1 | exact in_wl | exact notin_wl | exact in_wt | exact notin_wt | exact in_kd | exact notin_kd | exact eq_ww | exact ne_ww | exact any_bl | exact all_bl | rfl)
local macro_rules | `(tactic| walk_at "ev") => `(tactic| first | with_reducible exact c0 | ((with_reducible apply v0); rfl) | with_reducible exact a0 | with_reducible assumption | ((with_reducible apply aCons_ev); (focus walk_at "ev"); (focus walk_at "ev")) | ((with_reducible apply bindA_ev); (focus walk_at "ev"); (focus walk_at "op")) | ((with_reducible apply bind2_ev); (focus walk_at "ev"); (focus walk_at "ev"); (focus walk_at "op")) | ((with_reducible apply bind1_ev); (focus walk_at "ev"); (focus walk_at "op")) | ((with_reducible apply asB_ev); (focus walk_at "ev")) | ((with_reducible apply call_ev); (focus walk_at "ev"); (focus first | assumption | rfl)) | ((with_reducible apply truF_ev); (focus walk_at "ev"); (focus first | assumption | rfl)) | ((with_reducible apply notT_ev); (focus walk_at "ev")) | ((with_reducible apply andT_e); (focus walk_at "ev"); (focus (intro hq; walk_at "ev"))) | ((with_reducible apply orT_e); (focus walk_at "ev"); (focus (intro hq; walk_at "ev"))) | ((with_reducible apply seq_tup); (focus walk_at "ev")) | ((with_reducible apply seq_lst); (focus walk_at "ev")) | ((with_reducible apply seq_str); (focus walk_at "ev")))
local macro_rules | `(tactic| walk_at "w1") => `(tactic| with_reducible first | refine wS_seq ?_ | refine wS_set ?_ | refine wS_ret ?_ | refine wS_if ?_ | refine wS_skip ?_ | refine wS_drop ?_ | refine wS_unp ?_ | refine wE_b2 ?_ | refine wE_b1 ?_ | refine wE_bA ?_ | refine wE_bS ?_ | refine wE_call ?_ | refine wA_c ?_ | refine wA_n ?_ | refine wE_c ?_ | refine wO_n ?_ | refine wO_s ?_ | refine wT_asB ?_ | refine wT_tru ?_ | refine wT_not ?_ | refine wT_and ?_ | refine wT_or ?_ | refine wT_yes ?_ | refine wE_and ?_ | refine wE_or ?_ | refine wE_if ?_ | refine wI_seq ?_ | refine wI_rng ?_ | refine ex_bl ?_ | refine ex_trA ?_ | refine ex_trB ?_ | refine ex_nat ?_ | refine ex_int ?_ | refine ex_unT ?_ | refine ex_unL ?_ | refine and_t ?_ | refine and_f ?_ | refine and_nt ?_ | refine and_nf ?_)
local macro_rules | `(tactic| walk_at "w") => `(tactic| repeat (first | walk_at "w1" | refine wE_v (by rfl) ?_ | ((with_reducible refine wS_par2 ?_ ?_); focus (simp; done)) | ((with_reducible refine wS_par3 ?_ ?_); focus (simp; done)) | ((with_reducible refine wS_setN ?_ ?_); focus (simp; done)) | ((with_reducible apply ex_op); focus (first | exact seqOf_wd | with_reducible exact eq_ss | with_reducible exact ne_ss | with_reducible exact eq_ww | with_reducible exact ne_ww | with_reducible exact eq_ii | with_reducible exact ne_ii | with_reducible exact lt_ii | with_reducible exact gt_ii | with_reducible exact le_ii | with_reducible exact ge_ii | exact all_true' _ _ | walk_at "op")) ))
theorem wE_callM {Fn : List Dt → Sto → Option (Dt × Sto)} {ix : List Nat} {fa fk : Fa} {env : Env} {s : Sto} {Q : Dt → Sto → Prop} (h : wA fa env s fun ds s1 => wA fk env s1 fun zs s2 => wF Fn (permL ix (ds ++ zs)) s2 Q) : wE (callM Fn ix fa fk) env s Q := by
  obtain ⟨ds, s1, e1, zs, s2, e2, d, s3, e3, q⟩ := h
  refine ⟨d, s3, ?_, q⟩
  unfold callM
  rw [e1]
  dsimp only
  rw [e2]
  exact e3
section
variable {E : Ents} {rs : List Ru} {s : Sto} {x : List Nat}
theorem manner_ok {m nm : Str} (hm : m = "again" ∨ m = "on") : Vneed_manner [.str m, .str nm] s = some (.non, s) := by
  have g : notinA s (.str m) (.tup [.str "again", .str "on"]) = some (.bl false) := by
    rcases hm with rfl | rfl <;> rfl
  refine wF_out (wF_fn ?_)
  delta Fneed_manner
  refine wS_if (wT_asB (wE_b2 (wE_v rfl (wE_c ⟨_, g, _, rfl, fun z => (by cases z), fun _ => wS_skip ⟨rfl, rfl⟩⟩))))
theorem ranking_ok (h : Fu E rs) {m : Str} (hm : m = "again" ∨ m = "on") (hx : ∀ c ∈ x, c ∈ E.map (·.1)) (hl : x.length ≤ 50) (hT : (tamN E x).length ≤ 1000) : Vranking_of [bookD E rs, wd x, .str m] s = some (.tup ((rankN E rs m x).map wd), s) := by
  have hE := h.e.cl
  have h1 := thing_need (s := s) (E := E) (w := x) (.tup (rs.map Ru.d)) "x" (by have := hE.n; omega) hx (fun c hc => hE.lo c (hx c hc)) hl
  have h2 := manner_ok (s := s) (nm := "manner") hm
  have h3 := need_fall (s := s) h
  have h4 := rank_ok (s := s) h m hx hl hT
  refine wF_out (wF_fn ?_)
  delta Franking_of
  refine wS_seq (wS_drop (wE_call (wA_c (wE_v rfl (wA_c (wE_v rfl (wA_c (wE_c (wA_n (wF_eq h1 ?_))))))))))
  refine wS_seq (wS_drop (wE_call (wA_c (wE_v rfl (wA_c (wE_c (wA_n (wF_eq h2 ?_))))))))
  refine wS_seq (wS_drop (wE_call (wA_c (wE_v rfl (wA_n (wF_eq h3 ?_))))))
  refine wS_ret (wE_call (wA_c (wE_v rfl (wA_c (wE_v rfl (wA_c (wE_c (wA_c (wE_v rfl (wA_n (wF_eq h4 ⟨rfl, rfl⟩)))))))))))
theorem rank_in (h : Fu E rs) (m : Str) : ∀ y ∈ rankN E rs m x, y ∈ tamN E x := fun y hy => (tam_mem x).mpr (rank_low h m y hy)
end
variable {dp : Fn} {Sp : Addr → Nat → Sto → Prop}
end DL

namespace DL
open PySem PySem.Spec PyProof.Rows L2
def F_law_end_k33 : Fs := (seqS (par2S 5 6 (fVar 4) (fC (.int 0))) (seqS (forF (rngF1 (fC (.int 40))) (tgN 7) (seqS (setNS 8 (bindA aNil lstG)) (seqS (forF (seqF (callF V_law_steps_k32 (aCons (fVar 0) (aCons (fVar 1) (aCons (fVar 5) (aCons (fVar 6) aNil)))))) (tgP (tgN 9) (tgN 10)) (ifS (asB (bind2 (lcF (seqF (fVar 3)) (tgN 11) (truF (callF V_law_is_at_most_k32 (aCons (fVar 2) (aCons (fVar 11) (aCons (fVar 9) aNil))))) (fVar 11) [11]) (bindA aNil lstG) neG)) (appS 8 (bindA (aCons (fVar 9) (aCons (fVar 10) aNil)) tupG)) skipS)) (seqS (ifS (asB (bind2 (fVar 8) (bindA aNil lstG) eqG)) (retS (fVar 5)) skipS) (unpS 5 6 (bind2 (fVar 8) (fC (.int 0)) ixA)))))) (retS (fVar 5))))
def V_law_end_k33 : List Dt → Sto → Option (Dt × Sto) := fnV 12 F_law_end_k33
end DL

namespace DL
open PySem PySem.Spec PyProof.Rows L2
local macro_rules | `(tactic| walk_at "op") => `(tactic| first | assumption | with_reducible rfl | exact cat_w (by omega) | exact sub_nn (by omega) | exact add_nn | exact at_w (by omega) (by assumption) | exact len_w (by omega) | exact in_l1 | exact notin_l1 | exact in_t1 | exact notin_t1 | exact in_k1 | exact notin_k1 | exact in_wl | exact notin_wl | exact in_wt | exact notin_wt | exact in_kd | exact notin_kd | exact eq_ww | exact ne_ww | exact any_bl | exact all_bl | rfl)
local macro_rules | `(tactic| walk_at "ev") => `(tactic| first | with_reducible exact c0 | ((with_reducible apply v0); rfl) | with_reducible exact a0 | with_reducible assumption | ((with_reducible apply aCons_ev); (focus walk_at "ev"); (focus walk_at "ev")) | ((with_reducible apply bindA_ev); (focus walk_at "ev"); (focus walk_at "op")) | ((with_reducible apply bind2_ev); (focus walk_at "ev"); (focus walk_at "ev"); (focus walk_at "op")) | ((with_reducible apply bind1_ev); (focus walk_at "ev"); (focus walk_at "op")) | ((with_reducible apply asB_ev); (focus walk_at "ev")) | ((with_reducible apply call_ev); (focus walk_at "ev"); (focus first | assumption | rfl)) | ((with_reducible apply truF_ev); (focus walk_at "ev"); (focus first | assumption | rfl)) | ((with_reducible apply notT_ev); (focus walk_at "ev")) | ((with_reducible apply andT_e); (focus walk_at "ev"); (focus (intro hq; walk_at "ev"))) | ((with_reducible apply orT_e); (focus walk_at "ev"); (focus (intro hq; walk_at "ev"))) | ((with_reducible apply seq_tup); (focus walk_at "ev")) | ((with_reducible apply seq_lst); (focus walk_at "ev")) | ((with_reducible apply seq_str); (focus walk_at "ev")))
local macro_rules | `(tactic| walk_at "w1") => `(tactic| with_reducible first | refine wS_seq ?_ | refine wS_set ?_ | refine wS_ret ?_ | refine wS_if ?_ | refine wS_skip ?_ | refine wS_drop ?_ | refine wS_unp ?_ | refine wE_b2 ?_ | refine wE_b1 ?_ | refine wE_bA ?_ | refine wE_bS ?_ | refine wE_call ?_ | refine wA_c ?_ | refine wA_n ?_ | refine wE_c ?_ | refine wO_n ?_ | refine wO_s ?_ | refine wT_asB ?_ | refine wT_tru ?_ | refine wT_not ?_ | refine wT_and ?_ | refine wT_or ?_ | refine wT_yes ?_ | refine wE_and ?_ | refine wE_or ?_ | refine wE_if ?_ | refine wI_seq ?_ | refine wI_rng ?_ | refine ex_bl ?_ | refine ex_trA ?_ | refine ex_trB ?_ | refine ex_nat ?_ | refine ex_int ?_ | refine ex_unT ?_ | refine ex_unL ?_ | refine and_t ?_ | refine and_f ?_ | refine and_nt ?_ | refine and_nf ?_)
local macro_rules | `(tactic| walk_at "w") => `(tactic| repeat (first | walk_at "w1" | refine wE_v (by rfl) ?_ | ((with_reducible refine wS_par2 ?_ ?_); focus (simp; done)) | ((with_reducible refine wS_par3 ?_ ?_); focus (simp; done)) | ((with_reducible refine wS_setN ?_ ?_); focus (simp; done)) | ((with_reducible apply ex_op); focus (first | exact seqOf_wd | with_reducible exact eq_ss | with_reducible exact ne_ss | with_reducible exact eq_ww | with_reducible exact ne_ww | with_reducible exact eq_ii | with_reducible exact ne_ii | with_reducible exact lt_ii | with_reducible exact gt_ii | with_reducible exact le_ii | with_reducible exact ge_ii | exact all_true' _ _ | walk_at "op")) ))
section
variable {S : List Nat × Nat → List (List Nat × Nat)} {ht : List Nat → Nat} {fl : List Nat → Bool}
def wEnd (S : List Nat × Nat → List (List Nat × Nat)) (fl : List Nat → Bool) : Nat → List Nat × Nat → List Nat
  | 0, e => e.1
  | n + 1, e => match (S e).find? fun z => fl z.1 with
    | none => e.1
    | some z => wEnd S fl n z
theorem addU_pre (R : List (List Nat)) (y : List Nat) : ∃ l, addU R y = R ++ l := by
  unfold addU
  split
  · exact ⟨[], (List.append_nil R).symm⟩
  · exact ⟨[y], rfl⟩
theorem fold_pre {α : Type} {f : List (List Nat) → α → List (List Nat)} (h : ∀ R a, ∃ l, f R a = R ++ l) : ∀ (zs : List α) (R : List (List Nat)), ∃ l, zs.foldl f R = R ++ l
  | [], R => ⟨[], (List.append_nil R).symm⟩
  | z :: zs, R => by
    obtain ⟨l1, e1⟩ := h R z
    obtain ⟨l2, e2⟩ := fold_pre h zs (R ++ l1)
    exact ⟨l1 ++ l2, by rw [List.foldl_cons, e1, e2, List.append_assoc]⟩
theorem vis_pre : ∀ (n : Nat) (R : List (List Nat)) (e : List Nat × Nat), ∃ l, vis S n R e = R ++ l
  | 0, R, e => ⟨[], (List.append_nil R).symm⟩
  | n + 1, R, e => by
    unfold vis
    split
    · exact ⟨[], (List.append_nil R).symm⟩
    · obtain ⟨l1, e1⟩ := fold_pre (vis_pre n) (S e) R
      obtain ⟨l2, e2⟩ := addU_pre ((S e).foldl (vis S n) R) e.1
      exact ⟨l1 ++ l2, by rw [e2, e1, List.append_assoc]⟩
theorem vis_fl (hF : ∀ e z, z ∈ S e → fl z.1 = true → fl e.1 = true) : ∀ (n : Nat) {R : List (List Nat)} {e : List Nat × Nat}, ∀ y ∈ vis S n R e, y ∈ R ∨ (fl y = true → fl e.1 = true)
  | 0, R, e, y, h => .inl h
  | n + 1, R, e, y, h => by
    unfold vis at h
    split at h
    · exact .inl h
    · rcases addU_mem.mp h with h | rfl
      · exact fold_inv (f := vis S n) (I := fun R' => ∀ y ∈ R', y ∈ R ∨ (fl y = true → fl e.1 = true)) (fun y hy => .inl hy) (fun R' hR' z hz y hy => by
          rcases vis_fl hF n y hy with hy | hy
          · exact hR' y hy
          · exact .inr fun q => hF e z hz (hy q)) y h
      · exact .inr id
theorem find_app {l m : List (List Nat)} {y : List Nat} (h : l.find? fl = some y) : (l ++ m).find? fl = some y := by rw [List.find?_append, h]; rfl
theorem g1 (hS : ∀ e z, z ∈ S e → ht z.1 < ht e.1) (hF : ∀ e z, z ∈ S e → fl z.1 = true → fl e.1 = true) : ∀ (n : Nat) {R : List (List Nat)} {e : List Nat × Nat}, ht e.1 < n → (∀ y ∈ R, fl y = false) → fl e.1 = true → (vis S n R e).find? fl = some (wEnd S fl n e)
  | 0, R, e, h, _, _ => absurd h (Nat.not_lt_zero _)
  | n + 1, R, e, h, hR, he => by
    have foldG : ∀ (zs : List (List Nat × Nat)) (R' : List (List Nat)), (∀ z ∈ zs, ht z.1 < n) → (∀ y ∈ R', fl y = false) →
        ((zs.find? fun z => fl z.1) = none → ∀ y ∈ zs.foldl (vis S n) R', fl y = false) ∧ ∀ z, (zs.find? fun z => fl z.1) = some z → (zs.foldl (vis S n) R').find? fl = some (wEnd S fl n z) := by
      intro zs
      induction zs with
      | nil => exact fun R' _ h => ⟨fun _ => h, fun z hz => by cases hz⟩
      | cons z zs ih =>
        intro R' hz hR'
        have hzl := hz z List.mem_cons_self
        cases q : fl z.1 with
        | true =>
          have e1 : (z :: zs).find? (fun z => fl z.1) = some z := by rw [List.find?_cons, q]
          refine ⟨fun w => (by rw [e1] at w; cases w), fun z' w => ?_⟩
          rw [e1] at w
          cases w
          obtain ⟨l, e2⟩ := fold_pre (vis_pre (S := S) n) zs (vis S n R' z)
          rw [List.foldl_cons, e2]
          exact find_app (g1 hS hF n hzl hR' q)
        | false =>
          have e1 : (z :: zs).find? (fun z => fl z.1) = zs.find? fun z => fl z.1 := by rw [List.find?_cons, q]
          rw [e1, List.foldl_cons]
          refine ih _ (fun a ha => hz a (List.mem_cons_of_mem _ ha)) fun y hy => ?_
          rcases vis_fl hF n y hy with hy | hy
          · exact hR' y hy
          · cases w : fl y with
            | false => rfl
            | true => rw [hy w] at q; cases q
    have heR : e.1 ∉ R := fun w => by rw [hR _ w] at he; cases he
    obtain ⟨f1, f2⟩ := foldG (S e) R (fun z hz => by have := hS e z hz; omega) hR
    show (if e.1 ∈ R then R else addU ((S e).foldl (vis S n) R) e.1).find? fl = some (match (S e).find? fun z => fl z.1 with | none => e.1 | some z => wEnd S fl n z)
    rw [if_neg heR]
    cases q : (S e).find? fun z => fl z.1 with
    | none =>
      have hn := f1 q
      have hni : e.1 ∉ (S e).foldl (vis S n) R := fun w => by rw [hn _ w] at he; cases he
      have e1 : addU ((S e).foldl (vis S n) R) e.1 = (S e).foldl (vis S n) R ++ [e.1] := if_neg hni
      rw [e1, List.find?_append, List.find?_eq_none.mpr (fun y hy => by rw [hn y hy]; decide)]
      show [e.1].find? fl = some e.1
      rw [List.find?_cons, he]
    | some z =>
      obtain ⟨l, e1⟩ := addU_pre ((S e).foldl (vis S n) R) e.1
      rw [e1]
      exact find_app (f2 z q)
theorem wEnd_fuel (hS : ∀ e z, z ∈ S e → ht z.1 < ht e.1) : ∀ (n m : Nat) {e : List Nat × Nat}, ht e.1 < n → ht e.1 < m → wEnd S fl n e = wEnd S fl m e
  | 0, _, _, h, _ => absurd h (Nat.not_lt_zero _)
  | _, 0, _, _, h => absurd h (Nat.not_lt_zero _)
  | n + 1, m + 1, e, h1, h2 => by
    show (match (S e).find? fun z => fl z.1 with | none => e.1 | some z => wEnd S fl n z) = (match (S e).find? fun z => fl z.1 with | none => e.1 | some z => wEnd S fl m z)
    cases q : (S e).find? fun z => fl z.1 with
    | none => rfl
    | some z =>
      have := hS e z (List.mem_of_find?_eq_some q)
      exact wEnd_fuel hS n m (by omega) (by omega)
end
section
variable {E : Ents} {rs : List Ru} {s : Sto} {x : List Nat}
theorem htU_small (hE : Eu E) (hx : ∀ c ∈ x, c ∈ E.map (·.1)) : htU E x ≤ x.length * 4 := by
  have h4 := hE.n
  have hc : ∀ c ∈ E.map (·.1), hgt E c ≤ 3 := fun c hc => by
    have := nodup_leA (l := c :: downN E c) (m := E.map (·.1)) (List.nodup_cons.mpr ⟨hE.irr c, lt_nd (down_lt hE.cl c)⟩) fun a ha => (List.mem_cons.mp ha).elim (fun e => e ▸ hc) (down_let hE.cl)
    rw [List.length_map, List.length_cons] at this
    unfold hgt
    omega
  unfold htU
  induction x with
  | nil => exact Nat.le_refl _
  | cons c x ih =>
    have h1 := ih fun a ha => hx a (List.mem_cons_of_mem _ ha)
    have h2 := hc c (hx c List.mem_cons_self)
    rw [List.map_cons, List.sum_cons, List.length_cons, Nat.succ_mul]
    omega
theorem rank_first (h : Fu E rs) (m : Str) {fl : List Nat → Bool} (hup : ∀ y z, Emb (LowP E) y z → fl y = true → fl z = true) (hf : fl x = true) {n : Nat} (hn : htU E x < n) : (rankN E rs m x).find? fl = some (wEnd (ldS E rs m) fl n (x, 0)) := by
  have hF : ∀ e z, z ∈ ldS E rs m e → fl z.1 = true → fl e.1 = true := fun e z hz => hup _ _ (st_low h hz).1
  unfold rankN
  rw [g1 (ld_lt h m) hF (htU E x + 1) (Nat.lt_succ_self _) (fun y hy => absurd hy List.not_mem_nil) hf]
  rw [wEnd_fuel (ld_lt h m) (htU E x + 1) n (Nat.lt_succ_self _) hn]
def failC (E : Ents) (cs : List (List Nat)) (y : List Nat) : Bool := cs.any fun c => embB E c y
theorem failC_up (hE : ClE E) (cs : List (List Nat)) : ∀ y z, Emb (LowP E) y z → failC E cs y = true → failC E cs z = true := fun y z hyz h => by
  obtain ⟨c, hc, e⟩ := List.any_eq_true.mp h
  exact List.any_eq_true.mpr ⟨c, hc, embB_iff.mpr (Emb.trans (P := LowP E) (fun {a b c} => lowP_trans hE) (embB_iff.mp e) hyz)⟩
theorem end_ok (h : Fu E rs) (m : Str) {cs : List (List Nat)} (hcs : ∀ c ∈ cs, c.length ≤ 50) (hcn : cs.length ≤ 100) (hlo : ∀ c ∈ cs, lowc c) (hx : ∀ c ∈ x, c ∈ E.map (·.1)) (hl : x.length ≤ 50) : V_law_end_k33 [bookD E rs, .str m, belD E, .lst (cs.map wd), wd x] s = some (wd (wEnd (ldS E rs m) (failC E cs) 40 (x, 0)), s) := by
  have hE := h.e.cl
  have hn := h.n
  refine wF_out (wF_fn ?_)
  delta F_law_end_k33
  refine wS_seq (wS_par2 (by simp) (wE_v rfl (wE_c ?_)))
  refine wS_seq (wS_for (xs := List.range 40) (enc := fun i => .int (0 + ((i : Nat) : Int))) (fun pre env s' => s' = s ∧ ∃ (e : List Nat × Nat) (x7 x8 x9 x10 : Option Dt), wEnd (ldS E rs m) (failC E cs) 40 (x, 0) = wEnd (ldS E rs m) (failC E cs) (40 - pre.length) e ∧ (∀ c ∈ e.1, c ∈ E.map (·.1)) ∧ e.1.length ≤ 50 ∧ e.2 ≤ rs.length ∧
    env = [some (bookD E rs), some (.str m), some (belD E), some (.lst (cs.map wd)), some (wd x), some (wd e.1), some (.int ((e.2 : Nat) : Int)), x7, x8, x9, x10, none]) ?_)
  refine wI_rng (wE_c ⟨40, rfl, by decide, rfl, ⟨rfl, (x, 0), none, none, none, none, rfl, hx, hl, Nat.zero_le _, rfl⟩, ?_, ?_⟩)
  · rintro pre j post env s' he ⟨rfl, e, x7, x8, x9, x10, hw, hel, hen, he2, rfl⟩
    obtain ⟨hj1, hj2⟩ := range_pre he
    refine ⟨_, rfl, ?_⟩
    obtain ⟨n, hn40⟩ : ∃ n, 40 - pre.length = n + 1 := ⟨39 - pre.length, by omega⟩
    rw [hn40] at hw
    have hst := steps32_ok (s := s') h hel hen m he2
    have eS : stU E rs e.1 (if m = ("on" : Str) then e.2 else 0) = ldS E rs m e := rfl
    have hsl : (ldS E rs m e).length ≤ 3000 := by
      have hgn : (if m = ("on" : Str) then e.2 else 0) ≤ rs.length := by split <;> omega
      have := led_len (rs := rs) hE (fun r hr' => (ru_okR (h.r r hr') hE.lo).1) hen (ordN rs.length (if m = ("on" : Str) then e.2 else 0))
      rw [ord_len hgn] at this
      unfold ldS stU
      omega
    have hSz : ∀ z ∈ ldS E rs m e, (∀ c ∈ z.1, c ∈ E.map (·.1)) ∧ z.1.length ≤ 50 ∧ z.2 < rs.length := fun z hz => by
      have e1 := (st_low h hz).1
      have hgn : (if m = ("on" : Str) then e.2 else 0) ≤ rs.length := by split <;> omega
      exact ⟨emb_let hE e1 hel, by have := e1.len; omega, (ord_mem hgn).mp (led_from _ hz).1⟩
    rw [eS] at hst
    refine wS_seq (wS_setN (by simp) (wE_bA (wA_n ⟨.lst [], rfl, ?_⟩)))
    refine wS_seq (wS_for (xs := ldS E rs m e) (enc := pQ) (fun pz env s2 => s2 = s' ∧ ∃ x9 x10, env = [some (bookD E rs), some (.str m), some (belD E), some (.lst (cs.map wd)), some (wd x), some (wd e.1), some (.int ((e.2 : Nat) : Int)), some (.int (0 + ((j : Nat) : Int))), some (.lst ((pz.filter fun z => failC E cs z.1).map pQ)), x9, x10, none]) ?_)
    refine wI_seq (wE_call (wA_c (wE_v rfl (wA_c (wE_v rfl (wA_c (wE_v rfl (wA_c (wE_v rfl (wA_n (wF_eq hst ⟨_, rfl, rfl, ⟨rfl, x9, x10, rfl⟩, ?_, ?_⟩)))))))))))
    · rintro pz z po env s2 hz2 ⟨rfl, x9, x10, rfl⟩
      refine ⟨_, rfl, ?_⟩
      have hz := hSz z (by rw [hz2]; exact List.mem_append_right _ List.mem_cons_self)
      have hpl := congrArg List.length hz2
      rw [List.length_append, List.length_cons] at hpl
      have hpf := List.length_filter_le (fun z : List Nat × Nat => failC E cs z.1) pz
      have hm := fun (c : List Nat) (hc : c ∈ cs) => most32_ok (s := s2) (E := E) (u := c) hz.1 (by have := hcs c hc; omega)
      have elc : lcF (seqF (fVar 3)) (tgN 11) (truF (callF V_law_is_at_most_k32 (aCons (fVar 2) (aCons (fVar 11) (aCons (fVar 9) aNil))))) (fVar 11) [11] [some (bookD E rs), some (.str m), some (belD E), some (.lst (cs.map wd)), some (wd x), some (wd e.1), some (.int ((e.2 : Nat) : Int)), some (.int (0 + ((j : Nat) : Int))), some (.lst ((pz.filter fun z => failC E cs z.1).map pQ)), some (wd z.1), some (.int ((z.2 : Nat) : Int)), none] s2 = some (.lst ((cs.filter fun c => embB E c z.1).map wd), s2) :=
        lc_e (xs := cs) (enc := wd) (q := fun c => embB E c z.1) (g := wd) (s1 := s2) (seq_lst (v0 rfl)) (small (by omega)) (fun c hc => truF_ev (call_ev (aCons_ev (v0 rfl) (aCons_ev (v0 rfl) (aCons_ev (v0 rfl) a0))) (hm c hc)) rfl) fun c _ _ => v0 rfl
      have gn := ne_wordsL (s := s2) (a := cs.filter fun c => embB E c z.1) fun c hc => hlo c (List.mem_filter.mp hc).1
      rw [fil_any] at gn
      have ef : ∀ b, failC E cs z.1 = b → (pz ++ [z]).filter (fun z => failC E cs z.1) = pz.filter (fun z => failC E cs z.1) ++ (if b = true then [z] else []) := fun b hb => by
        rw [List.filter_append, List.filter_cons, hb]; rfl
      refine wS_if (wT_asB (wE_b2 (wE_eq elc (wE_bA (wA_n ⟨.lst [], rfl, _, gn, _, rfl, fun q => ?_, fun q => ?_⟩)))))
      · refine wS_app (l := (pz.filter fun z => failC E cs z.1).map pQ) rfl (wE_bA (wA_c (wE_v rfl (wA_c (wE_v rfl (wA_n ⟨_, rfl, by rw [List.length_map]; omega, rfl, some (wd z.1), some (.int ((z.2 : Nat) : Int)), ?_⟩))))))
        rw [ef true q, if_pos rfl, List.map_append]
        rfl
      · refine wS_skip ⟨rfl, some (wd z.1), some (.int ((z.2 : Nat) : Int)), ?_⟩
        rw [ef false q]
        simp
    · rintro env s2 ⟨rfl, x9, x10, rfl⟩
      have hf := List.head?_filter (l := ldS E rs m e) (p := fun z => failC E cs z.1)
      have hok : OkD 10000000 3 (.lst (((ldS E rs m e).filter fun z => failC E cs z.1).map pQ)) := by
        refine (OkD.lst (W := 1100) (D := 1) (n := 3000) (fun d hd => ?_) (by rw [List.length_map]; exact Nat.le_trans (List.length_filter_le _ _) hsl)).mono (by decide) (by decide)
        obtain ⟨z, hz, rfl⟩ := List.mem_map.mp hd
        obtain ⟨z1, z2, z3⟩ := hSz z (List.mem_filter.mp hz).1
        refine (OkD.tup (W := 520) (D := 0) (n := 2) (fun d hd => ?_) (by show 2 ≤ 2; decide)).mono (by decide) (by decide)
        rcases List.mem_cons.mp hd with rfl | hd
        · exact (okd_wd (n := 50) (fun c hc => hE.lo c (z1 c hc)) z2).mono (by decide) (Nat.le_refl _)
        · rw [List.mem_singleton.mp hd]
          have := log_small (n := z.2) (by omega)
          exact ⟨decide_eq_true (by omega), by show ((z.2 : Nat) : Int).natAbs.log2 + 2 ≤ 520; omega, Nat.le_refl _⟩
      cases hl2 : (ldS E rs m e).filter fun z => failC E cs z.1 with
      | nil =>
        rw [hl2] at hf
        have hnone : ((ldS E rs m e).find? fun z => failC E cs z.1) = none := hf.symm
        have ge : eqG s2 (.lst (([] : List (List Nat × Nat)).map pQ)) (.lst []) = some (.bl true) := rfl
        refine wS_seq (wS_if (wT_asB (wE_b2 (wE_v rfl (wE_bA (wA_n ⟨.lst [], rfl, _, ge, _, rfl, fun _ => ?_, fun z => (by cases z)⟩))))))
        refine wS_ret (wE_v rfl ⟨?_, rfl⟩)
        rw [hw]
        unfold wEnd
        rw [hnone]
      | cons z l =>
        rw [hl2] at hf hok
        have hsome : ((ldS E rs m e).find? fun z => failC E cs z.1) = some z := hf.symm
        have hzm := List.mem_of_find?_eq_some hsome
        obtain ⟨z1, z2, z3⟩ := hSz z hzm
        obtain ⟨p1, p2⟩ := hok.shaped (by decide)
        have ge : eqG s2 (.lst ((z :: l).map pQ)) (.lst []) = some (.bl false) := by
          have h3 : plain (.lst []) = true ∧ SeqAt.shaped (py (.lst [])) = true := ⟨rfl, rfl⟩
          unfold eqG
          dsimp only
          rw [if_pos ⟨p1, h3.1, p2, h3.2⟩]
          rfl
        have gi : ixA s2 (.lst ((z :: l).map pQ)) (.int 0) = some (pQ z) := at_l (k := 0) rfl
        refine wS_seq (wS_if (wT_asB (wE_b2 (wE_v rfl (wE_bA (wA_n ⟨.lst [], rfl, _, ge, _, rfl, fun z => (by cases z), fun _ => wS_skip ?_⟩))))))
        refine wS_unp (wE_b2 (wE_v rfl (wE_c ⟨_, gi, wd z.1, .int ((z.2 : Nat) : Int), .inl rfl, rfl, z, some (.int (0 + ((j : Nat) : Int))), some (.lst ((z :: l).map pQ)), x9, x10, ?_, z1, z2, by omega, rfl⟩)))
        rw [hw]
        show (match (ldS E rs m e).find? fun z => failC E cs z.1 with | none => e.1 | some z => wEnd (ldS E rs m) (failC E cs) n z) = _
        rw [hsome, List.length_append, List.length_singleton, show 40 - (pre.length + 1) = n by omega]
  · rintro env s' ⟨rfl, e, x7, x8, x9, x10, hw, hel, hen, he2, rfl⟩
    rw [List.length_range] at hw
    refine wS_ret (wE_v rfl ⟨?_, rfl⟩)
    rw [hw]
    rfl
end

end DL

namespace DL
open PySem PySem.Spec PyProof.Rows L2
local macro_rules | `(tactic| walk_at "op") => `(tactic| first | assumption | with_reducible rfl | exact cat_w (by omega) | exact sub_nn (by omega) | exact add_nn | exact at_w (by omega) (by assumption) | exact len_w (by omega) | exact in_l1 | exact notin_l1 | exact in_t1 | exact notin_t1 | exact in_k1 | exact notin_k1 | exact in_wl | exact notin_wl | exact in_wt | exact notin_wt | exact in_kd | exact notin_kd | exact eq_ww | exact ne_ww | exact any_bl | exact all_bl | rfl)
local macro_rules | `(tactic| walk_at "ev") => `(tactic| first | with_reducible exact c0 | ((with_reducible apply v0); rfl) | with_reducible exact a0 | with_reducible assumption | ((with_reducible apply aCons_ev); (focus walk_at "ev"); (focus walk_at "ev")) | ((with_reducible apply bindA_ev); (focus walk_at "ev"); (focus walk_at "op")) | ((with_reducible apply bind2_ev); (focus walk_at "ev"); (focus walk_at "ev"); (focus walk_at "op")) | ((with_reducible apply bind1_ev); (focus walk_at "ev"); (focus walk_at "op")) | ((with_reducible apply asB_ev); (focus walk_at "ev")) | ((with_reducible apply call_ev); (focus walk_at "ev"); (focus first | assumption | rfl)) | ((with_reducible apply truF_ev); (focus walk_at "ev"); (focus first | assumption | rfl)) | ((with_reducible apply notT_ev); (focus walk_at "ev")) | ((with_reducible apply andT_e); (focus walk_at "ev"); (focus (intro hq; walk_at "ev"))) | ((with_reducible apply orT_e); (focus walk_at "ev"); (focus (intro hq; walk_at "ev"))) | ((with_reducible apply seq_tup); (focus walk_at "ev")) | ((with_reducible apply seq_lst); (focus walk_at "ev")) | ((with_reducible apply seq_str); (focus walk_at "ev")))
local macro_rules | `(tactic| walk_at "w1") => `(tactic| with_reducible first | refine wS_seq ?_ | refine wS_set ?_ | refine wS_ret ?_ | refine wS_if ?_ | refine wS_skip ?_ | refine wS_drop ?_ | refine wS_unp ?_ | refine wE_b2 ?_ | refine wE_b1 ?_ | refine wE_bA ?_ | refine wE_bS ?_ | refine wE_call ?_ | refine wA_c ?_ | refine wA_n ?_ | refine wE_c ?_ | refine wO_n ?_ | refine wO_s ?_ | refine wT_asB ?_ | refine wT_tru ?_ | refine wT_not ?_ | refine wT_and ?_ | refine wT_or ?_ | refine wT_yes ?_ | refine wE_and ?_ | refine wE_or ?_ | refine wE_if ?_ | refine wI_seq ?_ | refine wI_rng ?_ | refine ex_bl ?_ | refine ex_trA ?_ | refine ex_trB ?_ | refine ex_nat ?_ | refine ex_int ?_ | refine ex_unT ?_ | refine ex_unL ?_ | refine and_t ?_ | refine and_f ?_ | refine and_nt ?_ | refine and_nf ?_)
local macro_rules | `(tactic| walk_at "w") => `(tactic| repeat (first | walk_at "w1" | refine wE_v (by rfl) ?_ | ((with_reducible refine wS_par2 ?_ ?_); focus (simp; done)) | ((with_reducible refine wS_par3 ?_ ?_); focus (simp; done)) | ((with_reducible refine wS_setN ?_ ?_); focus (simp; done)) | ((with_reducible apply ex_op); focus (first | exact seqOf_wd | with_reducible exact eq_ss | with_reducible exact ne_ss | with_reducible exact eq_ww | with_reducible exact ne_ww | with_reducible exact eq_ii | with_reducible exact ne_ii | with_reducible exact lt_ii | with_reducible exact gt_ii | with_reducible exact le_ii | with_reducible exact ge_ii | exact all_true' _ _ | walk_at "op")) ))
variable {dp : Fn} {Sp : Addr → Nat → Sto → Prop}
end DL

namespace DL
open PySem PySem.Spec PyProof.Rows L2
local macro_rules | `(tactic| walk_at "op") => `(tactic| first | assumption | with_reducible rfl | exact cat_w (by omega) | exact sub_nn (by omega) | exact add_nn | exact at_w (by omega) (by assumption) | exact len_w (by omega) | exact in_l1 | exact notin_l1 | exact in_t1 | exact notin_t1 | exact in_k1 | exact notin_k1 | exact in_wl | exact notin_wl | exact in_wt | exact notin_wt | exact in_kd | exact notin_kd | exact eq_ww | exact ne_ww | exact any_bl | exact all_bl | rfl)
local macro_rules | `(tactic| walk_at "ev") => `(tactic| first | with_reducible exact c0 | ((with_reducible apply v0); rfl) | with_reducible exact a0 | with_reducible assumption | ((with_reducible apply aCons_ev); (focus walk_at "ev"); (focus walk_at "ev")) | ((with_reducible apply bindA_ev); (focus walk_at "ev"); (focus walk_at "op")) | ((with_reducible apply bind2_ev); (focus walk_at "ev"); (focus walk_at "ev"); (focus walk_at "op")) | ((with_reducible apply bind1_ev); (focus walk_at "ev"); (focus walk_at "op")) | ((with_reducible apply asB_ev); (focus walk_at "ev")) | ((with_reducible apply call_ev); (focus walk_at "ev"); (focus first | assumption | rfl)) | ((with_reducible apply truF_ev); (focus walk_at "ev"); (focus first | assumption | rfl)) | ((with_reducible apply notT_ev); (focus walk_at "ev")) | ((with_reducible apply andT_e); (focus walk_at "ev"); (focus (intro hq; walk_at "ev"))) | ((with_reducible apply orT_e); (focus walk_at "ev"); (focus (intro hq; walk_at "ev"))) | ((with_reducible apply seq_tup); (focus walk_at "ev")) | ((with_reducible apply seq_lst); (focus walk_at "ev")) | ((with_reducible apply seq_str); (focus walk_at "ev")))
local macro_rules | `(tactic| walk_at "w1") => `(tactic| with_reducible first | refine wS_seq ?_ | refine wS_set ?_ | refine wS_ret ?_ | refine wS_if ?_ | refine wS_skip ?_ | refine wS_drop ?_ | refine wS_unp ?_ | refine wE_b2 ?_ | refine wE_b1 ?_ | refine wE_bA ?_ | refine wE_bS ?_ | refine wE_call ?_ | refine wA_c ?_ | refine wA_n ?_ | refine wE_c ?_ | refine wO_n ?_ | refine wO_s ?_ | refine wT_asB ?_ | refine wT_tru ?_ | refine wT_not ?_ | refine wT_and ?_ | refine wT_or ?_ | refine wT_yes ?_ | refine wE_and ?_ | refine wE_or ?_ | refine wE_if ?_ | refine wI_seq ?_ | refine wI_rng ?_ | refine ex_bl ?_ | refine ex_trA ?_ | refine ex_trB ?_ | refine ex_nat ?_ | refine ex_int ?_ | refine ex_unT ?_ | refine ex_unL ?_ | refine and_t ?_ | refine and_f ?_ | refine and_nt ?_ | refine and_nf ?_)
local macro_rules | `(tactic| walk_at "w") => `(tactic| repeat (first | walk_at "w1" | refine wE_v (by rfl) ?_ | ((with_reducible refine wS_par2 ?_ ?_); focus (simp; done)) | ((with_reducible refine wS_par3 ?_ ?_); focus (simp; done)) | ((with_reducible refine wS_setN ?_ ?_); focus (simp; done)) | ((with_reducible apply ex_op); focus (first | exact seqOf_wd | with_reducible exact eq_ss | with_reducible exact ne_ss | with_reducible exact eq_ww | with_reducible exact ne_ww | with_reducible exact eq_ii | with_reducible exact ne_ii | with_reducible exact lt_ii | with_reducible exact gt_ii | with_reducible exact le_ii | with_reducible exact ge_ii | exact all_true' _ _ | walk_at "op")) ))
section
variable {α β : Type} {k1 : Nat} {fi fi1 : Fi} {st : Tg} {tt : Ft} {te : Fe} {vs vs1 : List Nat} {env : Env} {s s1 : Sto} {enc : α → Dt} {enc1 : α → β → Dt} {h : α → List β} {q2 : α → β → Bool} {g2 : α → β → Dt} {E1 : α → Env}
theorem lc2L_g {w : Env} : ∀ {xs : List α}, (∀ x, x ∈ xs → st w (enc x) = some (E1 x)) → (∀ x, x ∈ xs → fi1 (E1 x) s = some ((h x).map (enc1 x), s)) → (∀ x, x ∈ xs → ∀ y, y ∈ h x → tt ((wipeE (E1 x) vs1).set k1 (some (enc1 x y))) s = some (q2 x y, s)) →
    (∀ x, x ∈ xs → ∀ y, y ∈ h x → q2 x y = true → te ((wipeE (E1 x) vs1).set k1 (some (enc1 x y))) s = some (g2 x y, s)) → lc2L st fi1 (tgN k1) tt te vs1 w (xs.map enc) s = some (xs.flatMap fun x => ((h x).filter (q2 x)).map (g2 x), s)
  | [], _, _, _, _ => rfl
  | x :: xs, hs, h0, h1, h2 => by
    have ih := lc2L_g (xs := xs) (fun x hx => hs x (List.mem_cons_of_mem _ hx)) (fun x hx => h0 x (List.mem_cons_of_mem _ hx)) (fun x hx => h1 x (List.mem_cons_of_mem _ hx)) fun x hx => h2 x (List.mem_cons_of_mem _ hx)
    rw [List.map_cons]
    unfold lc2L
    rw [hs x List.mem_cons_self]
    dsimp only
    have h0' := h0 x List.mem_cons_self
    rw [h0']
    dsimp only
    have hi := lc2I_e (k := k1) (w := wipeE (E1 x) vs1) (xs := h x) (enc := enc1 x) (h1 x List.mem_cons_self) (h2 x List.mem_cons_self)
    rw [hi]
    dsimp only
    rw [ih]
    rfl
theorem lc2_g {xs : List α} (hi : fi env s = some (xs.map enc, s1)) (hs : ∀ x, x ∈ xs → st (wipeE env vs) (enc x) = some (E1 x)) (h0 : ∀ x, x ∈ xs → fi1 (E1 x) s1 = some ((h x).map (enc1 x), s1)) (h1 : ∀ x, x ∈ xs → ∀ y, y ∈ h x → tt ((wipeE (E1 x) vs1).set k1 (some (enc1 x y))) s1 = some (q2 x y, s1))
    (h2 : ∀ x, x ∈ xs → ∀ y, y ∈ h x → q2 x y = true → te ((wipeE (E1 x) vs1).set k1 (some (enc1 x y))) s1 = some (g2 x y, s1)) (hl : (xs.flatMap fun x => ((h x).filter (q2 x)).map (g2 x)).length ≤ sizeLine) :
    lc2F fi st fi1 (tgN k1) tt te vs vs1 env s = some (.lst (xs.flatMap fun x => ((h x).filter (q2 x)).map (g2 x)), s1) := by
  unfold lc2F
  rw [hi]
  dsimp only
  rw [lc2L_g hs h0 h1 h2]
  dsimp only
  rw [if_pos hl]
end
section
variable {E : Ents} {rs : List Ru} {s : Sto} {x : List Nat}
def pairB (E : Ents) (R : List (List Nat)) : List Bool := (List.range R.length).flatMap fun k => (R.take k).map fun a => embB E (R.getD k []) a
def LeastP (E : Ents) (R : List (List Nat)) : Prop := R.Pairwise fun a b => embB E b a = false
theorem pair_iff {R : List (List Nat)} : (pairB E R).any id = false ↔ LeastP E R := by
  unfold LeastP
  rw [List.pairwise_iff_getElem, List.any_eq_false]
  unfold pairB
  constructor
  · intro h i j hi hj hij
    have := h (embB E (R.getD j []) R[i]) (List.mem_flatMap.mpr ⟨j, List.mem_range.mpr hj, List.mem_map.mpr ⟨R[i], ?_, rfl⟩⟩)
    · rw [List.getD_eq_getElem?_getD, List.getElem?_eq_getElem hj] at this
      simpa using this
    · rw [List.mem_take_iff_getElem]
      exact ⟨i, by omega, rfl⟩
  · intro h b hb
    obtain ⟨k, hk, hb⟩ := List.mem_flatMap.mp hb
    obtain ⟨a, ha, rfl⟩ := List.mem_map.mp hb
    rw [List.mem_take_iff_getElem] at ha
    obtain ⟨i, hi, rfl⟩ := ha
    have hk := List.mem_range.mp hk
    have := h i k (by omega) hk (by omega)
    rw [List.getD_eq_getElem?_getD, List.getElem?_eq_getElem hk]
    show ¬ embB E R[k] R[i] = true
    rw [this]
    decide
def leastN (E : Ents) (rs : List Ru) (m : Str) (x : List Nat) : Bool := if (rankN E rs m x).length < (tamN E x).length then false else !(pairB E (rankN E rs m x)).any id
theorem pair_len (R : List (List Nat)) : (pairB E R).length ≤ R.length * R.length := by
  unfold pairB
  have := flat_len (l := List.range R.length) (f := fun k => (R.take k).map fun a => embB E (R.getD k []) a) (m := R.length) fun k _ => by rw [List.length_map, List.length_take]; omega
  rw [List.length_range] at this
  exact this
theorem least_ok (h : Fu E rs) {m : Str} (hm : m = "again" ∨ m = "on") (hx : ∀ c ∈ x, c ∈ E.map (·.1)) (hl : x.length ≤ 8) (hT : (tamN E x).length ≤ 1000) : Vfinds_least [bookD E rs, wd x, .str m] s = some (.bl (leastN E rs m x), s) := by
  have hE := h.e.cl
  have h1 := ranking_ok (s := s) h hm hx (by omega) hT
  have h2 := things_ok (s := s) hE (.tup (rs.map Ru.d)) hx (by omega) (tam_small h.e hl (by decide))
  have h3 := downs_ok (s := s) hE (.tup (rs.map Ru.d))
  have g1 : lenG s [.tup ((rankN E rs m x).map wd)] = some (.int (((rankN E rs m x).length : Nat) : Int)) := by rw [len_tup, List.length_map]
  have g2 : lenG s [.tup ((sortW (tamN E x)).map wd)] = some (.int (((tamN E x).length : Nat) : Int)) := by rw [len_tup, List.length_map, sortW_len]
  have hR : ∀ y ∈ rankN E rs m x, (∀ c ∈ y, c ∈ E.map (·.1)) ∧ y.length ≤ 8 := fun y hy => by
    have e := rank_low h m y hy
    exact ⟨emb_let hE e hx, by have := e.len; omega⟩
  have hRl : (rankN E rs m x).length ≤ 1000 := Nat.le_trans (nodup_leA (rank_nd m) (rank_in h m)) hT
  have hlt : ∀ b, decide ((rankN E rs m x).length < (tamN E x).length) = b → ltG s (.int (((rankN E rs m x).length : Nat) : Int)) (.int (((tamN E x).length : Nat) : Int)) = some (.bl b) := fun b hb => by
    rw [← hb]
    show some (Dt.bl (decide (_ < _))) = _
    rw [lt_cast]
  have hpl := pair_len (E := E) (rankN E rs m x)
  have hsq : (rankN E rs m x).length * (rankN E rs m x).length ≤ 1000 * 1000 := Nat.mul_le_mul hRl hRl
  unfold leastN
  generalize rankN E rs m x = R at *
  refine wF_out (wF_fn ?_)
  delta Ffinds_least
  refine wS_seq (wS_set (wE_callM (wA_c (wE_v rfl (wA_c (wE_v rfl (wA_n (wA_c (wE_v rfl (wA_n (wF_eq h1 ?_)))))))))))
  refine wS_seq (wS_if (wT_asB (wE_b2 (wE_bA (wA_c (wE_v rfl (wA_n ⟨_, g1, wE_bA (wA_c (wE_call (wA_c (wE_v rfl (wA_c (wE_v rfl (wA_n (wF_eq h2 (wA_n ⟨_, g2, _, hlt _ rfl, _, rfl, fun q => ?_, fun q => ?_⟩)))))))))⟩)))))))
  · refine wS_ret (wE_c ⟨?_, rfl⟩)
    rw [if_pos (of_decide_eq_true q)]
  · rw [if_neg (of_decide_eq_false q)]
    refine wS_skip (wS_seq (wS_set (wE_call (wA_c (wE_v rfl (wA_n (wF_eq h3 ?_)))))))
    have hen : enumF (fVar 3) [some (bookD E rs), some (wd x), some (.str m), some (.tup (R.map wd)), some (downsD E), none, none, none] s = some ((List.range R.length).map fun k => .tup [.int ((k : Nat) : Int), wd (R.getD k [])], s) := by
      unfold enumF
      rw [v0 rfl]
      show some (enD 0 (R.map wd), s) = _
      rw [enD_gen, List.length_map]
      congr 2
      refine List.map_congr_left fun k hk => ?_
      have hk := List.mem_range.mp hk
      rw [Nat.zero_add, List.getD_eq_getElem?_getD, List.getElem?_map, List.getElem?_eq_getElem hk, List.getD_eq_getElem?_getD, List.getElem?_eq_getElem hk]
      rfl
    have e := lc2_g (xs := List.range R.length) (enc := fun k => .tup [.int ((k : Nat) : Int), wd (R.getD k [])]) (st := tgP (tgN 5) (tgN 6)) (fi1 := seqF (bindS (fVar 3) oNone (oSome (fVar 5)) sliceG)) (k1 := 7) (tt := yesT) (te := callF Vcomes_from (aCons (fVar 4) (aCons (fVar 6) (aCons (fVar 7) aNil)))) (vs := [5, 6, 7]) (vs1 := [7])
      (E1 := fun k => [some (bookD E rs), some (wd x), some (.str m), some (.tup (R.map wd)), some (downsD E), some (.int ((k : Nat) : Int)), some (wd (R.getD k [])), none]) (h := fun k => R.take k) (enc1 := fun _ a => wd a) (q2 := fun _ _ => true) (g2 := fun k a => .bl (embB E (R.getD k []) a)) hen (fun k _ => rfl)
      (fun k _ => by
        refine seq_tup (?_ : bindS (fVar 3) oNone (oSome (fVar 5)) sliceG _ s = some (.tup ((R.take k).map wd), s))
        have : sliceG s (.tup (R.map wd)) none (some ((k : Nat) : Int)) = some (.tup ((R.take k).map wd)) := by
          show some (Dt.tup (cutD (R.map wd) none (some ((k : Nat) : Int)))) = _
          rw [cutD_take, List.map_take]
        unfold bindS
        rw [v0 rfl]
        simp only [Option.bind_eq_bind, Option.bind_some]
        rw [show oNone _ s = some (none, s) from rfl]
        simp only [Option.bind_some]
        rw [oS_ev (v0 rfl)]
        simp only [Option.bind_some]
        rw [this]
        rfl)
      (fun k _ a _ => rfl)
      (fun k hk a ha _ => by
        have hk := List.mem_range.mp hk
        have hg : R.getD k [] ∈ R := by rw [List.getD_eq_getElem?_getD, List.getElem?_eq_getElem hk]; exact List.getElem_mem hk
        exact call_ev (aCons_ev (v0 rfl) (aCons_ev (v0 rfl) (aCons_ev (v0 rfl) a0))) (comes_ok (s := s) (E := E) (hR a (List.mem_of_mem_take ha)).1 (by have := (hR _ hg).2; omega)))
      (small (by
        have : ((List.range R.length).flatMap fun k => ((R.take k).filter fun _ => true).map fun a => Dt.bl (embB E (R.getD k []) a)).length = (pairB E R).length := by
          unfold pairB
          rw [List.length_flatMap, List.length_flatMap]
          congr 1
          refine List.map_congr_left fun k _ => ?_
          rw [List.length_map, List.length_map, List.filter_eq_self.mpr fun _ _ => rfl]
        omega))
    have e2 : ((List.range R.length).flatMap fun k => ((R.take k).filter fun _ => true).map fun a => Dt.bl (embB E (R.getD k []) a)) = (pairB E R).map fun b => Dt.bl b := by
      unfold pairB
      rw [List.map_flatMap]
      congr 1
      funext k
      rw [List.filter_eq_self.mpr fun _ _ => rfl, List.map_map]
      rfl
    rw [e2] at e
    have ga : anyG s [.lst ((pairB E R).map fun b => .bl b)] = some (.bl ((pairB E R).any id)) := any_bl (p := id)
    refine wS_ret ⟨.bl (!(pairB E R).any id), s, notV_e (bindA_ev (aCons_ev e a0) ga), rfl, rfl⟩
theorem least_iff (h : Fu E rs) (m : Str) : leastN E rs m x = true ↔ ∀ y ∈ tamN E x, (rankN E rs m x).find? (failC E [y]) = some y := by
  have hin := rank_in (x := x) h m
  have hnd := rank_nd (E := E) (rs := rs) (x := x) m
  have self : ∀ y, failC E [y] y = true := fun y => by
    unfold failC
    rw [List.any_cons, embB_iff.mpr (Emb.refl low_refl y)]; rfl
  have one : ∀ y z, failC E [y] z = embB E y z := fun y z => by
    unfold failC
    rw [List.any_cons, List.any_nil, Bool.or_false]
  have e0 : leastN E rs m x = true ↔ (tamN E x).length ≤ (rankN E rs m x).length ∧ LeastP E (rankN E rs m x) := by
    unfold leastN
    rw [← pair_iff]
    split
    · rename_i hlt
      exact ⟨fun z => (by cases z), fun ⟨z, _⟩ => absurd z (by omega)⟩
    · rename_i hlt
      rw [Bool.not_eq_true']
      exact ⟨fun z => ⟨by omega, z⟩, fun ⟨_, z⟩ => z⟩
  rw [e0]
  generalize rankN E rs m x = R at *
  constructor
  · rintro ⟨hl, hp⟩ y hy
    have hyR : y ∈ R := by
      apply Classical.byContradiction
      intro hn
      have := nodup_leA (l := y :: R) (m := tamN E x) (List.nodup_cons.mpr ⟨hn, hnd⟩) fun a ha => (List.mem_cons.mp ha).elim (fun e => e ▸ hy) (hin a)
      rw [List.length_cons] at this
      omega
    obtain ⟨l1, l2, rfl⟩ := List.append_of_mem hyR
    refine List.find?_eq_some_iff_append.mpr ⟨self y, l1, l2, rfl, fun a ha => ?_⟩
    rw [one]
    have := (List.pairwise_append.mp hp).2.2 a ha y List.mem_cons_self
    rw [this]
    rfl
  · intro hf
    refine ⟨nodup_leA (tam_nd x) fun y hy => List.mem_of_find?_eq_some (hf y hy), ?_⟩
    unfold LeastP
    rw [List.pairwise_iff_getElem]
    intro i j hi hj hij
    have hfj := hf R[j] (hin _ (List.getElem_mem hj))
    have e1 : R.idxOf R[j] = j := by rw [List.Nodup.idxOf_getElem hnd]
    generalize R[j] = y at hfj e1 ⊢
    obtain ⟨_, l1, l2, e, hl1⟩ := List.find?_eq_some_iff_append.mp hfj
    have hl : l1.length = j := by
      have hnd2 := hnd
      rw [e] at hnd2
      have hni : y ∉ l1 := fun w => (List.nodup_append.mp hnd2).2.2 y w y List.mem_cons_self rfl
      have e2 : R.idxOf y = l1.length := by
        rw [e, List.idxOf_append, if_neg hni, List.idxOf_cons_self]; omega
      omega
    have hmem : R[i] ∈ l1 := by
      have : R[i]? = l1[i]? := by
        conv => lhs; rw [e]
        exact List.getElem?_append_left (by omega)
      rw [List.getElem?_eq_getElem hi] at this
      exact List.mem_of_getElem? this.symm
    have := hl1 _ hmem
    rw [one] at this
    simpa using this
end

end DL

namespace DL
open PySem PySem.Spec PyProof.Rows L2
def F_law_draw_k42 : Fs := (seqS (hputS 0 (fC (.str "drawn")) (bind2 (bind2 (fVar 0) (fC (.str "drawn")) ixA) (fC (.int 1)) addAll)) (seqS (ifS (asB (bind2 (bind2 (fVar 0) (fC (.str "rest")) ixA) (fC (.int 0)) gtG)) (seqS (setS 2 (bind2 (bindA (aCons (bind2 (fVar 0) (fC (.str "rest")) ixA) aNil) intG) (fVar 1) modG)) (seqS (hputS 0 (fC (.str "rest")) (bind2 (bind2 (fVar 0) (fC (.str "rest")) ixA) (fVar 1) divG)) (retS (fVar 2)))) skipS) (seqS (par2S 3 4 (bind2 (fVar 0) (fC (.str "turn")) ixA) (bind2 (fVar 0) (fC (.str "cells")) ixA)) (seqS (hputS 0 (fC (.str "turn")) (bind2 (fVar 3) (fC (.int 1)) addAll)) (seqS (setS 5 (ifV (asB (bind2 (fVar 4) (bindA aNil lstG) neG)) (bind2 (fVar 4) (bind2 (bindA (aCons (fVar 3) aNil) intG) (bindA (aCons (fVar 4) aNil) lenG) modG) ixA) (fC (.int 7754)))) (seqS (ifS (andT (asB (bind2 (fVar 3) (bindA (aCons (fVar 4) aNil) lenG) ltG)) (asB (bind2 (fVar 5) (bind2 (fC (.int 10)) (fC (.int 18)) powG) geG))) (seqS (hputS 0 (fC (.str "rest")) (bind2 (fVar 5) (fVar 1) divG)) (retS (bind2 (bindA (aCons (fVar 5) aNil) intG) (fVar 1) modG))) skipS) (seqS (setS 6 (bind2 (bindA (aCons (bind2 (bind2 (bind2 (bindA (aCons (fVar 5) aNil) intG) (fC (.int 2147483629)) modG) (bind2 (fC (.int 7184413)) (bind2 (fVar 0) (fC (.str "drawn")) ixA) mulG) addAll) (fC (.int 1333)) addAll) aNil) intG) (fC (.int 2147483629)) modG)) (seqS (setS 6 (bind2 (bindA (aCons (bind2 (bind2 (bind2 (fVar 6) (fVar 6) mulG) (bind2 (fC (.int 20660819)) (bind2 (fVar 0) (fC (.str "drawn")) ixA) mulG) addAll) (fC (.int 1487)) addAll) aNil) intG) (fC (.int 2147483587)) modG)) (retS (bind2 (bindA (aCons (bind2 (bind2 (bindA (aCons (bind2 (bind2 (fVar 6) (fVar 6) mulG) (bind2 (fC (.int 953)) (fVar 6) mulG) addAll) aNil) intG) (fC (.int 2147483579)) modG) (fC (.int 16)) divG) aNil) intG) (fVar 1) modG))))))))))
def V_law_draw_k42 : List Dt → Sto → Option (Dt × Sto) := fnV 7 F_law_draw_k42
def F_law_is_least_k42 : Fs := (seqS (setS 3 (lcF (seqF (fVar 1)) (tgN 4) (andT (asB (bind2 (fVar 4) (fVar 2) neG)) (truF (callF V_law_is_at_most_k32 (aCons (fVar 0) (aCons (fVar 4) (aCons (fVar 2) aNil)))))) (fVar 4) [4])) (retS (bind2 (fVar 3) (bindA aNil lstG) eqG)))
def V_law_is_least_k42 : List Dt → Sto → Option (Dt × Sto) := fnV 5 F_law_is_least_k42
def F_law_scene_k42 (dp : List Dt → Sto → Option (Dt × Sto)) : Fs := (seqS (par2S 1 2 (callF dp (aCons (fVar 0) (aCons (fC (.int 12)) aNil))) (bindA (aCons (bindA (aCons (fC (.str "a")) (aCons (bindA aNil tupG) aNil)) tupG) (aCons (bindA (aCons (fC (.str "b")) (aCons (bindA (aCons (fC (.str "a")) aNil) tupG) aNil)) tupG) aNil)) tupG)) (seqS (ifS (asB (bind2 (fVar 1) (fC (.int 0)) eqG)) (retS (bindA (aCons (bindA (aCons (fVar 2) (aCons (bindA (aCons (bindA (aCons (fC (.str "put")) (aCons (fC (.str "b")) (aCons (fC (.str "")) (aCons (fC (.str "left")) aNil)))) tupG) (aCons (bindA (aCons (fC (.str "lower")) (aCons (fC (.str "left")) aNil)) tupG) aNil)) tupG) aNil)) tupG) (aCons (callF (V_law_pick_k01 dp) (aCons (fVar 0) (aCons (bindA (aCons (fC (.str "b")) (aCons (fC (.str "bb")) (aCons (fC (.str "ab")) aNil))) lstG) aNil))) aNil)) tupG)) skipS) (seqS (ifS (asB (bind2 (fVar 1) (fC (.int 1)) eqG)) (retS (bindA (aCons (bindA (aCons (fVar 2) (aCons (bindA (aCons (bindA (aCons (fC (.str "empty")) aNil) tupG) aNil) tupG) aNil)) tupG) (aCons (callF (V_law_pick_k01 dp) (aCons (fVar 0) (aCons (bindA (aCons (fC (.str "a")) (aCons (fC (.str "aa")) (aCons (fC (.str "b")) aNil))) lstG) aNil))) aNil)) tupG)) skipS) (seqS (ifS (asB (bind2 (fVar 1) (fC (.int 2)) eqG)) (seqS (setS 3 (bindA (aCons (bindA (aCons (fC (.str "put")) (aCons (fC (.str "c")) (aCons (fC (.str "b")) (aCons (fC (.str "left")) aNil)))) tupG) (aCons (bindA (aCons (fC (.str "drop")) (aCons (fC (.int 1)) (aCons (fC (.str "left")) aNil))) tupG) (aCons (bindA (aCons (fC (.str "put")) (aCons (fC (.str "c")) (aCons (fC (.str "a")) (aCons (fC (.str "left")) aNil)))) tupG) aNil))) tupG)) (retS (bindA (aCons (bindA (aCons (bind2 (fVar 2) (bindA (aCons (bindA (aCons (fC (.str "c")) (aCons (bindA (aCons (fC (.str "b")) aNil) tupG) aNil)) tupG) aNil) tupG) addAll) (aCons (fVar 3) aNil)) tupG) (aCons (callF (V_law_pick_k01 dp) (aCons (fVar 0) (aCons (bindA (aCons (fC (.str "c")) (aCons (fC (.str "ca")) (aCons (fC (.str "cc")) aNil))) lstG) aNil))) aNil)) tupG))) skipS) (seqS (ifS (asB (bind2 (fVar 1) (fC (.int 3)) eqG)) (seqS (setS 3 (bindA (aCons (bindA (aCons (fC (.str "put")) (aCons (fC (.str "b")) (aCons (fC (.str "")) (aCons (fC (.str "left")) aNil)))) tupG) (aCons (bindA (aCons (fC (.str "lower")) (aCons (callF (V_law_pick_k01 dp) (aCons (fVar 0) (aCons (bindA (aCons (fC (.str "left")) (aCons (fC (.str "right")) aNil)) lstG) aNil))) aNil)) tupG) aNil)) tupG)) (retS (bindA (aCons (bindA (aCons (bind2 (fVar 2) (bindA (aCons (bindA (aCons (fC (.str "c")) (aCons (bindA (aCons (fC (.str "b")) aNil) tupG) aNil)) tupG) aNil) tupG) addAll) (aCons (fVar 3) aNil)) tupG) (aCons (callF (V_law_pick_k01 dp) (aCons (fVar 0) (aCons (bindA (aCons (fC (.str "c")) (aCons (fC (.str "c")) (aCons (fC (.str "ca")) (aCons (fC (.str "cc")) (aCons (fC (.str "cb")) aNil))))) lstG) aNil))) aNil)) tupG))) skipS) (seqS (ifS (asB (bind2 (fVar 1) (fC (.int 6)) ltG)) (seqS (setS 4 (callF (V_law_letters_k32 dp) (aCons (fVar 0) aNil))) (seqS (par2S 5 6 (callF V_law_below_k32 (aCons (fVar 4) aNil)) (bindA (aCons (bindA (aCons (fC (.str "drop")) (aCons (fC (.int 1)) (aCons (fC (.str "right")) aNil))) tupG) (aCons (bindA (aCons (fC (.str "lower")) (aCons (fC (.str "left")) aNil)) tupG) aNil)) lstG)) (seqS (par2S 7 8 (callF dp (aCons (fVar 0) (aCons (fC (.int 3)) aNil))) (callF (V_law_rule_k32 dp) (aCons (fVar 0) (aCons (fVar 4) (aCons (fVar 5) aNil))))) (seqS (setS 9 (bindA (aCons (fVar 4) (aCons (bindA (aCons (bind2 (bind2 (bindS (fVar 6) oNone (oSome (fVar 7)) sliceG) (bindA (aCons (fVar 8) aNil) lstG) addAll) (bindS (fVar 6) (oSome (fVar 7)) oNone sliceG) addAll) aNil) toTupG) aNil)) tupG)) (retS (bindA (aCons (fVar 9) (aCons (callF (V_law_start_k32 dp) (aCons (fVar 0) (aCons (fVar 4) (aCons (fVar 5) (aCons (callF (V_law_pick_k01 dp) (aCons (fVar 0) (aCons (bindA (aCons (fC (.int 8)) (aCons (fC (.int 12)) (aCons (fC (.int 20)) (aCons (fC (.int 60)) aNil)))) lstG) aNil))) aNil))))) aNil)) tupG)))))) skipS) (seqS (par2S 9 10 (callF (V_law_tome_k32 dp) (aCons (fVar 0) aNil)) (callF (V_law_pick_k01 dp) (aCons (fVar 0) (aCons (bindA (aCons (fC (.int 4)) (aCons (fC (.int 6)) (aCons (fC (.int 12)) (aCons (fC (.int 20)) aNil)))) lstG) aNil)))) (retS (bindA (aCons (fVar 9) (aCons (callF (V_law_start_k32 dp) (aCons (fVar 0) (aCons (bind2 (fVar 9) (fC (.int 0)) ixA) (aCons (callF V_law_below_k32 (aCons (bind2 (fVar 9) (fC (.int 0)) ixA) aNil)) (aCons (fVar 10) aNil))))) aNil)) tupG)))))))))
def V_law_scene_k42 (dp : List Dt → Sto → Option (Dt × Sto)) : List Dt → Sto → Option (Dt × Sto) := fnV 11 (F_law_scene_k42 dp)
def Flaw_k42 : Fs := (seqS (forF (rngF1 (fC (.int 2))) (tgN 2) (seqS (unpS 3 4 (callF (V_law_scene_k42 V_law_draw_k42) (aCons (fVar 1) aNil))) (seqS (setS 5 (callF V_law_below_k32 (aCons (bind2 (fVar 3) (fC (.int 0)) ixA) aNil))) (seqS (setS 6 (callF V_law_all_k32 (aCons (fVar 5) (aCons (fVar 4) aNil)))) (forF (seqF (bindA (aCons (fC (.str "again")) (aCons (fC (.str "on")) aNil)) tupG)) (tgN 7) (seqS (setNS 8 (bindA aNil lstG)) (seqS (forF (seqF (fVar 6)) (tgN 9) (ifS (asB (bind2 (callF V_law_end_k33 (aCons (fVar 3) (aCons (fVar 7) (aCons (fVar 5) (aCons (bindA (aCons (fVar 9) aNil) lstG) (aCons (fVar 4) aNil)))))) (fVar 9) neG)) (appS 8 (fVar 9)) skipS)) (seqS (ifS (asB (bind2 (bindA (aCons (callM Vfinds_least [0, 1, 2] (aCons (fVar 3) (aCons (fVar 4) aNil)) (aCons (fVar 7) aNil)) aNil) reprG) (bindA (aCons (bind2 (fVar 8) (bindA aNil lstG) eqG) aNil) reprG) neG)) (retS (fC (.bl false))) skipS) (forF (rngF1 (fC (.int 3))) (tgN 10) (seqS (setS 11 (lcF (rngF1 (bind2 (fC (.int 2)) (callF V_law_draw_k42 (aCons (fVar 1) (aCons (fC (.int 3)) aNil))) addAll)) (tgN 13) yesT (callF (V_law_pick_k01 V_law_draw_k42) (aCons (fVar 1) (aCons (fVar 6) aNil))) [13])) (seqS (setS 12 (callF V_law_end_k33 (aCons (fVar 3) (aCons (fVar 7) (aCons (fVar 5) (aCons (fVar 11) (aCons (fVar 4) aNil))))))) (ifS (andT (asB (bind2 (fVar 8) (bindA aNil lstG) eqG)) (notT (truF (callF V_law_is_least_k42 (aCons (fVar 5) (aCons (fVar 11) (aCons (fVar 12) aNil))))))) (retS (fC (.bl false))) skipS)))))))))))) (retS (bind2 (bindA (aCons (callD Vfinds_least [0, 1, 2] (aCons (fVar 3) (aCons (fVar 4) aNil)) aNil [.str "again"]) aNil) reprG) (bindA (aCons (callM Vfinds_least [0, 1, 2] (aCons (fVar 3) (aCons (fVar 4) aNil)) (aCons (fC (.str "again")) aNil)) aNil) reprG) eqG)))
def Elaw_k42 : Fe := (callF V_law_feed_k32 (aCons (fVar 0) aNil))
end DL

namespace DL
open PySem PySem.Spec PyProof.Rows L2
local macro_rules | `(tactic| walk_at "op") => `(tactic| first | assumption | with_reducible rfl | exact cat_w (by omega) | exact sub_nn (by omega) | exact add_nn | exact at_w (by omega) (by assumption) | exact len_w (by omega) | exact in_l1 | exact notin_l1 | exact in_t1 | exact notin_t1 | exact in_k1 | exact notin_k1 | exact in_wl | exact notin_wl | exact in_wt | exact notin_wt | exact in_kd | exact notin_kd | exact eq_ww | exact ne_ww | exact any_bl | exact all_bl | rfl)
local macro_rules | `(tactic| walk_at "ev") => `(tactic| first | with_reducible exact c0 | ((with_reducible apply v0); rfl) | with_reducible exact a0 | with_reducible assumption | ((with_reducible apply aCons_ev); (focus walk_at "ev"); (focus walk_at "ev")) | ((with_reducible apply bindA_ev); (focus walk_at "ev"); (focus walk_at "op")) | ((with_reducible apply bind2_ev); (focus walk_at "ev"); (focus walk_at "ev"); (focus walk_at "op")) | ((with_reducible apply bind1_ev); (focus walk_at "ev"); (focus walk_at "op")) | ((with_reducible apply asB_ev); (focus walk_at "ev")) | ((with_reducible apply call_ev); (focus walk_at "ev"); (focus first | assumption | rfl)) | ((with_reducible apply truF_ev); (focus walk_at "ev"); (focus first | assumption | rfl)) | ((with_reducible apply notT_ev); (focus walk_at "ev")) | ((with_reducible apply andT_e); (focus walk_at "ev"); (focus (intro hq; walk_at "ev"))) | ((with_reducible apply orT_e); (focus walk_at "ev"); (focus (intro hq; walk_at "ev"))) | ((with_reducible apply seq_tup); (focus walk_at "ev")) | ((with_reducible apply seq_lst); (focus walk_at "ev")) | ((with_reducible apply seq_str); (focus walk_at "ev")))
local macro_rules | `(tactic| walk_at "w1") => `(tactic| with_reducible first | refine wS_seq ?_ | refine wS_set ?_ | refine wS_ret ?_ | refine wS_if ?_ | refine wS_skip ?_ | refine wS_drop ?_ | refine wS_unp ?_ | refine wE_b2 ?_ | refine wE_b1 ?_ | refine wE_bA ?_ | refine wE_bS ?_ | refine wE_call ?_ | refine wA_c ?_ | refine wA_n ?_ | refine wE_c ?_ | refine wO_n ?_ | refine wO_s ?_ | refine wT_asB ?_ | refine wT_tru ?_ | refine wT_not ?_ | refine wT_and ?_ | refine wT_or ?_ | refine wT_yes ?_ | refine wE_and ?_ | refine wE_or ?_ | refine wE_if ?_ | refine wI_seq ?_ | refine wI_rng ?_ | refine ex_bl ?_ | refine ex_trA ?_ | refine ex_trB ?_ | refine ex_nat ?_ | refine ex_int ?_ | refine ex_unT ?_ | refine ex_unL ?_ | refine and_t ?_ | refine and_f ?_ | refine and_nt ?_ | refine and_nf ?_)
local macro_rules | `(tactic| walk_at "w") => `(tactic| repeat (first | walk_at "w1" | refine wE_v (by rfl) ?_ | ((with_reducible refine wS_par2 ?_ ?_); focus (simp; done)) | ((with_reducible refine wS_par3 ?_ ?_); focus (simp; done)) | ((with_reducible refine wS_setN ?_ ?_); focus (simp; done)) | ((with_reducible apply ex_op); focus (first | exact seqOf_wd | with_reducible exact eq_ss | with_reducible exact ne_ss | with_reducible exact eq_ww | with_reducible exact ne_ww | with_reducible exact eq_ii | with_reducible exact ne_ii | with_reducible exact lt_ii | with_reducible exact gt_ii | with_reducible exact le_ii | with_reducible exact ge_ii | exact all_true' _ _ | walk_at "op")) ))
variable {dp : Fn} {Sp : Addr → Nat → Sto → Prop}
def E2 : Ents := [(97, []), (98, [97])]
def E3 : Ents := [(97, []), (98, [97]), (99, [98])]
theorem eu2 : Eu E2 := ⟨⟨⟨by decide +kernel, by decide +kernel⟩, by decide +kernel, by decide +kernel, by decide +kernel⟩, by decide +kernel, by decide +kernel, by unfold IncL; decide +kernel, by decide +kernel, fun s => by kernel_rfl, fun c => c, by decide +kernel⟩
theorem eu3 : Eu E3 := ⟨⟨⟨by decide +kernel, by decide +kernel⟩, by decide +kernel, by decide +kernel, by decide +kernel⟩, by decide +kernel, by decide +kernel, by unfold IncL; decide +kernel, by decide +kernel, fun s => by kernel_rfl, fun c => c, by decide +kernel⟩
def ruLb (L : List Nat) : Ru → Bool
  | .put c v _ => decide (c ∈ L) && v.all (fun a => decide (a ∈ L)) && decide (v ≠ [c]) && decide (v.length ≤ 3)
  | .drop n _ => decide (1 ≤ n) && decide (n ≤ 4)
  | _ => true
theorem ruLb_ok {L : List Nat} {r : Ru} (h : ruLb L r = true) : ruL L r := by
  cases r with
  | put c v l =>
    unfold ruLb at h
    simp only [Bool.and_eq_true, decide_eq_true_iff, List.all_eq_true] at h
    exact ⟨h.1.1.1, h.1.1.2, h.1.2, h.2⟩
  | drop n l =>
    unfold ruLb at h
    simp only [Bool.and_eq_true, decide_eq_true_iff] at h
    exact h
  | half l => trivial
  | empty => trivial
  | lower l => trivial
theorem fu_by {E : Ents} (hE : Eu E) {rs : List Ru} (hn : rs.length ≤ 6) (h : (rs.all fun r => ruLb (E.map (·.1)) r && fallB E r) = true) : Fu E rs where
  e := hE
  n := hn
  r := fun r hr => ruLb_ok (Bool.and_eq_true_iff.mp (List.all_eq_true.mp h r hr)).1
  f := fun r hr => (Bool.and_eq_true_iff.mp (List.all_eq_true.mp h r hr)).2
structure Sc (E : Ents) (rs : List Ru) (x : List Nat) : Prop where
  f : Fu E rs
  hx : ∀ c ∈ x, c ∈ E.map (·.1)
  hl : x.length ≤ 6
  ht : (tamN E x).length ≤ 60
theorem sc_by {E : Ents} {rs : List Ru} (hF : Fu E rs) {ws : List (List Nat)} (h : (ws.all fun x => x.all (fun c => decide (c ∈ E.map (·.1))) && decide (x.length ≤ 6) && decide ((tamN E x).length ≤ 60)) = true) {d : Dt} (hd : d ∈ ws.map wd) : ∃ x, d = wd x ∧ Sc E rs x := by
  obtain ⟨x, hx, rfl⟩ := List.mem_map.mp hd
  have := List.all_eq_true.mp h x hx
  simp only [Bool.and_eq_true, decide_eq_true_iff, List.all_eq_true] at this
  exact ⟨x, rfl, hF, this.1.1, this.1.2, this.2⟩
theorem side_of {d : Dt} (hd : d ∈ [Dt.str "left", Dt.str "right"]) : ∃ b, d = sideD b := by
  simp only [List.mem_cons, List.not_mem_nil, or_false] at hd
  rcases hd with rfl | rfl
  · exact ⟨true, rfl⟩
  · exact ⟨false, rfl⟩
theorem nats_of {ks : List Nat} {d : Dt} (hd : d ∈ ks.map fun k => Dt.int ((k : Nat) : Int)) : ∃ k ∈ ks, d = .int ((k : Nat) : Int) := by
  obtain ⟨k, hk, e⟩ := List.mem_map.mp hd
  exact ⟨k, hk, e.symm⟩
theorem wF_scene42 (D : Dip dp Sp) {p : Addr} {n : Nat} {s : Sto} {Q : Dt → Sto → Prop} (h : Sp p n s) (hn : n < 700000) (q : ∀ E rs x s', Sc E rs x → Sp p (n + 60) s' → Q (.tup [bookD E rs, wd x]) s') : wF (V_law_scene_k42 dp) [.ref p] s Q := by
  refine wF_fn ?_
  delta F_law_scene_k42
  refine wS_seq (wS_par2 (by simp) (wE_call (wA_c (wE_v rfl (wA_c (wE_c (wA_n ?_)))))))
  refine wF_draw D h (by omega) (by decide) (by decide) fun k s1 hk h1 => ?_
  refine ⟨.tup (entL E2), s1, rfl, ?_⟩
  refine wS_seq (wS_if (wT_asB (wE_b2 (wE_v rfl (wE_c ⟨_, eq_ii, _, rfl, fun _ => ?_, fun _ => wS_skip ?_⟩)))))
  · walk_at "w"
    refine wF_pick D h1 (by omega) (by simp) (by simp) fun d s2 hd h2 => ?_
    obtain ⟨x, rfl, hs⟩ := sc_by (E := E2) (rs := [.put 98 [] true, .lower true]) (fu_by eu2 (by decide) (by decide +kernel)) (ws := [[98], [98, 98], [97, 98]]) (by decide +kernel) hd
    walk_at "w"
    exact q _ _ _ _ hs (D.mono h2 (by omega))
  refine wS_seq (wS_if (wT_asB (wE_b2 (wE_v rfl (wE_c ⟨_, eq_ii, _, rfl, fun _ => ?_, fun _ => wS_skip ?_⟩)))))
  · walk_at "w"
    refine wF_pick D h1 (by omega) (by simp) (by simp) fun d s2 hd h2 => ?_
    obtain ⟨x, rfl, hs⟩ := sc_by (E := E2) (rs := [.empty]) (fu_by eu2 (by decide) (by decide +kernel)) (ws := [[97], [97, 97], [98]]) (by decide +kernel) hd
    walk_at "w"
    exact q _ _ _ _ hs (D.mono h2 (by omega))
  have g3 : ∀ s : Sto, addAll s (.tup (entL E2)) (.tup [.tup [.str "c", .tup [.str "b"]]]) = some (.tup (entL E3)) := fun s => rfl
  refine wS_seq (wS_if (wT_asB (wE_b2 (wE_v rfl (wE_c ⟨_, eq_ii, _, rfl, fun _ => ?_, fun _ => wS_skip ?_⟩)))))
  · have g3' := g3 s1
    walk_at "w"
    refine wF_pick D h1 (by omega) (by simp) (by simp) fun d s2 hd h2 => ?_
    obtain ⟨x, rfl, hs⟩ := sc_by (E := E3) (rs := [.put 99 [98] true, .drop 1 true, .put 99 [97] true]) (fu_by eu3 (by decide) (by decide +kernel)) (ws := [[99], [99, 97], [99, 99]]) (by decide +kernel) hd
    walk_at "w"
    exact q _ _ _ _ hs (D.mono h2 (by omega))
  refine wS_seq (wS_if (wT_asB (wE_b2 (wE_v rfl (wE_c ⟨_, eq_ii, _, rfl, fun _ => ?_, fun _ => wS_skip ?_⟩)))))
  · walk_at "w"
    refine wF_pick D h1 (by omega) (by simp) (by simp) fun d s2 hd h2 => ?_
    obtain ⟨b, rfl⟩ := side_of hd
    have g3' := g3 s2
    walk_at "w"
    refine wF_pick D h2 (by omega) (by simp) (by simp) fun d s3 hd h3 => ?_
    obtain ⟨x, rfl, hs⟩ := sc_by (E := E3) (rs := [.put 98 [] true, .lower b]) (fu_by eu3 (by simp) (by cases b <;> decide +kernel)) (ws := [[99], [99], [99, 97], [99, 99], [99, 98]]) (by decide +kernel) hd
    walk_at "w"
    exact q _ _ _ _ hs (D.mono h3 (by omega))
  refine wS_seq (wS_if (wT_asB (wE_b2 (wE_v rfl (wE_c ⟨_, lt_ii, _, rfl, fun _ => ?_, fun _ => wS_skip ?_⟩)))))
  · refine wS_seq (wS_set (wE_call (wA_c (wE_v rfl (wA_n (wF_lets32 D h1 (by omega) fun E s2 hE h2 => ?_))))))
    have hb := hE.bel s2
    refine wS_seq (wS_par2 (by simp) (wE_call (wA_c (wE_v rfl (wA_n (wF_eq hb ?_))))))
    refine ⟨.lst ([Ru.drop 1 false, Ru.lower true].map Ru.d), s2, rfl, ?_⟩
    refine wS_seq (wS_par2 (by simp) (wE_call (wA_c (wE_v rfl (wA_c (wE_c (wA_n ?_)))))))
    refine wF_draw D h2 (by omega) (by decide) (by decide) fun j s3 hj h3 => ?_
    refine wE_call (wA_c (wE_v rfl (wA_c (wE_v rfl (wA_c (wE_v rfl (wA_n ?_)))))))
    refine wF_rule32 D hE h3 (by omega) fun r s4 hr hf h4 => ?_
    have hj3 : j < 3 := by omega
    have s1' : sliceG s4 (.lst ([Ru.drop 1 false, Ru.lower true].map Ru.d)) none (some ((j : Nat) : Int)) = some (.lst (([Ru.drop 1 false, Ru.lower true].take j).map Ru.d)) := by
      show some (Dt.lst (cutD _ none (some ((j : Nat) : Int)))) = _
      rw [cutD_take, List.map_take]
    have s2' : sliceG s4 (.lst ([Ru.drop 1 false, Ru.lower true].map Ru.d)) (some ((j : Nat) : Int)) none = some (.lst (([Ru.drop 1 false, Ru.lower true].drop j).map Ru.d)) := by
      have : j = 0 ∨ j = 1 ∨ j = 2 := by omega
      rcases this with rfl | rfl | rfl <;> rfl
    have a1 : addAll s4 (.lst (([Ru.drop 1 false, Ru.lower true].take j).map Ru.d)) (.lst [r.d]) = some (.lst (([Ru.drop 1 false, Ru.lower true].take j ++ [r]).map Ru.d)) := by
      rw [List.map_append]
      exact cat_l (by rw [List.length_map, List.length_take]; show _ + 1 ≤ _; omega)
    have a2 : addAll s4 (.lst (([Ru.drop 1 false, Ru.lower true].take j ++ [r]).map Ru.d)) (.lst (([Ru.drop 1 false, Ru.lower true].drop j).map Ru.d)) = some (.lst (([Ru.drop 1 false, Ru.lower true].take j ++ [r] ++ [Ru.drop 1 false, Ru.lower true].drop j).map Ru.d)) := by
      rw [List.map_append (l₁ := [Ru.drop 1 false, Ru.lower true].take j ++ [r])]
      exact cat_l (by rw [List.length_map, List.length_map, List.length_append, List.length_take, List.length_drop]; show _ + 1 + (2 - j) ≤ _; omega)
    have hF : Fu E ([Ru.drop 1 false, Ru.lower true].take j ++ [r] ++ [Ru.drop 1 false, Ru.lower true].drop j) := by
      have hm : ∀ r' ∈ [Ru.drop 1 false, Ru.lower true].take j ++ [r] ++ [Ru.drop 1 false, Ru.lower true].drop j, r' = r ∨ r' ∈ [Ru.drop 1 false, Ru.lower true] := fun r' hr' => by
        rcases List.mem_append.mp hr' with hr' | hr'
        · rcases List.mem_append.mp hr' with hr' | hr'
          · exact .inr (List.mem_of_mem_take hr')
          · exact .inl (List.mem_singleton.mp hr')
        · exact .inr (List.mem_of_mem_drop hr')
      refine ⟨hE, by rw [List.length_append, List.length_append, List.length_take, List.length_drop]; show _ + 1 + (2 - j) ≤ 6; omega, fun r' hr' => ?_, fun r' hr' => ?_⟩
      · rcases hm r' hr' with rfl | hr'
        · exact hr
        · simp only [List.mem_cons, List.not_mem_nil, or_false] at hr'
          rcases hr' with rfl | rfl
          · exact ⟨by decide, by decide⟩
          · trivial
      · rcases hm r' hr' with rfl | hr'
        · exact hf
        · simp only [List.mem_cons, List.not_mem_nil, or_false] at hr'
          rcases hr' with rfl | rfl <;> rfl
    generalize [Ru.drop 1 false, Ru.lower true].take j ++ [r] ++ [Ru.drop 1 false, Ru.lower true].drop j = rs at a2 hF
    refine wS_seq (wS_set (wE_bA (wA_c (wE_v rfl (wA_c (wE_bA (wA_c (wE_b2 (wE_b2 (wE_bS (wE_v rfl (wO_n (wO_s (wE_v rfl ⟨_, rfl, _, s1', wE_bA (wA_c (wE_v rfl (wA_n ⟨.lst [r.d], rfl, _, a1, wE_bS (wE_v rfl (wO_s (wE_v rfl ⟨_, rfl, wO_n ⟨_, s2', _, a2, wA_n ⟨_, rfl, wA_n ⟨bookD E rs, rfl, ?_⟩⟩⟩⟩)))⟩)))⟩))))))))))))))
    refine wS_ret (wE_bA (wA_c (wE_v rfl (wA_c (wE_call (wA_c (wE_v rfl (wA_c (wE_v rfl (wA_c (wE_v rfl (wA_c (wE_call (wA_c (wE_v rfl (wA_c (wE_bA (wA_c (wE_c (wA_c (wE_c (wA_c (wE_c (wA_c (wE_c (wA_n ⟨.lst ([8, 12, 20, 60].map fun k => .int ((k : Nat) : Int)), rfl, wA_n ?_⟩))))))))))))))))))))))))))
    refine wF_pick D h4 (by omega) (by simp) (by simp) fun d s5 hd h5 => ?_
    obtain ⟨k2, hk2, rfl⟩ := nats_of hd
    have hkk : 1 ≤ k2 ∧ k2 ≤ 60 := by
      simp only [List.mem_cons, List.not_mem_nil, or_false] at hk2
      omega
    refine wA_n (wF_start D hE hkk.1 h5 (by omega) fun w s6 hw hwl hwt h6 => wA_n ⟨_, rfl, ?_⟩)
    exact q E rs w s6 ⟨hF, hw, hwl, by omega⟩ (D.mono h6 (by omega))
  · refine wS_seq (wS_par2 (by simp) (wE_call (wA_c (wE_v rfl (wA_n (wF_tome D h1 (by omega) fun E rs s2 hF h2 => ?_))))))
    refine wE_call (wA_c (wE_v rfl (wA_c (wE_bA (wA_c (wE_c (wA_c (wE_c (wA_c (wE_c (wA_c (wE_c (wA_n ⟨.lst ([4, 6, 12, 20].map fun k => .int ((k : Nat) : Int)), rfl, wA_n ?_⟩)))))))))))))
    refine wF_pick D h2 (by omega) (by simp) (by simp) fun d s3 hd h3 => ?_
    obtain ⟨k2, hk2, rfl⟩ := nats_of hd
    have hkk : 1 ≤ k2 ∧ k2 ≤ 60 := by
      simp only [List.mem_cons, List.not_mem_nil, or_false] at hk2
      omega
    have gx : ixA s3 (bookD E rs) (.int 0) = some (.tup (entL E)) := rfl
    have hb := hF.e.bel s3
    refine wS_ret (wE_bA (wA_c (wE_v rfl (wA_c (wE_call (wA_c (wE_v rfl (wA_c (wE_b2 (wE_v rfl (wE_c ⟨_, gx, wA_c (wE_call (wA_c (wE_b2 (wE_v rfl (wE_c ⟨_, gx, wA_n (wF_eq hb (wA_c (wE_v rfl (wA_n ?_))))⟩)))))⟩)))))))))))
    refine wF_start D hF.e hkk.1 h3 (by omega) fun w s6 hw hwl hwt h6 => wA_n ⟨_, rfl, ?_⟩
    exact q E rs w s6 ⟨hF, hw, hwl, by omega⟩ (D.mono h6 (by omega))

end DL

namespace DL
open PySem PySem.Spec PyProof.Rows L2
local macro_rules | `(tactic| walk_at "op") => `(tactic| first | assumption | with_reducible rfl | exact cat_w (by omega) | exact sub_nn (by omega) | exact add_nn | exact at_w (by omega) (by assumption) | exact len_w (by omega) | exact in_l1 | exact notin_l1 | exact in_t1 | exact notin_t1 | exact in_k1 | exact notin_k1 | exact in_wl | exact notin_wl | exact in_wt | exact notin_wt | exact in_kd | exact notin_kd | exact eq_ww | exact ne_ww | exact any_bl | exact all_bl | rfl)
local macro_rules | `(tactic| walk_at "ev") => `(tactic| first | with_reducible exact c0 | ((with_reducible apply v0); rfl) | with_reducible exact a0 | with_reducible assumption | ((with_reducible apply aCons_ev); (focus walk_at "ev"); (focus walk_at "ev")) | ((with_reducible apply bindA_ev); (focus walk_at "ev"); (focus walk_at "op")) | ((with_reducible apply bind2_ev); (focus walk_at "ev"); (focus walk_at "ev"); (focus walk_at "op")) | ((with_reducible apply bind1_ev); (focus walk_at "ev"); (focus walk_at "op")) | ((with_reducible apply asB_ev); (focus walk_at "ev")) | ((with_reducible apply call_ev); (focus walk_at "ev"); (focus first | assumption | rfl)) | ((with_reducible apply truF_ev); (focus walk_at "ev"); (focus first | assumption | rfl)) | ((with_reducible apply notT_ev); (focus walk_at "ev")) | ((with_reducible apply andT_e); (focus walk_at "ev"); (focus (intro hq; walk_at "ev"))) | ((with_reducible apply orT_e); (focus walk_at "ev"); (focus (intro hq; walk_at "ev"))) | ((with_reducible apply seq_tup); (focus walk_at "ev")) | ((with_reducible apply seq_lst); (focus walk_at "ev")) | ((with_reducible apply seq_str); (focus walk_at "ev")))
local macro_rules | `(tactic| walk_at "w1") => `(tactic| with_reducible first | refine wS_seq ?_ | refine wS_set ?_ | refine wS_ret ?_ | refine wS_if ?_ | refine wS_skip ?_ | refine wS_drop ?_ | refine wS_unp ?_ | refine wE_b2 ?_ | refine wE_b1 ?_ | refine wE_bA ?_ | refine wE_bS ?_ | refine wE_call ?_ | refine wA_c ?_ | refine wA_n ?_ | refine wE_c ?_ | refine wO_n ?_ | refine wO_s ?_ | refine wT_asB ?_ | refine wT_tru ?_ | refine wT_not ?_ | refine wT_and ?_ | refine wT_or ?_ | refine wT_yes ?_ | refine wE_and ?_ | refine wE_or ?_ | refine wE_if ?_ | refine wI_seq ?_ | refine wI_rng ?_ | refine ex_bl ?_ | refine ex_trA ?_ | refine ex_trB ?_ | refine ex_nat ?_ | refine ex_int ?_ | refine ex_unT ?_ | refine ex_unL ?_ | refine and_t ?_ | refine and_f ?_ | refine and_nt ?_ | refine and_nf ?_)
local macro_rules | `(tactic| walk_at "w") => `(tactic| repeat (first | walk_at "w1" | refine wE_v (by rfl) ?_ | ((with_reducible refine wS_par2 ?_ ?_); focus (simp; done)) | ((with_reducible refine wS_par3 ?_ ?_); focus (simp; done)) | ((with_reducible refine wS_setN ?_ ?_); focus (simp; done)) | ((with_reducible apply ex_op); focus (first | exact seqOf_wd | with_reducible exact eq_ss | with_reducible exact ne_ss | with_reducible exact eq_ww | with_reducible exact ne_ww | with_reducible exact eq_ii | with_reducible exact ne_ii | with_reducible exact lt_ii | with_reducible exact gt_ii | with_reducible exact le_ii | with_reducible exact ge_ii | exact all_true' _ _ | walk_at "op")) ))
variable {dp : Fn} {Sp : Addr → Nat → Sto → Prop}
theorem wE_callD {Fn : List Dt → Sto → Option (Dt × Sto)} {ix : List Nat} {fa fk : Fa} {md : List Dt} {env : Env} {s : Sto} {Q : Dt → Sto → Prop} (h : wA fa env s fun ds s1 => wA fk env s1 fun zs s2 => wF Fn (permL ix (ds ++ zs ++ md)) s2 Q) : wE (callD Fn ix fa fk md) env s Q := by
  obtain ⟨ds, s1, e1, zs, s2, e2, d, s3, e3, q⟩ := h
  refine ⟨d, s3, ?_, q⟩
  unfold callD
  rw [e1]
  dsimp only
  rw [e2]
  exact e3
theorem eq_of_ne {s : Sto} {x y : Dt} {b : Bool} (h : neG s x y = some (.bl b)) : eqG s x y = some (.bl (!b)) := by
  unfold neG at h
  split at h
  · rename_i c hc
    rw [hc]
    cases Dt.bl.inj (Option.some.inj h)
    cases c <;> rfl
  · cases h
theorem eq_wordsL {s : Sto} {a : List (List Nat)} (h : ∀ x ∈ a, lowc x) : eqG s (.lst (a.map wd)) (.lst []) = some (.bl a.isEmpty) := by
  rw [eq_of_ne (ne_wordsL h), Bool.not_not]
theorem rep_bl (s : Sto) (b : Bool) : reprG s [.bl b] = some (.str (showD (.bl b))) := by
  have h : OkD 100 0 (.bl b) := ⟨by cases b <;> rfl, by cases b <;> decide, by cases b <;> decide⟩
  exact h.repr (by decide) (by decide) s
section
variable {E : Ents} {s : Sto} {rs : List Ru} {x : List Nat}
def isL (E : Ents) (cs : List (List Nat)) (y : List Nat) : Bool := (cs.filter fun c => !decide (c = y) && embB E c y).isEmpty
theorem isleast_ok (hE : ClE E) {cs : List (List Nat)} {y : List Nat} (hcs : ∀ c ∈ cs, c.length ≤ 50) (hcn : cs.length ≤ 100) (hlo : ∀ c ∈ cs, lowc c) (hy : ∀ c ∈ y, c ∈ E.map (·.1)) : V_law_is_least_k42 [belD E, .lst (cs.map wd), wd y] s = some (.bl (isL E cs y), s) := by
  refine wF_out (wF_fn ?_)
  delta F_law_is_least_k42
  refine wS_seq (wS_set (wE_lc (xs := cs) (enc := wd) (fun c => !decide (c = y) && embB E c y) wd (wI_seq (wE_v rfl ⟨_, rfl, rfl, by omega, fun c hc => ?_, fun c _ _ => wE_v rfl ⟨rfl, rfl⟩, ?_⟩))))
  · refine wT_and (wT_asB (wE_b2 (wE_v rfl (wE_v rfl ⟨_, ne_ww, _, rfl, fun q => ?_, fun q => ?_⟩))))
    · rw [q, Bool.true_and]
      exact wT_tru (wE_call (wA_c (wE_v rfl (wA_c (wE_v rfl (wA_c (wE_v rfl (wA_n (wF_eq (most32_ok hy (by have := hcs c hc; omega)) ⟨_, rfl, rfl, rfl⟩)))))))))
    · rw [q, Bool.false_and]
      exact ⟨rfl, rfl⟩
  · have g := eq_wordsL (s := s) (a := cs.filter fun c => !decide (c = y) && embB E c y) fun c hc => hlo c (List.mem_filter.mp hc).1
    exact wS_ret (wE_b2 (wE_v rfl (wE_bA (wA_n ⟨.lst [], rfl, _, g, rfl, rfl⟩))))
def endN (E : Ents) (rs : List Ru) (m : Str) (x : List Nat) (cs : List (List Nat)) : List Nat := wEnd (ldS E rs m) (failC E cs) 40 (x, 0)
theorem rank_end (h : Fu E rs) (m : Str) (hx : ∀ c ∈ x, c ∈ E.map (·.1)) (hl : x.length ≤ 8) {cs : List (List Nat)} (hc : failC E cs x = true) : (rankN E rs m x).find? (failC E cs) = some (endN E rs m x cs) := by
  have := htU_small h.e hx
  exact rank_first h m (failC_up h.e.cl cs) hc (by omega)
theorem failC_one {E : Ents} {c y : List Nat} : failC E [c] y = embB E c y := by
  unfold failC
  rw [List.any_cons, List.any_nil, Bool.or_false]
theorem failC_tam {cs : List (List Nat)} (h0 : cs ≠ []) (hc : ∀ c ∈ cs, c ∈ tamN E x) : failC E cs x = true := by
  obtain ⟨c, l, rfl⟩ := List.exists_cons_of_ne_nil h0
  exact List.any_eq_true.mpr ⟨c, List.mem_cons_self, embB_iff.mpr ((tam_mem x).mp (hc c List.mem_cons_self))⟩
theorem late_nil (h : Fu E rs) (m : Str) (hx : ∀ c ∈ x, c ∈ E.map (·.1)) (hl : x.length ≤ 8) : ((sortW (tamN E x)).filter fun y => !decide (endN E rs m x [y] = y)).isEmpty = leastN E rs m x := by
  rw [Bool.eq_iff_iff, least_iff h m, List.isEmpty_iff, List.filter_eq_nil_iff]
  constructor
  · intro q y hy
    have e := q y (sortW_mem.mpr hy)
    have : endN E rs m x [y] = y := by
      cases hd : decide (endN E rs m x [y] = y) with
      | true => exact of_decide_eq_true hd
      | false => exact absurd (by rw [hd]; rfl) e
    rw [rank_end h m hx hl (failC_tam (by simp) fun c hc => by rw [List.mem_singleton.mp hc]; exact hy), this]
  · intro q y hy z
    have hy' := sortW_mem.mp hy
    have e := rank_end h m hx hl (cs := [y]) (failC_tam (by simp) fun c hc => by rw [List.mem_singleton.mp hc]; exact hy')
    rw [q y hy'] at e
    rw [← Option.some.inj e, decide_eq_true rfl] at z
    cases z
theorem end_least (h : Fu E rs) (m : Str) (hx : ∀ c ∈ x, c ∈ E.map (·.1)) (hl : x.length ≤ 8) (hL : leastN E rs m x = true) {cs : List (List Nat)} (h0 : cs ≠ []) (hcs : ∀ c ∈ cs, c ∈ tamN E x) : isL E cs (endN E rs m x cs) = true := by
  unfold isL
  rw [List.isEmpty_iff, List.filter_eq_nil_iff]
  intro c hc q
  simp only [Bool.and_eq_true, Bool.not_eq_true', decide_eq_false_iff_not] at q
  have e1 := (least_iff h m).mp hL c (hcs c hc)
  have e2 := rank_end h m hx hl (failC_tam h0 hcs)
  rw [List.find?_eq_some_iff_append] at e2
  obtain ⟨_, as, bs, e3, e4⟩ := e2
  refine q.1 (Option.some.inj (e1.symm.trans ?_))
  rw [List.find?_eq_some_iff_append]
  refine ⟨by rw [failC_one]; exact q.2, as, bs, e3, fun a ha => ?_⟩
  have := e4 a ha
  cases hq : failC E [c] a with
  | false => rfl
  | true =>
    rw [failC_one] at hq
    rw [List.any_eq_true.mpr ⟨c, hc, hq⟩ |> (fun z : failC E cs a = true => z)] at this
    cases this
theorem end_emb (h : Fu E rs) (m : Str) (cs : List (List Nat)) : ∀ (n : Nat) (e : List Nat × Nat), Emb (LowP E) (wEnd (ldS E rs m) (failC E cs) n e) e.1
  | 0, e => Emb.refl (fun a => (lowP_iff h.e.cl).mpr (.inl rfl)) _
  | n + 1, e => by
    unfold wEnd
    split
    · exact Emb.refl (fun a => (lowP_iff h.e.cl).mpr (.inl rfl)) _
    · rename_i z hz
      have hm := List.mem_of_find?_eq_some hz
      exact Emb.trans (P := LowP E) (fun {a b c} => lowP_trans h.e.cl) (end_emb h m cs n z) (st_low h hm).1
end
theorem law42_main (D : Dip dp Sp) (hdp : dp = V_law_draw_k42) (p : Addr) (S : Dt) (s : Sto) (h : Sp p 0 s) : ∃ s', Flaw_k42 [some S, some (.ref p), none, none, none, none, none, none, none, none, none, none, none, none] s = some (.rt (.bl true), s') := by
  subst hdp
  suffices q : wS Flaw_k42 [some S, some (.ref p), none, none, none, none, none, none, none, none, none, none, none, none] s (fun _ _ => False) (fun d _ => d = .bl true) by
    obtain ⟨o, s', e, ⟨_, _, z⟩ | ⟨d, rfl, rfl⟩⟩ := q
    · exact z.elim
    · exact ⟨s', e⟩
  delta Flaw_k42
  refine wS_seq (wS_for (xs := List.range 2) (enc := fun i => .int (0 + ((i : Nat) : Int))) (fun pre env s' => Sp p (200 * pre.length) s' ∧ ∃ x2 x3 x4 x5 x6 x7 x8 x9 x10 x11 x12, env = [some S, some (.ref p), x2, x3, x4, x5, x6, x7, x8, x9, x10, x11, x12, none] ∧ (pre ≠ [] → ∃ E rs x, Sc E rs x ∧ x3 = some (bookD E rs) ∧ x4 = some (wd x))) ?_)
  refine wI_rng (wE_c ⟨2, rfl, by decide, rfl, ⟨h, none, none, none, none, none, none, none, none, none, none, none, rfl, fun z => absurd rfl z⟩, ?_, ?_⟩)
  · rintro pre j post env s0 he ⟨hs, x2, x3, x4, x5, x6, x7, x8, x9, x10, x11, x12, rfl, _⟩
    obtain ⟨hj1, hj2⟩ := range_pre he
    refine ⟨_, rfl, ?_⟩
    refine wS_seq (wS_unp (wE_call (wA_c (wE_v rfl (wA_n (wF_scene42 D hs (by omega) fun E rs x s1 hC h1 => ?_))))))
    have hF := hC.f
    have hx := hC.hx
    have hl := hC.hl
    refine ⟨bookD E rs, wd x, .inl rfl, ?_⟩
    have hb := hF.e.bel s1
    have gx0 : ixA s1 (bookD E rs) (.int 0) = some (.tup (entL E)) := rfl
    refine wS_seq (wS_set (wE_call (wA_c (wE_b2 (wE_v rfl (wE_c ⟨_, gx0, wA_n (wF_eq hb ?_)⟩))))))
    have hpow : (E.length + 2) ^ x.length ≤ 10000000 := by
      have h1 : (E.length + 2) ^ x.length ≤ 6 ^ x.length := Nat.pow_le_pow_left (by have := hF.e.n; omega) _
      have h2 : 6 ^ x.length ≤ 6 ^ 6 := Nat.pow_le_pow_right (by decide) (by omega)
      have h3 : (6 : Nat) ^ 6 ≤ 10000000 := by decide
      omega
    have hall : V_law_all_k32 [belD E, wd x] s1 = some (.lst ((sortW (tamN E x)).map wd), s1) := all32_ok hF.e.cl hx (by omega) hpow
    refine wS_seq (wS_set (wE_call (wA_c (wE_v rfl (wA_c (wE_v rfl (wA_n (wF_eq hall ?_))))))))
    have hev : ∀ y ∈ sortW (tamN E x), y ∈ tamN E x := fun y hy => sortW_mem.mp hy
    have hel : ∀ y ∈ tamN E x, (∀ c ∈ y, c ∈ E.map (·.1)) ∧ y.length ≤ 6 ∧ lowc y := fun y hy => by
      have e1 := (tam_mem x).mp hy
      have e2 := emb_let hF.e.cl e1 hx
      exact ⟨e2, Nat.le_trans e1.len hl, fun c hc => hF.e.cl.lo c (e2 c hc)⟩
    have hsl : (sortW (tamN E x)).length ≤ 60 := by
      have e : (sortW (tamN E x)).length = (tamN E x).length := List.Perm.length_eq (sortK_perm _)
      rw [e]; exact hC.ht
    have hs0 : sortW (tamN E x) ≠ [] := fun z => by
      have : x ∈ sortW (tamN E x) := sortW_mem.mpr ((tam_mem x).mpr (Emb.refl (fun a => (lowP_iff hF.e.cl).mpr (.inl rfl)) _))
      rw [z] at this
      cases this
    have hnt : (tamN E x).length ≤ 1000 := by have := hC.ht; omega
    refine wS_for (xs := (["again", "on"] : List Str)) (enc := fun m => .str m) (fun pw env s' => Sp p (200 * pre.length + 60 + 30 * pw.length) s' ∧ ∃ x7 x8 x9 x10 x11 x12, env = [some S, some (.ref p), some (.int (0 + ((j : Nat) : Int))), some (bookD E rs), some (wd x), some (belD E), some (.lst ((sortW (tamN E x)).map wd)), x7, x8, x9, x10, x11, x12, none]) ?_
    refine wI_seq ⟨.tup [.str "again", .str "on"], s1, rfl, _, rfl, rfl, ⟨h1, x7, x8, x9, x10, x11, x12, rfl⟩, ?_, ?_⟩
    · rintro pw m post3 env s2 he3 ⟨h2, x7, x8, x9, x10, x11, x12, rfl⟩
      refine ⟨_, rfl, ?_⟩
      have hm : m = "again" ∨ m = "on" := by
        have : m ∈ (["again", "on"] : List Str) := by rw [he3]; exact List.mem_append_right _ List.mem_cons_self
        simpa using this
      have hpw : pw.length ≤ 1 := by
        have := congrArg List.length he3
        rw [List.length_append] at this
        have e2 : (["again", "on"] : List Str).length = 2 := rfl
        have e3 : (m :: post3).length = post3.length + 1 := rfl
        omega
      refine wS_seq (wS_setN (by simp) (wE_bA (wA_n ⟨.lst [], rfl, ?_⟩)))
      refine wS_seq (wS_for (xs := sortW (tamN E x)) (enc := wd) (fun py env s' => s' = s2 ∧ ∃ x9, env = [some S, some (.ref p), some (.int (0 + ((j : Nat) : Int))), some (bookD E rs), some (wd x), some (belD E), some (.lst ((sortW (tamN E x)).map wd)), some (.str m), some (.lst ((py.filter fun y => !decide (endN E rs m x [y] = y)).map wd)), x9, x10, x11, x12, none]) ?_)
      refine wI_seq (wE_v rfl ⟨_, rfl, rfl, ⟨rfl, x9, rfl⟩, ?_, ?_⟩)
      · rintro py y po env s' hpy ⟨rfl, x9, rfl⟩
        refine ⟨_, rfl, ?_⟩
        have hyT : y ∈ tamN E x := hev y (by rw [hpy]; exact List.mem_append_right _ List.mem_cons_self)
        obtain ⟨hy1, hy2, hy3⟩ := hel y hyT
        have hpl := congrArg List.length hpy
        rw [List.length_append, List.length_cons] at hpl
        have hfl := List.length_filter_le (fun y => !decide (endN E rs m x [y] = y)) py
        have hend : V_law_end_k33 [bookD E rs, .str m, belD E, .lst ([y].map wd), wd x] s' = some (wd (endN E rs m x [y]), s') := end_ok hF m (cs := [y]) (fun c hc => by rw [List.mem_singleton.mp hc]; omega) (by simp) (fun c hc => by rw [List.mem_singleton.mp hc]; exact hy3) hx (by omega)
        have ef : ∀ b, (!decide (endN E rs m x [y] = y)) = b → (py ++ [y]).filter (fun y => !decide (endN E rs m x [y] = y)) = py.filter (fun y => !decide (endN E rs m x [y] = y)) ++ (if b = true then [y] else []) := fun b hb => by
          rw [List.filter_append, List.filter_cons, hb]; rfl
        refine wS_if (wT_asB (wE_b2 (wE_call (wA_c (wE_v rfl (wA_c (wE_v rfl (wA_c (wE_v rfl (wA_c (wE_bA (wA_c (wE_v rfl (wA_n ⟨.lst ([y].map wd), rfl, ?_⟩))))))))))))))
        refine wA_c (wE_v rfl (wA_n ?_))
        refine wF_eq hend (wE_v rfl ⟨_, ne_ww, _, rfl, fun q => ?_, fun q => ?_⟩)
        · refine wS_app (l := (py.filter fun y => !decide (endN E rs m x [y] = y)).map wd) rfl (wE_v rfl ⟨by rw [List.length_map]; omega, rfl, some (wd y), ?_⟩)
          rw [ef true q, if_pos rfl, List.map_append]
          rfl
        · refine wS_skip ⟨rfl, some (wd y), ?_⟩
          rw [ef false q]
          simp
      rintro env s' ⟨rfl, x9, rfl⟩
      have hlt := late_nil hF m hx (by omega)
      have hlow : ∀ y ∈ (sortW (tamN E x)).filter fun y => !decide (endN E rs m x [y] = y), lowc y := fun y hy => (hel y (hev y (List.mem_filter.mp hy).1)).2.2
      have hfl2 := Nat.le_trans (List.length_filter_le (fun y => !decide (endN E rs m x [y] = y)) (sortW (tamN E x))) hsl
      generalize (sortW (tamN E x)).filter (fun y => !decide (endN E rs m x [y] = y)) = late at hlt hlow hfl2 ⊢
      have hle : ∀ s, Vfinds_least [bookD E rs, wd x, .str m] s = some (.bl (leastN E rs m x), s) := fun s => least_ok hF hm hx (by omega) hnt
      have hq : ∀ s, eqG s (.lst (late.map wd)) (.lst []) = some (.bl (leastN E rs m x)) := fun s => by rw [eq_wordsL hlow, hlt]
      refine wS_seq (wS_if (wT_asB (wE_b2 (wE_bA (wA_c (wE_callM (wA_c (wE_v rfl (wA_c (wE_v rfl (wA_n (wA_c (wE_v rfl (wA_n ?_))))))))))))))
      refine wF_eq (hle s') (wA_n ⟨_, rep_bl s' _, ?_⟩)
      refine wE_bA (wA_c (wE_b2 (wE_v rfl (wE_bA (wA_n ⟨.lst [], rfl, _, hq s', ?_⟩)))))
      refine wA_n ⟨_, rep_bl s' _, _, ne_str _ _, _, rfl, fun z => (by cases z), fun _ => wS_skip ?_⟩
      refine wS_for (xs := List.range 3) (enc := fun i => .int (0 + ((i : Nat) : Int))) (fun pt env s' => Sp p (200 * pre.length + 60 + 30 * pw.length + 8 * pt.length) s' ∧ ∃ x10 x11 x12, env = [some S, some (.ref p), some (.int (0 + ((j : Nat) : Int))), some (bookD E rs), some (wd x), some (belD E), some (.lst ((sortW (tamN E x)).map wd)), some (.str m), some (.lst (late.map wd)), x9, x10, x11, x12, none]) ?_
      refine wI_rng (wE_c ⟨3, rfl, by decide, rfl, ⟨h2, x10, x11, x12, rfl⟩, ?_, ?_⟩)
      · rintro pt t post4 env s3 he4 ⟨h3, x10, x11, x12, rfl⟩
        obtain ⟨ht1, ht2⟩ := range_pre he4
        refine ⟨_, rfl, ?_⟩
        refine wS_seq (wS_set ?_)
        refine wE_lcR (fun ds i s' => ∃ cs : List (List Nat), ds = cs.map wd ∧ cs.length = i ∧ (∀ c ∈ cs, c ∈ tamN E x) ∧ Sp p (200 * pre.length + 60 + 30 * pw.length + 8 * pt.length + 1 + i) s') (wE_b2 (wE_c (wE_call (wA_c (wE_v rfl (wA_c (wE_c (wA_n ?_))))))))
        refine wF_draw D h3 (by omega) (by decide) (by decide) fun r s4 hr h4 => ?_
        refine ⟨.int (2 + ((r : Nat) : Int)), rfl, 2 + r, by rw [Int.natCast_add]; rfl, by omega, ⟨[], rfl, rfl, fun c hc => absurd hc List.not_mem_nil, h4⟩, ?_, ?_⟩
        · rintro i ds s5 hi hd ⟨cs, rfl, rfl, hc, h5⟩
          refine wE_call (wA_c (wE_v rfl (wA_c (wE_v rfl (wA_n ?_)))))
          refine wF_pick D h5 (by omega) (by simp [hs0]) (by rw [List.length_map]; omega) fun d s6 hd2 h6 => ?_
          obtain ⟨c, hcm, rfl⟩ := List.mem_map.mp hd2
          refine ⟨cs ++ [c], by rw [List.map_append]; rfl, by rw [List.length_append]; rfl, fun c' hc' => ?_, h6⟩
          rcases List.mem_append.mp hc' with hc' | hc'
          · exact hc c' hc'
          · rw [List.mem_singleton.mp hc']; exact hev c hcm
        rintro ds s5 hd ⟨cs, rfl, hcl, hc, h5⟩
        have hcs0 : cs ≠ [] := fun z => by rw [z] at hcl; simp at hcl; omega
        have hcb : ∀ c ∈ cs, c.length ≤ 50 := fun c hh => by have := (hel c (hc c hh)).2.1; omega
        have hcw : ∀ c ∈ cs, lowc c := fun c hh => (hel c (hc c hh)).2.2
        have hend : V_law_end_k33 [bookD E rs, .str m, belD E, .lst (cs.map wd), wd x] s5 = some (wd (endN E rs m x cs), s5) := end_ok hF m hcb (by omega) hcw hx (by omega)
        refine wS_seq (wS_set (wE_call (wA_c (wE_v rfl (wA_c (wE_v rfl (wA_c (wE_v rfl (wA_c (wE_v rfl (wA_c (wE_v rfl (wA_n (wF_eq hend ?_))))))))))))))
        have hey : ∀ c ∈ endN E rs m x cs, c ∈ E.map (·.1) := emb_let hF.e.cl (end_emb hF m cs 40 (x, 0)) hx
        have hil : V_law_is_least_k42 [belD E, .lst (cs.map wd), wd (endN E rs m x cs)] s5 = some (.bl (isL E cs (endN E rs m x cs)), s5) := isleast_ok hF.e.cl hcb (by omega) hcw hey
        have hT3 : t < 3 := ht2
        have fin : Sp p (200 * pre.length + 60 + 30 * pw.length + 8 * (pt ++ [t]).length) s5 := D.mono h5 (by rw [List.length_append, List.length_singleton]; omega)
        refine wS_if (wT_and (wT_asB (wE_b2 (wE_v rfl (wE_bA (wA_n ⟨.lst [], rfl, _, hq s5, _, rfl, fun q => ?_, fun _ => ⟨fun z => (by cases z), fun _ => wS_skip ⟨fin, _, _, _, rfl⟩⟩⟩))))))
        have hok := end_least hF m hx (by omega) q hcs0 hc
        rw [hok] at hil
        exact wT_not (wT_tru (wE_call (wA_c (wE_v rfl (wA_c (wE_v rfl (wA_c (wE_v rfl (wA_n (wF_eq hil ⟨_, rfl, fun z => (by cases z), fun _ => wS_skip ⟨fin, _, _, _, rfl⟩⟩)))))))))) 
      · rintro env s3 ⟨h3, x10, x11, x12, rfl⟩
        exact ⟨D.mono h3 (by rw [List.length_append, List.length_singleton, List.length_range]; omega), _, _, _, _, _, _, rfl⟩
    · rintro env s' ⟨h2, x7, x8, x9, x10, x11, x12, rfl⟩
      exact ⟨D.mono h2 (by rw [List.length_append, List.length_singleton]; show _ + 60 + 30 * 2 ≤ _; omega), _, _, _, _, _, _, _, _, _, _, _, rfl, fun _ => ⟨E, rs, x, hC, rfl, rfl⟩⟩
  · rintro env s' ⟨_, x2, x3, x4, x5, x6, x7, x8, x9, x10, x11, x12, rfl, hz⟩
    obtain ⟨E, rs, x, hC, rfl, rfl⟩ := hz (by decide)
    have hle : ∀ s, Vfinds_least [bookD E rs, wd x, .str "again"] s = some (.bl (leastN E rs "again" x), s) := fun s => least_ok hC.f (.inl rfl) hC.hx (by have := hC.hl; omega) (by have := hC.ht; omega)
    refine wS_ret (wE_b2 (wE_bA (wA_c (wE_callD (wA_c (wE_v rfl (wA_c (wE_v rfl (wA_n (wA_n ?_))))))))))
    refine wF_eq (hle s') (wA_n ⟨_, rep_bl s' _, ?_⟩)
    refine wE_bA (wA_c (wE_callM (wA_c (wE_v rfl (wA_c (wE_v rfl (wA_n (wA_c (wE_c (wA_n ?_))))))))))
    refine wF_eq (hle s') (wA_n ⟨_, rep_bl s' _, .bl true, ?_, rfl⟩)
    show some (Dt.bl (decide _)) = _
    rw [decide_eq_true rfl]
theorem dip_k42 : Dip V_law_draw_k42 SpD := fds_of (q0 := 7754) (q1 := 7184413) (q2 := 1333) (q3 := 20660819) (q4 := 1487) (q5 := 953) rfl (by decide) (by decide) (by decide) (by decide) (by decide)

end DL

namespace DL
open PySem PySem.Spec PyProof.Rows L2

def topS (i : Nat) : Stmt := PySem.Challenge.pw_firstfailing_k42_whole_surely_least.main.body.getD i (.Pass ⟨0, 0, 0, 0⟩)

abbrev N_law_feed : List Str := ["_law_script"]
abbrev A_law_feed : List Str := ["_law_script"]
theorem sc_law_feed : FnScope N_law_feed A_law_feed (defScope (topS 31)) := ⟨rfl, rfl, rfl, by decide +kernel, rfl, by decide +kernel, by decide +kernel⟩
theorem ok_law_feed {P : Program} {w : World} {K : PySem.W.Frag} {mg : Str → Option Value} {base : Heap} {f : Addr} {fd : FuncData} (Fx : L2.Fun K "_law_feed" "_law_feed" (topS 31) f fd) (m_list : mg "list" = none) : FnG P w K mg base 1 f fd A_law_feed (spF K 1 V_law_feed_k32) :=
  okF (k := 0) (O' := []) Fx sc_law_feed rfl fun X _ _ _ _ _ _ _ _ hex hr hgd => by
    obtain ⟨cdv, L, A, outer, s, H, E, rfl, _⟩ := hex
    have hu := hr.units
    have hu1 := Nat.lt_of_le_of_lt (Nat.add_le_add_left (by decide : 1 ≤ 64) _) hu
    exact (ss_one (s_retO (O := []) (O' := []) (d_of_n (n_disp [((fC (.str "cells")), (bindA (aCons (bindS (fVar 0) oNone (oSome (fC (.int 63))) sliceG) aNil) toLstG)), ((fC (.str "turn")), (fC (.int 0))), ((fC (.str "rest")), (fC (.int 0))), ((fC (.str "drawn")), (fC (.int 0)))] (pps_cons d_str (d_of_n (n_callT (call_lstA rfl) cn_toLst rfl m_list rfl (ab_cons (b_of_d (d_slice (b_var (pv 0)) o_none (o_some (b_of_d d_int)))) ab_nil))) (pps_cons d_str d_int (pps_cons d_str d_int (pps_cons d_str d_int pps_nil))))))))

abbrev N_law_draw : List Str := ["_law_feed_here", "_law_many", "_law_digit", "_law_turn", "_law_cells", "_law_cell", "_law_mixed"]
abbrev A_law_draw : List Str := ["_law_feed_here", "_law_many"]
theorem sc_law_draw : FnScope N_law_draw A_law_draw (defScope (topS 32)) := ⟨rfl, rfl, rfl, by decide +kernel, rfl, by decide +kernel, by decide +kernel⟩
theorem ok_law_draw {P : Program} {w : World} {K : PySem.W.Frag} {mg : Str → Option Value} {base : Heap} {f : Addr} {fd : FuncData} (Fx : L2.Fun K "_law_draw" "_law_draw" (topS 32) f fd) (m_int : mg "int" = none) (m_len : mg "len" = none) : FnG P w K mg base 1 f fd A_law_draw (spF K 2 V_law_draw_k42) :=
  okF (k := 0) (O' := []) Fx sc_law_draw rfl fun X _ _ _ _ _ _ _ _ hex hr hgd => by
    obtain ⟨cdv, L, A, outer, s, H, E, rfl, _⟩ := hex
    have hu := hr.units
    have hu1 := Nat.lt_of_le_of_lt (Nat.add_le_add_left (by decide : 1 ≤ 64) _) hu
    exact (ss_cons (s_hput (O := []) (ps_dput hu1 (pv 0) (b_of_d d_str) (d_addA (b_of_d (d_ixA hu1 (b_var (pv 0)) (b_of_d d_str))) (b_of_d d_int)) rfl)) (ss_cons (s_if (O := []) (O' := []) (t_gt (b_of_d (d_ixA hu1 (b_var (pv 0)) (b_of_d d_str))) (b_of_d d_int)) (ss_cons (s_set (O := []) (O' := []) (ps_set (i := 2) sc_law_draw.nd rfl (by first | exact .inl rfl | exact .inr rfl) (d_mod (b_of_d (d_callT call_intA cd_int rfl m_int rfl (ab_cons (b_of_d (d_ixA hu1 (b_var (pv 0)) (b_of_d d_str))) ab_nil))) (b_var (pv 1))))) (ss_cons (s_hput (O := []) (ps_dput hu1 (pv 0) (b_of_d d_str) (d_div (b_of_d (d_ixA hu1 (b_var (pv 0)) (b_of_d d_str))) (b_var (pv 1))) rfl)) (ss_one (s_retO (O := []) (O' := []) (d_var (by decide) (pv 2)))))) ss_nil) (ss_cons (s_par2 (O := []) false false (ps_par (i := 3) (j := 4) rfl sc_law_draw.nd rfl rfl (by decide) rfl rfl (by exact (pa_cons (px_d (d_ixA hu1 (b_var (pv 0)) (b_of_d d_str))) (pa_cons (px_d (d_ixA hu1 (b_var (pv 0)) (b_of_d d_str))) pa_nil))) rfl) []) (ss_cons (s_hput (O := []) (ps_dput hu1 (pv 0) (b_of_d d_str) (d_addA (b_var (pv 3)) (b_of_d d_int)) rfl)) (ss_cons (s_set (O := []) (O' := []) (ps_set (i := 5) sc_law_draw.nd rfl (by first | exact .inl rfl | exact .inr rfl) (d_if (t_ne hu (b_var (pv 4)) (b_of_n (n_lst ad_nil))) (d_ixA hu1 (b_var (pv 4)) (b_of_d (d_mod (b_of_d (d_callT call_intA cd_int rfl m_int rfl (ab_cons (b_var (pv 3)) ab_nil))) (b_of_d (d_callB call_lenA cd_len rfl m_len PySem.boot_len (ab_cons (b_var (pv 4)) ab_nil)))))) d_int))) (ss_cons (s_if (O := []) (O' := []) (t_bool (w_and (t_lt (b_var (pv 3)) (b_of_d (d_callB call_lenA cd_len rfl m_len PySem.boot_len (ab_cons (b_var (pv 4)) ab_nil)))) (w_and1 (t_ge (b_var (pv 5)) (b_of_d (d_pow (b_of_d d_int) (b_of_d d_int))))))) (ss_cons (s_hput (O := []) (ps_dput hu1 (pv 0) (b_of_d d_str) (d_div (b_var (pv 5)) (b_var (pv 1))) rfl)) (ss_one (s_retO (O := []) (O' := []) (d_mod (b_of_d (d_callT call_intA cd_int rfl m_int rfl (ab_cons (b_var (pv 5)) ab_nil))) (b_var (pv 1)))))) ss_nil) (ss_cons (s_set (O := []) (O' := []) (ps_set (i := 6) sc_law_draw.nd rfl (by first | exact .inl rfl | exact .inr rfl) (d_mod (b_of_d (d_callT call_intA cd_int rfl m_int rfl (ab_cons (b_of_d (d_addA (b_of_d (d_addA (b_of_d (d_mod (b_of_d (d_callT call_intA cd_int rfl m_int rfl (ab_cons (b_var (pv 5)) ab_nil))) (b_of_d d_int))) (b_of_d (d_mul (b_of_d d_int) (b_of_d (d_ixA hu1 (b_var (pv 0)) (b_of_d d_str))))))) (b_of_d d_int))) ab_nil))) (b_of_d d_int)))) (ss_cons (s_set (O := []) (O' := []) (ps_set (i := 6) sc_law_draw.nd rfl (by first | exact .inl rfl | exact .inr rfl) (d_mod (b_of_d (d_callT call_intA cd_int rfl m_int rfl (ab_cons (b_of_d (d_addA (b_of_d (d_addA (b_of_d (d_mul (b_var (pv 6)) (b_var (pv 6)))) (b_of_d (d_mul (b_of_d d_int) (b_of_d (d_ixA hu1 (b_var (pv 0)) (b_of_d d_str))))))) (b_of_d d_int))) ab_nil))) (b_of_d d_int)))) (ss_one (s_retO (O := []) (O' := []) (d_mod (b_of_d (d_callT call_intA cd_int rfl m_int rfl (ab_cons (b_of_d (d_div (b_of_d (d_mod (b_of_d (d_callT call_intA cd_int rfl m_int rfl (ab_cons (b_of_d (d_addA (b_of_d (d_mul (b_var (pv 6)) (b_var (pv 6)))) (b_of_d (d_mul (b_of_d d_int) (b_var (pv 6)))))) ab_nil))) (b_of_d d_int))) (b_of_d d_int))) ab_nil))) (b_var (pv 1)))))))))))))

abbrev N_law_pick : List Str := ["_law_feed_here", "_law_lot"]
abbrev A_law_pick : List Str := ["_law_feed_here", "_law_lot"]
theorem sc_law_pick : FnScope N_law_pick A_law_pick (defScope (topS 33)) := ⟨rfl, rfl, rfl, by decide +kernel, rfl, by decide +kernel, by decide +kernel⟩
theorem ok_law_pick {P : Program} {w : World} {K : PySem.W.Frag} {mg : Str → Option Value} {base : Heap} {f : Addr} {fd : FuncData} (Fx : L2.Fun K "_law_pick" "_law_pick" (topS 33) f fd) (C_law_draw : Cg P w K mg base 1 "_law_draw" (topS 32) A_law_draw V_law_draw_k42) (m_len : mg "len" = none) : FnG P w K mg base 2 f fd A_law_pick (spF K 2 (V_law_pick_k01 V_law_draw_k42)) :=
  okF (k := 1) (O' := []) Fx sc_law_pick rfl fun X _ _ _ _ _ _ _ _ hex hr hgd => by
    obtain ⟨cdv, L, A, outer, s, H, E, rfl, _⟩ := hex
    have hu := hr.units
    have hu1 := Nat.lt_of_le_of_lt (Nat.add_le_add_left (by decide : 1 ≤ 64) _) hu
    exact (ss_one (s_retO (O := []) (O' := []) (d_ixA hu1 (b_var (pv 1)) (b_of_d (d_cg C_law_draw hr (by decide) hgd rfl (ad_cons (d_var (by decide) (pv 0)) (ad_cons (d_callB call_lenA cd_len rfl m_len PySem.boot_len (ab_cons (b_var (pv 1)) ab_nil)) ad_nil)) (al_cons (al_cons al_nil)))))))

abbrev N_law_letters : List Str := ["_law_feed_here", "_law_shapes", "_law_names", "_law_found", "_law_word", "_law_signs", "_law_sign"]
abbrev A_law_letters : List Str := ["_law_feed_here"]
theorem sc_law_letters : FnScope N_law_letters A_law_letters (defScope (topS 34)) := ⟨rfl, rfl, rfl, by decide +kernel, rfl, by decide +kernel, by decide +kernel⟩
theorem ok_law_letters {P : Program} {w : World} {K : PySem.W.Frag} {mg : Str → Option Value} {base : Heap} {f : Addr} {fd : FuncData} (Fx : L2.Fun K "_law_letters" "_law_letters" (topS 34) f fd) (C_law_pick : Cg P w K mg base 2 "_law_pick" (topS 33) A_law_pick (V_law_pick_k01 V_law_draw_k42)) (m_tuple : mg "tuple" = none) (m_sorted : mg "sorted" = none) : FnG P w K mg base 3 f fd A_law_letters (spF K 1 (V_law_letters_k32 V_law_draw_k42)) :=
  okF (k := 2) (O' := [3]) Fx sc_law_letters rfl fun X _ _ _ _ _ _ _ _ hex hr hgd => by
    obtain ⟨cdv, L, A, outer, s, H, E, rfl, _⟩ := hex
    have hu := hr.units
    have hu1 := Nat.lt_of_le_of_lt (Nat.add_le_add_left (by decide : 1 ≤ 64) _) hu
    exact (ss_cons (s_setN (O := []) (O' := [1]) (ps_set (i := 1) sc_law_letters.nd rfl (by first | exact .inl rfl | exact .inr rfl) (n_lst (ad_cons d_str (ad_cons d_str (ad_cons d_str (ad_cons d_str (ad_cons d_str (ad_cons d_str (ad_cons d_str (ad_cons d_str (ad_cons d_str (ad_cons d_str ad_nil))))))))))))) (ss_cons (s_ext (O := [1]) (i := 1) (pe_bm PySem.F.plainAttrs_list PySem.F.slot_list_extend PySem.F.type_list_extend mt_extend (pv 1) (pa_cons (b_of_n (n_lst (ad_cons d_str (ad_cons d_str (ad_cons d_str (ad_cons d_str (ad_cons d_str (ad_cons d_str ad_nil)))))))) pa_nil))) (ss_cons (s_parN (O := [1]) (is := [2, 3]) [false, true] (ps_parT rfl (by exact (pa_cons (px_d (d_cg C_law_pick hr (by decide) hgd rfl (ad_cons (d_var (by decide) (pv 0)) (ad_cons (d_of_n (n_lst (ad_cons d_str (ad_cons d_str (ad_cons d_str (ad_cons d_str ad_nil)))))) ad_nil)) (al_cons (al_cons al_nil)))) (pa_cons (px_n (n_lst ad_nil)) pa_nil))) (pgs_cons (pg_name (i := 2) sc_law_letters.nd rfl (by first | exact .inl rfl | exact .inr rfl)) (pgs_cons (pg_name (i := 3) sc_law_letters.nd rfl (by first | exact .inl rfl | exact .inr rfl)) pgs_nil))) rfl rfl [1, 3]) (ss_cons (s_weak (O := [3]) (O'' := [1, 3]) (s_for (L := []) (O := [3]) PassesOwn.never rfl (i_seq (d_of_n (n_split (b_of_d (d_cg C_law_pick hr (by decide) hgd rfl (ad_cons (d_var (by decide) (pv 0)) (ad_cons (d_var (by decide) (pv 1)) ad_nil)) (al_cons (al_cons al_nil)))) (b_of_d d_str))) (pi_list (d_of_n (n_split (b_of_d (d_cg C_law_pick hr (by decide) hgd rfl (ad_cons (d_var (by decide) (pv 0)) (ad_cons (d_var (by decide) (pv 1)) ad_nil)) (al_cons (al_cons al_nil)))) (b_of_d d_str)))) (pi_tup (d_of_n (n_split (b_of_d (d_cg C_law_pick hr (by decide) hgd rfl (ad_cons (d_var (by decide) (pv 0)) (ad_cons (d_var (by decide) (pv 1)) ad_nil)) (al_cons (al_cons al_nil)))) (b_of_d d_str)))) (pi_str (d_of_n (n_split (b_of_d (d_cg C_law_pick hr (by decide) hgd rfl (ad_cons (d_var (by decide) (pv 0)) (ad_cons (d_var (by decide) (pv 1)) ad_nil)) (al_cons (al_cons al_nil)))) (b_of_d d_str)))) (pi_keys (d_of_n (n_split (b_of_d (d_cg C_law_pick hr (by decide) hgd rfl (ad_cons (d_var (by decide) (pv 0)) (ad_cons (d_var (by decide) (pv 1)) ad_nil)) (al_cons (al_cons al_nil)))) (b_of_d d_str))))) (g_name (pg_name (i := 4) sc_law_letters.nd rfl (by first | exact .inl rfl | exact .inr rfl))) (ss_cons (s_set (O := [3]) (O' := [3]) (a_d_of_n (a_lc (z := 5) (i := 6) rfl sc_law_letters.nd rfl rfl rfl (i_seq (d_var (by decide) (pv 4)) (pi_list (d_var (by decide) (pv 4))) (pi_tup (d_var (by decide) (pv 4))) (pi_str (d_var (by decide) (pv 4))) (pi_keys (d_var (by decide) (pv 4)))) (own := [("_law_sign", 6)]) (blkOk_by (by rfl)) (fun _ _ _ _ _ => (pg_name (i := 6) sc_law_letters.nd rfl (by first | exact .inl rfl | exact .inr rfl))) (fun _ _ _ _ _ => ts_nil) (fun _ _ _ _ _ => (d_ixA hu1 (b_var (pv 2)) (b_of_d (d_sindex (b_of_d d_str) (b_var (pv 6))))))))) (ss_one (s_app (O := [3]) (i := 3) (pe_bm PySem.F.plainAttrs_list PySem.F.slot_list_append PySem.F.type_list_append mt_append (pv 3) (pa_cons (d_tup (ad_cons (d_ixA hu1 (b_var (pv 5)) (b_of_d d_int)) (ad_cons (d_callT call_tupA cd_toTup rfl m_tuple rfl (ab_cons (b_of_n (n_callB call_sortedA cn_sortedA rfl m_sorted rfl (ab_cons (b_of_d (d_slice (b_var (pv 5)) (o_some (b_of_d d_int)) o_none)) ab_nil))) ab_nil)) ad_nil))) pa_nil))))))) (ss_one (s_retO (O := [3]) (O' := [3]) (d_callT call_tupA cd_toTup rfl m_tuple rfl (ab_cons (b_of_n (n_callB call_sortedA cn_sortedA rfl m_sorted rfl (ab_cons (b_var (pv 3)) ab_nil))) ab_nil))))))))

abbrev N_law_below : List Str := ["_law_entries", "_law_below_here", "_law_own", "_law_lessers", "_law_turn", "_law_one"]
abbrev A_law_below : List Str := ["_law_entries"]
theorem sc_law_below : FnScope N_law_below A_law_below (defScope (topS 35)) := ⟨rfl, rfl, rfl, by decide +kernel, rfl, by decide +kernel, by decide +kernel⟩
theorem ok_law_below {P : Program} {w : World} {K : PySem.W.Frag} {mg : Str → Option Value} {base : Heap} {f : Addr} {fd : FuncData} (Fx : L2.Fun K "_law_below" "_law_below" (topS 35) f fd) (m_list : mg "list" = none) (m_range : mg "range" = none) (m_len : mg "len" = none) (m_sorted : mg "sorted" = none) (m_set : mg "set" = none) : FnG P w K mg base 1 f fd A_law_below (spF K 1 V_law_below_k32) :=
  okF (k := 0) (O' := [1]) Fx sc_law_below rfl fun X _ _ _ _ _ _ _ _ hex hr hgd => by
    obtain ⟨cdv, L, A, outer, s, H, E, rfl, _⟩ := hex
    have hu := hr.units
    have hu1 := Nat.lt_of_le_of_lt (Nat.add_le_add_left (by decide : 1 ≤ 64) _) hu
    exact (ss_cons (s_setN (O := []) (O' := [1]) (ps_set (i := 1) sc_law_below.nd rfl (by first | exact .inl rfl | exact .inr rfl) n_dnil)) (ss_cons (s_for (L := []) (O := [1]) PassesOwn.never rfl (i_seq (d_var (by decide) (pv 0)) (pi_list (d_var (by decide) (pv 0))) (pi_tup (d_var (by decide) (pv 0))) (pi_str (d_var (by decide) (pv 0))) (pi_keys (d_var (by decide) (pv 0)))) (g_pair rfl rfl rfl (pgs_cons (g_name (pg_name (i := 2) sc_law_below.nd rfl (by first | exact .inl rfl | exact .inr rfl))) (pgs_cons (g_name (pg_name (i := 3) sc_law_below.nd rfl (by first | exact .inl rfl | exact .inr rfl))) pgs_nil))) (ss_one (s_dput (O := [1]) (ps_dput hu1 (pv 1) (b_var (pv 2)) (d_of_n (n_callT (call_lstA rfl) cn_toLst rfl m_list rfl (ab_cons (b_var (pv 3)) ab_nil))) rfl)))) (ss_cons (s_for (L := []) (O := [1]) PassesOwn.never rfl (i_range1 rfl m_range (b_of_d (d_callB call_lenA cd_len rfl m_len PySem.boot_len (ab_cons (b_var (pv 0)) ab_nil)))) (g_name (pg_name (i := 4) sc_law_below.nd rfl (by first | exact .inl rfl | exact .inr rfl))) (ss_one (s_for (L := [1]) (O := [1]) PassesOwn.never rfl (i_seq (d_var (by decide) (pv 0)) (pi_list (d_var (by decide) (pv 0))) (pi_tup (d_var (by decide) (pv 0))) (pi_str (d_var (by decide) (pv 0))) (pi_keys (d_var (by decide) (pv 0)))) (g_pair rfl rfl rfl (pgs_cons (g_name (pg_name (i := 2) sc_law_below.nd rfl (by first | exact .inl rfl | exact .inr rfl))) (pgs_cons (g_name (pg_name (i := 3) sc_law_below.nd rfl (by first | exact .inl rfl | exact .inr rfl))) pgs_nil))) (ss_one (s_for (L := [1]) (O := [1]) PassesOwn.never rfl (i_seq (d_of_n (n_callT (call_lstA rfl) cn_toLst rfl m_list rfl (ab_cons (b_of_d (d_ixA hu1 (b_var (pv 1)) (b_var (pv 2)))) ab_nil))) (pi_list (d_of_n (n_callT (call_lstA rfl) cn_toLst rfl m_list rfl (ab_cons (b_of_d (d_ixA hu1 (b_var (pv 1)) (b_var (pv 2)))) ab_nil)))) (pi_tup (d_of_n (n_callT (call_lstA rfl) cn_toLst rfl m_list rfl (ab_cons (b_of_d (d_ixA hu1 (b_var (pv 1)) (b_var (pv 2)))) ab_nil)))) (pi_str (d_of_n (n_callT (call_lstA rfl) cn_toLst rfl m_list rfl (ab_cons (b_of_d (d_ixA hu1 (b_var (pv 1)) (b_var (pv 2)))) ab_nil)))) (pi_keys (d_of_n (n_callT (call_lstA rfl) cn_toLst rfl m_list rfl (ab_cons (b_of_d (d_ixA hu1 (b_var (pv 1)) (b_var (pv 2)))) ab_nil))))) (g_name (pg_name (i := 5) sc_law_below.nd rfl (by first | exact .inl rfl | exact .inr rfl))) (ss_one (s_dput (O := [1]) (ps_dput hu1 (pv 1) (b_var (pv 2)) (d_of_n (n_sortset rfl rfl m_sorted rfl m_set (b_of_d (d_addA (b_of_d (d_ixA hu1 (b_var (pv 1)) (b_var (pv 2)))) (b_of_d (d_ixA hu1 (b_var (pv 1)) (b_var (pv 5)))))))) rfl)))))))) (ss_one (s_retO (O := [1]) (O' := [1]) (d_var (by decide) (pv 1)))))))

abbrev N_law_rule : List Str := ["_law_feed_here", "_law_entries", "_law_below_here", "_law_way", "_law_side", "_law_own"]
abbrev A_law_rule : List Str := ["_law_feed_here", "_law_entries", "_law_below_here"]
theorem sc_law_rule : FnScope N_law_rule A_law_rule (defScope (topS 36)) := ⟨rfl, rfl, rfl, by decide +kernel, rfl, by decide +kernel, by decide +kernel⟩
theorem ok_law_rule {P : Program} {w : World} {K : PySem.W.Frag} {mg : Str → Option Value} {base : Heap} {f : Addr} {fd : FuncData} (Fx : L2.Fun K "_law_rule" "_law_rule" (topS 36) f fd) (C_law_draw : Cg P w K mg base 1 "_law_draw" (topS 32) A_law_draw V_law_draw_k42) (C_law_pick : Cg P w K mg base 2 "_law_pick" (topS 33) A_law_pick (V_law_pick_k01 V_law_draw_k42)) : FnG P w K mg base 3 f fd A_law_rule (spF K 3 (V_law_rule_k32 V_law_draw_k42)) :=
  okF (k := 2) (O' := []) Fx sc_law_rule rfl fun X _ _ _ _ _ _ _ _ hex hr hgd => by
    obtain ⟨cdv, L, A, outer, s, H, E, rfl, _⟩ := hex
    have hu := hr.units
    have hu1 := Nat.lt_of_le_of_lt (Nat.add_le_add_left (by decide : 1 ≤ 64) _) hu
    exact (ss_cons (s_par2 (O := []) false false (ps_par (i := 3) (j := 4) rfl sc_law_rule.nd rfl rfl (by decide) rfl rfl (by exact (pa_cons (px_d (d_cg C_law_draw hr (by decide) hgd rfl (ad_cons (d_var (by decide) (pv 0)) (ad_cons d_int ad_nil)) (al_cons (al_cons al_nil)))) (pa_cons (px_d (d_cg C_law_pick hr (by decide) hgd rfl (ad_cons (d_var (by decide) (pv 0)) (ad_cons (d_of_n (n_lst (ad_cons d_str (ad_cons d_str ad_nil)))) ad_nil)) (al_cons (al_cons al_nil)))) pa_nil))) rfl) []) (ss_cons (s_if (O := []) (O' := []) (t_lt (b_var (pv 3)) (b_of_d d_int)) (ss_one (s_retO (O := []) (O' := []) (d_tup (ad_cons d_str (ad_cons d_int (ad_cons (d_var (by decide) (pv 4)) ad_nil)))))) ss_nil) (ss_cons (s_if (O := []) (O' := []) (t_eq hu (b_var (pv 3)) (b_of_d d_int)) (ss_one (s_retO (O := []) (O' := []) (d_tup (ad_cons d_str (ad_cons (d_addA (b_of_d d_int) (b_of_d (d_cg C_law_draw hr (by decide) hgd rfl (ad_cons (d_var (by decide) (pv 0)) (ad_cons d_int ad_nil)) (al_cons (al_cons al_nil))))) (ad_cons (d_var (by decide) (pv 4)) ad_nil)))))) ss_nil) (ss_cons (s_if (O := []) (O' := []) (t_eq hu (b_var (pv 3)) (b_of_d d_int)) (ss_one (s_retO (O := []) (O' := []) (d_if (t_eq hu (b_of_d (d_cg C_law_draw hr (by decide) hgd rfl (ad_cons (d_var (by decide) (pv 0)) (ad_cons d_int ad_nil)) (al_cons (al_cons al_nil)))) (b_of_d d_int)) (d_tup (ad_cons d_str ad_nil)) (d_tup (ad_cons d_str (ad_cons (d_var (by decide) (pv 4)) ad_nil)))))) ss_nil) (ss_cons (s_if (O := []) (O' := []) (t_eq hu (b_var (pv 3)) (b_of_d d_int)) (ss_one (s_retO (O := []) (O' := []) (d_tup (ad_cons d_str (ad_cons (d_var (by decide) (pv 4)) ad_nil))))) ss_nil) (ss_cons (s_if (O := []) (O' := []) (t_lt (b_var (pv 3)) (b_of_d d_int)) (ss_one (s_retO (O := []) (O' := []) (d_tup (ad_cons d_str (ad_cons (d_var (by decide) (pv 4)) ad_nil))))) ss_nil) (ss_cons (s_set (O := []) (O' := []) (ps_set (i := 5) sc_law_rule.nd rfl (by first | exact .inl rfl | exact .inr rfl) (d_ixA hu1 (b_of_d (d_cg C_law_pick hr (by decide) hgd rfl (ad_cons (d_var (by decide) (pv 0)) (ad_cons (d_var (by decide) (pv 1)) ad_nil)) (al_cons (al_cons al_nil)))) (b_of_d d_int)))) (ss_one (s_retO (O := []) (O' := []) (d_tup (ad_cons d_str (ad_cons (d_var (by decide) (pv 5)) (ad_cons (d_cg C_law_pick hr (by decide) hgd rfl (ad_cons (d_var (by decide) (pv 0)) (ad_cons (d_addA (b_of_n (n_lst (ad_cons d_str ad_nil))) (b_of_d (d_ixA hu1 (b_var (pv 2)) (b_var (pv 5))))) ad_nil)) (al_cons (al_cons al_nil))) (ad_cons (d_var (by decide) (pv 4)) ad_nil))))))))))))))

abbrev N_law_all : List Str := ["_law_below_here", "_law_start_here", "_law_words", "_law_sign", "_law_later", "_law_word", "_law_more"]
abbrev A_law_all : List Str := ["_law_below_here", "_law_start_here"]
theorem sc_law_all : FnScope N_law_all A_law_all (defScope (topS 38)) := ⟨rfl, rfl, rfl, by decide +kernel, rfl, by decide +kernel, by decide +kernel⟩
theorem ok_law_all {P : Program} {w : World} {K : PySem.W.Frag} {mg : Str → Option Value} {base : Heap} {f : Addr} {fd : FuncData} (Fx : L2.Fun K "_law_all" "_law_all" (topS 38) f fd) (m_list : mg "list" = none) (m_sorted : mg "sorted" = none) : FnG P w K mg base 1 f fd A_law_all (spF K 2 V_law_all_k32) :=
  okF (k := 0) (O' := []) Fx sc_law_all rfl fun X _ _ _ _ _ _ _ _ hex hr hgd => by
    obtain ⟨cdv, L, A, outer, s, H, E, rfl, _⟩ := hex
    have hu := hr.units
    have hu1 := Nat.lt_of_le_of_lt (Nat.add_le_add_left (by decide : 1 ≤ 64) _) hu
    exact (ss_cons (s_set (O := []) (O' := []) (ps_set (i := 2) sc_law_all.nd rfl (by first | exact .inl rfl | exact .inr rfl) (d_of_n (n_lst (ad_cons d_str ad_nil))))) (ss_cons (s_for (L := []) (O := []) PassesOwn.never rfl (i_seq (d_var (by decide) (pv 1)) (pi_list (d_var (by decide) (pv 1))) (pi_tup (d_var (by decide) (pv 1))) (pi_str (d_var (by decide) (pv 1))) (pi_keys (d_var (by decide) (pv 1)))) (g_name (pg_name (i := 3) sc_law_all.nd rfl (by first | exact .inl rfl | exact .inr rfl))) (ss_end (O'' := []) (O' := [4]) (ss_cons (s_setN (O := []) (O' := [4]) (ps_set (i := 4) sc_law_all.nd rfl (by first | exact .inl rfl | exact .inr rfl) n_dnil)) (ss_cons (s_for (L := []) (O := [4]) PassesOwn.never rfl (i_seq (d_var (by decide) (pv 2)) (pi_list (d_var (by decide) (pv 2))) (pi_tup (d_var (by decide) (pv 2))) (pi_str (d_var (by decide) (pv 2))) (pi_keys (d_var (by decide) (pv 2)))) (g_name (pg_name (i := 5) sc_law_all.nd rfl (by first | exact .inl rfl | exact .inr rfl))) (ss_one (s_for (L := [4]) (O := [4]) PassesOwn.never rfl (i_seq (d_addA (b_of_n (n_lst (ad_cons d_str (ad_cons (d_var (by decide) (pv 3)) ad_nil)))) (b_of_d (d_ixA hu1 (b_var (pv 0)) (b_var (pv 3))))) (pi_list (d_addA (b_of_n (n_lst (ad_cons d_str (ad_cons (d_var (by decide) (pv 3)) ad_nil)))) (b_of_d (d_ixA hu1 (b_var (pv 0)) (b_var (pv 3)))))) (pi_tup (d_addA (b_of_n (n_lst (ad_cons d_str (ad_cons (d_var (by decide) (pv 3)) ad_nil)))) (b_of_d (d_ixA hu1 (b_var (pv 0)) (b_var (pv 3)))))) (pi_str (d_addA (b_of_n (n_lst (ad_cons d_str (ad_cons (d_var (by decide) (pv 3)) ad_nil)))) (b_of_d (d_ixA hu1 (b_var (pv 0)) (b_var (pv 3)))))) (pi_keys (d_addA (b_of_n (n_lst (ad_cons d_str (ad_cons (d_var (by decide) (pv 3)) ad_nil)))) (b_of_d (d_ixA hu1 (b_var (pv 0)) (b_var (pv 3))))))) (g_name (pg_name (i := 6) sc_law_all.nd rfl (by first | exact .inl rfl | exact .inr rfl))) (ss_one (s_dput (O := [4]) (ps_dput hu1 (pv 4) (b_of_d (d_addA (b_var (pv 5)) (b_var (pv 6)))) d_bl rfl)))))) (ss_one (s_set (O := [4]) (O' := [4]) (ps_set (i := 2) sc_law_all.nd rfl (by first | exact .inl rfl | exact .inr rfl) (d_of_n (n_callT (call_lstA rfl) cn_toLst rfl m_list rfl (ab_cons (b_var (pv 4)) ab_nil)))))))))) (ss_one (s_retO (O := []) (O' := []) (d_of_n (n_callB call_sortedA cn_sortedA rfl m_sorted rfl (ab_cons (b_var (pv 2)) ab_nil)))))))

abbrev N_law_start : List Str := ["_law_feed_here", "_law_entries", "_law_below_here", "_law_most", "_law_start_here", "_law_k", "_law_longer"]
abbrev A_law_start : List Str := ["_law_feed_here", "_law_entries", "_law_below_here", "_law_most"]
theorem sc_law_start : FnScope N_law_start A_law_start (defScope (topS 39)) := ⟨rfl, rfl, rfl, by decide +kernel, rfl, by decide +kernel, by decide +kernel⟩
theorem ok_law_start {P : Program} {w : World} {K : PySem.W.Frag} {mg : Str → Option Value} {base : Heap} {f : Addr} {fd : FuncData} (Fx : L2.Fun K "_law_start" "_law_start" (topS 39) f fd) (C_law_pick : Cg P w K mg base 2 "_law_pick" (topS 33) A_law_pick (V_law_pick_k01 V_law_draw_k42)) (C_law_all : Cg P w K mg base 1 "_law_all" (topS 38) A_law_all V_law_all_k32) (m_range : mg "range" = none) (m_len : mg "len" = none) : FnG P w K mg base 3 f fd A_law_start (spF K 4 (V_law_start_k32 V_law_draw_k42)) :=
  okF (k := 2) (O' := []) Fx sc_law_start rfl fun X _ _ _ _ _ _ _ _ hex hr hgd => by
    obtain ⟨cdv, L, A, outer, s, H, E, rfl, _⟩ := hex
    have hu := hr.units
    have hu1 := Nat.lt_of_le_of_lt (Nat.add_le_add_left (by decide : 1 ≤ 64) _) hu
    exact (ss_cons (s_set (O := []) (O' := []) (ps_set (i := 4) sc_law_start.nd rfl (by first | exact .inl rfl | exact .inr rfl) d_str)) (ss_cons (s_for (L := []) (O := []) PassesOwn.never rfl (i_range1 rfl m_range (b_of_d (d_cg C_law_pick hr (by decide) hgd rfl (ad_cons (d_var (by decide) (pv 0)) (ad_cons (d_of_n (n_lst (ad_cons d_int (ad_cons d_int (ad_cons d_int (ad_cons d_int (ad_cons d_int (ad_cons d_int (ad_cons d_int (ad_cons d_int (ad_cons d_int ad_nil))))))))))) ad_nil)) (al_cons (al_cons al_nil))))) (g_name (pg_name (i := 5) sc_law_start.nd rfl (by first | exact .inl rfl | exact .inr rfl))) (ss_cons (s_set (O := []) (O' := []) (ps_set (i := 6) sc_law_start.nd rfl (by first | exact .inl rfl | exact .inr rfl) (d_addA (b_var (pv 4)) (b_of_d (d_ixA hu1 (b_of_d (d_cg C_law_pick hr (by decide) hgd rfl (ad_cons (d_var (by decide) (pv 0)) (ad_cons (d_var (by decide) (pv 1)) ad_nil)) (al_cons (al_cons al_nil)))) (b_of_d d_int)))))) (ss_one (s_set (O := []) (O' := []) (ps_set (i := 4) sc_law_start.nd rfl (by first | exact .inl rfl | exact .inr rfl) (d_if (t_le (b_of_d (d_callB call_lenA cd_len rfl m_len PySem.boot_len (ab_cons (b_of_d (d_cg C_law_all hr (by decide) hgd rfl (ad_cons (d_var (by decide) (pv 2)) (ad_cons (d_var (by decide) (pv 6)) ad_nil)) (al_cons (al_cons al_nil)))) ab_nil))) (b_var (pv 3))) (d_var (by decide) (pv 6)) (d_var (by decide) (pv 4)))))))) (ss_one (s_retO (O := []) (O' := []) (d_var (by decide) (pv 4))))))

abbrev N_law_tome : List Str := ["_law_feed_here", "_law_entries", "_law_below_here", "_law_rules", "_law_k"]
abbrev A_law_tome : List Str := ["_law_feed_here"]
theorem sc_law_tome : FnScope N_law_tome A_law_tome (defScope (topS 37)) := ⟨rfl, rfl, rfl, by decide +kernel, rfl, by decide +kernel, by decide +kernel⟩
theorem ok_law_tome {P : Program} {w : World} {K : PySem.W.Frag} {mg : Str → Option Value} {base : Heap} {f : Addr} {fd : FuncData} (Fx : L2.Fun K "_law_tome" "_law_tome" (topS 37) f fd) (C_law_letters : Cg P w K mg base 3 "_law_letters" (topS 34) A_law_letters (V_law_letters_k32 V_law_draw_k42)) (C_law_below : Cg P w K mg base 1 "_law_below" (topS 35) A_law_below V_law_below_k32) (C_law_pick : Cg P w K mg base 2 "_law_pick" (topS 33) A_law_pick (V_law_pick_k01 V_law_draw_k42)) (C_law_rule : Cg P w K mg base 3 "_law_rule" (topS 36) A_law_rule (V_law_rule_k32 V_law_draw_k42)) (C_law_draw : Cg P w K mg base 1 "_law_draw" (topS 32) A_law_draw V_law_draw_k42) (m_range : mg "range" = none) (m_tuple : mg "tuple" = none) : FnG P w K mg base 4 f fd A_law_tome (spF K 1 (V_law_tome_k32 V_law_draw_k42)) :=
  okF (k := 3) (O' := []) Fx sc_law_tome rfl fun X _ _ _ _ _ _ _ _ hex hr hgd => by
    obtain ⟨cdv, L, A, outer, s, H, E, rfl, _⟩ := hex
    have hu := hr.units
    have hu1 := Nat.lt_of_le_of_lt (Nat.add_le_add_left (by decide : 1 ≤ 64) _) hu
    exact (ss_cons (s_set (O := []) (O' := []) (ps_set (i := 1) sc_law_tome.nd rfl (by first | exact .inl rfl | exact .inr rfl) (d_cg C_law_letters hr (by decide) hgd rfl (ad_cons (d_var (by decide) (pv 0)) ad_nil) (al_cons al_nil)))) (ss_cons (s_set (O := []) (O' := []) (ps_set (i := 2) sc_law_tome.nd rfl (by first | exact .inl rfl | exact .inr rfl) (d_cg C_law_below hr (by decide) hgd rfl (ad_cons (d_var (by decide) (pv 1)) ad_nil) (al_cons al_nil)))) (ss_cons (s_set (O := []) (O' := []) (a_d_of_n (a_lc (z := 3) (i := 4) rfl sc_law_tome.nd rfl rfl rfl (i_range1 rfl m_range (b_of_d (d_cg C_law_pick hr (by decide) hgd rfl (ad_cons (d_var (by decide) (pv 0)) (ad_cons (d_of_n (n_lst (ad_cons d_int (ad_cons d_int (ad_cons d_int (ad_cons d_int (ad_cons d_int (ad_cons d_int (ad_cons d_int (ad_cons d_int (ad_cons d_int ad_nil))))))))))) ad_nil)) (al_cons (al_cons al_nil))))) (own := [("_law_k", 4)]) (blkOk_by (by rfl)) (fun _ _ _ _ _ => (pg_name (i := 4) sc_law_tome.nd rfl (by first | exact .inl rfl | exact .inr rfl))) (fun _ _ _ _ _ => ts_nil) (fun _ _ _ _ _ => (d_cg C_law_rule hr (by decide) hgd rfl (ad_cons (d_var (by decide) (pv 0)) (ad_cons (d_var (by decide) (pv 1)) (ad_cons (d_var (by decide) (pv 2)) ad_nil))) (al_cons (al_cons (al_cons al_nil)))))))) (ss_cons (s_if (O := []) (O' := []) (t_eq hu (b_of_d (d_cg C_law_draw hr (by decide) hgd rfl (ad_cons (d_var (by decide) (pv 0)) (ad_cons d_int ad_nil)) (al_cons (al_cons al_nil)))) (b_of_d d_int)) (ss_one (s_set (O := []) (O' := []) (ps_set (i := 3) sc_law_tome.nd rfl (by first | exact .inl rfl | exact .inr rfl) (d_addA (b_of_n (n_lst (ad_cons (d_tup (ad_cons d_str (ad_cons d_int (ad_cons d_str ad_nil)))) (ad_cons (d_tup (ad_cons d_str (ad_cons d_str ad_nil))) ad_nil)))) (b_of_d (d_slice (b_var (pv 3)) o_none (o_some (b_of_d d_int)))))))) ss_nil) (ss_one (s_retO (O := []) (O' := []) (d_tup (ad_cons (d_var (by decide) (pv 1)) (ad_cons (d_callT call_tupA cd_toTup rfl m_tuple rfl (ab_cons (b_var (pv 3)) ab_nil)) ad_nil)))))))))

abbrev N_law_scene : List Str := ["_law_feed_here", "_law_way", "_law_chain", "_law_late", "_law_entries", "_law_below_here", "_law_rules", "_law_at", "_law_extra", "_law_tome_here", "_law_most"]
abbrev A_law_scene : List Str := ["_law_feed_here"]
theorem sc_law_scene : FnScope N_law_scene A_law_scene (defScope (topS 44)) := ⟨rfl, rfl, rfl, by decide +kernel, rfl, by decide +kernel, by decide +kernel⟩
theorem ok_law_scene {P : Program} {w : World} {K : PySem.W.Frag} {mg : Str → Option Value} {base : Heap} {f : Addr} {fd : FuncData} (Fx : L2.Fun K "_law_scene" "_law_scene" (topS 44) f fd) (C_law_draw : Cg P w K mg base 1 "_law_draw" (topS 32) A_law_draw V_law_draw_k42) (C_law_pick : Cg P w K mg base 2 "_law_pick" (topS 33) A_law_pick (V_law_pick_k01 V_law_draw_k42)) (C_law_letters : Cg P w K mg base 3 "_law_letters" (topS 34) A_law_letters (V_law_letters_k32 V_law_draw_k42)) (C_law_below : Cg P w K mg base 1 "_law_below" (topS 35) A_law_below V_law_below_k32) (C_law_rule : Cg P w K mg base 3 "_law_rule" (topS 36) A_law_rule (V_law_rule_k32 V_law_draw_k42)) (C_law_start : Cg P w K mg base 3 "_law_start" (topS 39) A_law_start (V_law_start_k32 V_law_draw_k42)) (C_law_tome : Cg P w K mg base 4 "_law_tome" (topS 37) A_law_tome (V_law_tome_k32 V_law_draw_k42)) (m_tuple : mg "tuple" = none) : FnG P w K mg base 5 f fd A_law_scene (spF K 1 (V_law_scene_k42 V_law_draw_k42)) :=
  okF (k := 4) (O' := []) Fx sc_law_scene rfl fun X _ _ _ _ _ _ _ _ hex hr hgd => by
    obtain ⟨cdv, L, A, outer, s, H, E, rfl, _⟩ := hex
    have hu := hr.units
    have hu1 := Nat.lt_of_le_of_lt (Nat.add_le_add_left (by decide : 1 ≤ 64) _) hu
    exact (ss_cons (s_par2 (O := []) false false (ps_par (i := 1) (j := 2) rfl sc_law_scene.nd rfl rfl (by decide) rfl rfl (by exact (pa_cons (px_d (d_cg C_law_draw hr (by decide) hgd rfl (ad_cons (d_var (by decide) (pv 0)) (ad_cons d_int ad_nil)) (al_cons (al_cons al_nil)))) (pa_cons (px_d (d_tup (ad_cons (d_tup (ad_cons d_str (ad_cons (d_tup ad_nil) ad_nil))) (ad_cons (d_tup (ad_cons d_str (ad_cons (d_tup (ad_cons d_str ad_nil)) ad_nil))) ad_nil)))) pa_nil))) rfl) []) (ss_cons (s_if (O := []) (O' := []) (t_eq hu (b_var (pv 1)) (b_of_d d_int)) (ss_one (s_retO (O := []) (O' := []) (d_tup (ad_cons (d_tup (ad_cons (d_var (by decide) (pv 2)) (ad_cons (d_tup (ad_cons (d_tup (ad_cons d_str (ad_cons d_str (ad_cons d_str (ad_cons d_str ad_nil))))) (ad_cons (d_tup (ad_cons d_str (ad_cons d_str ad_nil))) ad_nil))) ad_nil))) (ad_cons (d_cg C_law_pick hr (by decide) hgd rfl (ad_cons (d_var (by decide) (pv 0)) (ad_cons (d_of_n (n_lst (ad_cons d_str (ad_cons d_str (ad_cons d_str ad_nil))))) ad_nil)) (al_cons (al_cons al_nil))) ad_nil))))) ss_nil) (ss_cons (s_if (O := []) (O' := []) (t_eq hu (b_var (pv 1)) (b_of_d d_int)) (ss_one (s_retO (O := []) (O' := []) (d_tup (ad_cons (d_tup (ad_cons (d_var (by decide) (pv 2)) (ad_cons (d_tup (ad_cons (d_tup (ad_cons d_str ad_nil)) ad_nil)) ad_nil))) (ad_cons (d_cg C_law_pick hr (by decide) hgd rfl (ad_cons (d_var (by decide) (pv 0)) (ad_cons (d_of_n (n_lst (ad_cons d_str (ad_cons d_str (ad_cons d_str ad_nil))))) ad_nil)) (al_cons (al_cons al_nil))) ad_nil))))) ss_nil) (ss_cons (s_if (O := []) (O' := []) (t_eq hu (b_var (pv 1)) (b_of_d d_int)) (ss_cons (s_set (O := []) (O' := []) (ps_set (i := 3) sc_law_scene.nd rfl (by first | exact .inl rfl | exact .inr rfl) (d_tup (ad_cons (d_tup (ad_cons d_str (ad_cons d_str (ad_cons d_str (ad_cons d_str ad_nil))))) (ad_cons (d_tup (ad_cons d_str (ad_cons d_int (ad_cons d_str ad_nil)))) (ad_cons (d_tup (ad_cons d_str (ad_cons d_str (ad_cons d_str (ad_cons d_str ad_nil))))) ad_nil)))))) (ss_one (s_retO (O := []) (O' := []) (d_tup (ad_cons (d_tup (ad_cons (d_addA (b_var (pv 2)) (b_of_d (d_tup (ad_cons (d_tup (ad_cons d_str (ad_cons (d_tup (ad_cons d_str ad_nil)) ad_nil))) ad_nil)))) (ad_cons (d_var (by decide) (pv 3)) ad_nil))) (ad_cons (d_cg C_law_pick hr (by decide) hgd rfl (ad_cons (d_var (by decide) (pv 0)) (ad_cons (d_of_n (n_lst (ad_cons d_str (ad_cons d_str (ad_cons d_str ad_nil))))) ad_nil)) (al_cons (al_cons al_nil))) ad_nil)))))) ss_nil) (ss_cons (s_if (O := []) (O' := []) (t_eq hu (b_var (pv 1)) (b_of_d d_int)) (ss_cons (s_set (O := []) (O' := []) (ps_set (i := 3) sc_law_scene.nd rfl (by first | exact .inl rfl | exact .inr rfl) (d_tup (ad_cons (d_tup (ad_cons d_str (ad_cons d_str (ad_cons d_str (ad_cons d_str ad_nil))))) (ad_cons (d_tup (ad_cons d_str (ad_cons (d_cg C_law_pick hr (by decide) hgd rfl (ad_cons (d_var (by decide) (pv 0)) (ad_cons (d_of_n (n_lst (ad_cons d_str (ad_cons d_str ad_nil)))) ad_nil)) (al_cons (al_cons al_nil))) ad_nil))) ad_nil))))) (ss_one (s_retO (O := []) (O' := []) (d_tup (ad_cons (d_tup (ad_cons (d_addA (b_var (pv 2)) (b_of_d (d_tup (ad_cons (d_tup (ad_cons d_str (ad_cons (d_tup (ad_cons d_str ad_nil)) ad_nil))) ad_nil)))) (ad_cons (d_var (by decide) (pv 3)) ad_nil))) (ad_cons (d_cg C_law_pick hr (by decide) hgd rfl (ad_cons (d_var (by decide) (pv 0)) (ad_cons (d_of_n (n_lst (ad_cons d_str (ad_cons d_str (ad_cons d_str (ad_cons d_str (ad_cons d_str ad_nil))))))) ad_nil)) (al_cons (al_cons al_nil))) ad_nil)))))) ss_nil) (ss_cons (s_if (O := []) (O' := []) (t_lt (b_var (pv 1)) (b_of_d d_int)) (ss_cons (s_set (O := []) (O' := []) (ps_set (i := 4) sc_law_scene.nd rfl (by first | exact .inl rfl | exact .inr rfl) (d_cg C_law_letters hr (by decide) hgd rfl (ad_cons (d_var (by decide) (pv 0)) ad_nil) (al_cons al_nil)))) (ss_cons (s_par2 (O := []) false false (ps_par (i := 5) (j := 6) rfl sc_law_scene.nd rfl rfl (by decide) rfl rfl (by exact (pa_cons (px_d (d_cg C_law_below hr (by decide) hgd rfl (ad_cons (d_var (by decide) (pv 4)) ad_nil) (al_cons al_nil))) (pa_cons (px_d (d_of_n (n_lst (ad_cons (d_tup (ad_cons d_str (ad_cons d_int (ad_cons d_str ad_nil)))) (ad_cons (d_tup (ad_cons d_str (ad_cons d_str ad_nil))) ad_nil))))) pa_nil))) rfl) []) (ss_cons (s_par2 (O := []) false false (ps_par (i := 7) (j := 8) rfl sc_law_scene.nd rfl rfl (by decide) rfl rfl (by exact (pa_cons (px_d (d_cg C_law_draw hr (by decide) hgd rfl (ad_cons (d_var (by decide) (pv 0)) (ad_cons d_int ad_nil)) (al_cons (al_cons al_nil)))) (pa_cons (px_d (d_cg C_law_rule hr (by decide) hgd rfl (ad_cons (d_var (by decide) (pv 0)) (ad_cons (d_var (by decide) (pv 4)) (ad_cons (d_var (by decide) (pv 5)) ad_nil))) (al_cons (al_cons (al_cons al_nil))))) pa_nil))) rfl) []) (ss_cons (s_set (O := []) (O' := []) (ps_set (i := 9) sc_law_scene.nd rfl (by first | exact .inl rfl | exact .inr rfl) (d_tup (ad_cons (d_var (by decide) (pv 4)) (ad_cons (d_callT call_tupA cd_toTup rfl m_tuple rfl (ab_cons (b_of_d (d_addA (b_of_d (d_addA (b_of_d (d_slice (b_var (pv 6)) o_none (o_some (b_var (pv 7))))) (b_of_n (n_lst (ad_cons (d_var (by decide) (pv 8)) ad_nil))))) (b_of_d (d_slice (b_var (pv 6)) (o_some (b_var (pv 7))) o_none)))) ab_nil)) ad_nil))))) (ss_one (s_retO (O := []) (O' := []) (d_tup (ad_cons (d_var (by decide) (pv 9)) (ad_cons (d_cg C_law_start hr (by decide) hgd rfl (ad_cons (d_var (by decide) (pv 0)) (ad_cons (d_var (by decide) (pv 4)) (ad_cons (d_var (by decide) (pv 5)) (ad_cons (d_cg C_law_pick hr (by decide) hgd rfl (ad_cons (d_var (by decide) (pv 0)) (ad_cons (d_of_n (n_lst (ad_cons d_int (ad_cons d_int (ad_cons d_int (ad_cons d_int ad_nil)))))) ad_nil)) (al_cons (al_cons al_nil))) ad_nil)))) (al_cons (al_cons (al_cons (al_cons al_nil))))) ad_nil))))))))) ss_nil) (ss_cons (s_par2 (O := []) false false (ps_par (i := 9) (j := 10) rfl sc_law_scene.nd rfl rfl (by decide) rfl rfl (by exact (pa_cons (px_d (d_cg C_law_tome hr (by decide) hgd rfl (ad_cons (d_var (by decide) (pv 0)) ad_nil) (al_cons al_nil))) (pa_cons (px_d (d_cg C_law_pick hr (by decide) hgd rfl (ad_cons (d_var (by decide) (pv 0)) (ad_cons (d_of_n (n_lst (ad_cons d_int (ad_cons d_int (ad_cons d_int (ad_cons d_int ad_nil)))))) ad_nil)) (al_cons (al_cons al_nil)))) pa_nil))) rfl) []) (ss_one (s_retO (O := []) (O' := []) (d_tup (ad_cons (d_var (by decide) (pv 9)) (ad_cons (d_cg C_law_start hr (by decide) hgd rfl (ad_cons (d_var (by decide) (pv 0)) (ad_cons (d_ixA hu1 (b_var (pv 9)) (b_of_d d_int)) (ad_cons (d_cg C_law_below hr (by decide) hgd rfl (ad_cons (d_ixA hu1 (b_var (pv 9)) (b_of_d d_int)) ad_nil) (al_cons al_nil)) (ad_cons (d_var (by decide) (pv 10)) ad_nil)))) (al_cons (al_cons (al_cons (al_cons al_nil))))) ad_nil))))))))))))

abbrev N_law_results : List Str := ["_law_rule_here", "_law_direct", "_law_thing_now", "_law_size", "_law_found", "_law_part", "_law_places", "_law_k", "_law_sign"]
abbrev A_law_results : List Str := ["_law_rule_here", "_law_direct", "_law_thing_now"]
theorem sc_law_results : FnScope N_law_results A_law_results (defScope (topS 41)) := ⟨rfl, rfl, rfl, by decide +kernel, rfl, by decide +kernel, by decide +kernel⟩
theorem ok_law_results {P : Program} {w : World} {K : PySem.W.Frag} {mg : Str → Option Value} {base : Heap} {f : Addr} {fd : FuncData} (Fx : L2.Fun K "_law_results" "_law_results" (topS 41) f fd) (m_len : mg "len" = none) (m_list : mg "list" = none) (m_range : mg "range" = none) : FnG P w K mg base 1 f fd A_law_results (spF K 3 V_law_results_k32) :=
  okF (k := 0) (O' := [4]) Fx sc_law_results rfl fun X _ _ _ _ _ _ _ _ hex hr hgd => by
    obtain ⟨cdv, L, A, outer, s, H, E, rfl, _⟩ := hex
    have hu := hr.units
    have hu1 := Nat.lt_of_le_of_lt (Nat.add_le_add_left (by decide : 1 ≤ 64) _) hu
    exact (ss_cons (s_par2 (O := []) false true (ps_par (i := 3) (j := 4) rfl sc_law_results.nd rfl rfl (by decide) rfl rfl (by exact (pa_cons (px_d (d_callB call_lenA cd_len rfl m_len PySem.boot_len (ab_cons (b_var (pv 2)) ab_nil))) (pa_cons (px_n (n_lst ad_nil)) pa_nil))) rfl) [4]) (ss_cons (s_if (O := [4]) (O' := [4]) (t_eq hu (b_of_d (d_ixA hu1 (b_var (pv 0)) (b_of_d d_int))) (b_of_d d_str)) (ss_one (s_retO (O := [4]) (O' := [4]) (d_of_n (n_lst (ad_cons d_str ad_nil))))) ss_nil) (ss_cons (s_if (O := [4]) (O' := [4]) (t_eq hu (b_of_d (d_ixA hu1 (b_var (pv 0)) (b_of_d d_int))) (b_of_d d_str)) (ss_cons (s_set (O := [4]) (O' := [4]) (ps_set (i := 5) sc_law_results.nd rfl (by first | exact .inl rfl | exact .inr rfl) (d_div (b_var (pv 3)) (b_of_d d_int)))) (ss_one (s_retO (O := [4]) (O' := [4]) (d_of_n (n_lst (ad_cons (d_if (t_eq hu (b_of_d (d_ixA hu1 (b_var (pv 0)) (b_of_d d_int))) (b_of_d d_str)) (d_slice (b_var (pv 2)) o_none (o_some (b_var (pv 5)))) (d_slice (b_var (pv 2)) (o_some (b_of_d (d_sub (b_var (pv 3)) (b_var (pv 5))))) o_none)) ad_nil)))))) ss_nil) (ss_cons (s_set (O := [4]) (O' := [4]) (ps_set (i := 6) sc_law_results.nd rfl (by first | exact .inl rfl | exact .inr rfl) (d_of_n (n_range1 rfl rfl m_list rfl m_range (b_of_d (d_if (t_eq hu (b_of_d (d_ixA hu1 (b_var (pv 0)) (b_of_d d_int))) (b_of_d d_str)) (d_addA (b_of_d (d_sub (b_var (pv 3)) (b_of_d (d_ixA hu1 (b_var (pv 0)) (b_of_d d_int))))) (b_of_d d_int)) (d_var (by decide) (pv 3)))))))) (ss_cons (s_for (L := []) (O := [4]) PassesOwn.never rfl (i_seq (d_if (t_eq hu (b_of_d (d_ixA hu1 (b_var (pv 0)) (b_of_d (d_neg (b_of_d d_int))))) (b_of_d d_str)) (d_of_n (n_rev (b_var (pv 6)))) (d_var (by decide) (pv 6))) (pi_list (d_if (t_eq hu (b_of_d (d_ixA hu1 (b_var (pv 0)) (b_of_d (d_neg (b_of_d d_int))))) (b_of_d d_str)) (d_of_n (n_rev (b_var (pv 6)))) (d_var (by decide) (pv 6)))) (pi_tup (d_if (t_eq hu (b_of_d (d_ixA hu1 (b_var (pv 0)) (b_of_d (d_neg (b_of_d d_int))))) (b_of_d d_str)) (d_of_n (n_rev (b_var (pv 6)))) (d_var (by decide) (pv 6)))) (pi_str (d_if (t_eq hu (b_of_d (d_ixA hu1 (b_var (pv 0)) (b_of_d (d_neg (b_of_d d_int))))) (b_of_d d_str)) (d_of_n (n_rev (b_var (pv 6)))) (d_var (by decide) (pv 6)))) (pi_keys (d_if (t_eq hu (b_of_d (d_ixA hu1 (b_var (pv 0)) (b_of_d (d_neg (b_of_d d_int))))) (b_of_d d_str)) (d_of_n (n_rev (b_var (pv 6)))) (d_var (by decide) (pv 6))))) (g_name (pg_name (i := 7) sc_law_results.nd rfl (by first | exact .inl rfl | exact .inr rfl))) (ss_one (s_if (O := [4]) (O' := [4]) (t_eq hu (b_of_d (d_ixA hu1 (b_var (pv 0)) (b_of_d d_int))) (b_of_d d_str)) (ss_one (s_app (O := [4]) (i := 4) (pe_bm PySem.F.plainAttrs_list PySem.F.slot_list_append PySem.F.type_list_append mt_append (pv 4) (pa_cons (d_addA (b_of_d (d_slice (b_var (pv 2)) o_none (o_some (b_var (pv 7))))) (b_of_d (d_slice (b_var (pv 2)) (o_some (b_of_d (d_addA (b_var (pv 7)) (b_of_d (d_ixA hu1 (b_var (pv 0)) (b_of_d d_int)))))) o_none))) pa_nil)))) (ss_one (s_if (O := [4]) (O' := [4]) (t_eq hu (b_of_d (d_ixA hu1 (b_var (pv 0)) (b_of_d d_int))) (b_of_d d_str)) (ss_one (s_ext (O := [4]) (i := 4) (pe_bm PySem.F.plainAttrs_list PySem.F.slot_list_extend PySem.F.type_list_extend mt_extend (pv 4) (pa_cons (b_of_n (n_lc (i := 8) rfl sc_law_results.nd (i_seq (d_ixA hu1 (b_var (pv 1)) (b_of_d (d_ixA hu1 (b_var (pv 2)) (b_var (pv 7))))) (pi_list (d_ixA hu1 (b_var (pv 1)) (b_of_d (d_ixA hu1 (b_var (pv 2)) (b_var (pv 7)))))) (pi_tup (d_ixA hu1 (b_var (pv 1)) (b_of_d (d_ixA hu1 (b_var (pv 2)) (b_var (pv 7)))))) (pi_str (d_ixA hu1 (b_var (pv 1)) (b_of_d (d_ixA hu1 (b_var (pv 2)) (b_var (pv 7)))))) (pi_keys (d_ixA hu1 (b_var (pv 1)) (b_of_d (d_ixA hu1 (b_var (pv 2)) (b_var (pv 7))))))) (own := [("_law_sign", 8)]) (blkOk_by (by rfl)) (fun _ _ _ _ _ => (pg_name (i := 8) sc_law_results.nd rfl (by first | exact .inl rfl | exact .inr rfl))) (fun _ _ _ _ _ => ts_nil) (fun _ _ _ _ _ => (d_addA (b_of_d (d_addA (b_of_d (d_slice (b_var (pv 2)) o_none (o_some (b_var (pv 7))))) (b_var (pv 8)))) (b_of_d (d_slice (b_var (pv 2)) (o_some (b_of_d (d_addA (b_var (pv 7)) (b_of_d d_int)))) o_none)))))) pa_nil)))) (ss_one (s_if (O := [4]) (O' := [4]) (t_eq hu (b_of_d (d_ixA hu1 (b_var (pv 2)) (b_var (pv 7)))) (b_of_d (d_ixA hu1 (b_var (pv 0)) (b_of_d d_int)))) (ss_one (s_app (O := [4]) (i := 4) (pe_bm PySem.F.plainAttrs_list PySem.F.slot_list_append PySem.F.type_list_append mt_append (pv 4) (pa_cons (d_addA (b_of_d (d_addA (b_of_d (d_slice (b_var (pv 2)) o_none (o_some (b_var (pv 7))))) (b_of_d (d_ixA hu1 (b_var (pv 0)) (b_of_d d_int))))) (b_of_d (d_slice (b_var (pv 2)) (o_some (b_of_d (d_addA (b_var (pv 7)) (b_of_d d_int)))) o_none))) pa_nil)))) ss_nil))))))) (ss_one (s_retO (O := [4]) (O' := [4]) (d_var (by decide) (pv 4)))))))))

abbrev N_law_steps : List Str := ["_law_tome_here", "_law_way", "_law_thing_now", "_law_led", "_law_rules", "_law_direct", "_law_found", "_law_known", "_law_begin", "_law_k", "_law_step"]
abbrev A_law_steps : List Str := ["_law_tome_here", "_law_way", "_law_thing_now", "_law_led"]
theorem sc_law_steps : FnScope N_law_steps A_law_steps (defScope (topS 42)) := ⟨rfl, rfl, rfl, by decide +kernel, rfl, by decide +kernel, by decide +kernel⟩
theorem ok_law_steps {P : Program} {w : World} {K : PySem.W.Frag} {mg : Str → Option Value} {base : Heap} {f : Addr} {fd : FuncData} (Fx : L2.Fun K "_law_steps" "_law_steps" (topS 42) f fd) (C_law_results : Cg P w K mg base 1 "_law_results" (topS 41) A_law_results V_law_results_k32) (m_dict : mg "dict" = none) (m_list : mg "list" = none) (m_range : mg "range" = none) (m_len : mg "len" = none) : FnG P w K mg base 2 f fd A_law_steps (spF K 4 V_law_steps_k32) :=
  okF (k := 1) (O' := [6, 7]) Fx sc_law_steps rfl fun X _ _ _ _ _ _ _ _ hex hr hgd => by
    obtain ⟨cdv, L, A, outer, s, H, E, rfl, _⟩ := hex
    have hu := hr.units
    have hu1 := Nat.lt_of_le_of_lt (Nat.add_le_add_left (by decide : 1 ≤ 64) _) hu
    exact (ss_cons (s_parN (O := []) (is := [4, 5, 6, 7]) [false, false, true, true] (ps_parT rfl (by exact (pa_cons (px_d (d_ixA hu1 (b_var (pv 0)) (b_of_d d_int))) (pa_cons (px_d (d_of_n (n_callT (call_dctA rfl) cn_toDct rfl m_dict rfl (ab_cons (b_of_d (d_ixA hu1 (b_var (pv 0)) (b_of_d d_int))) ab_nil)))) (pa_cons (px_n (n_lst ad_nil)) (pa_cons (px_n (n_lst (ad_cons (d_var (by decide) (pv 2)) ad_nil))) pa_nil))))) (pgs_cons (pg_name (i := 4) sc_law_steps.nd rfl (by first | exact .inl rfl | exact .inr rfl)) (pgs_cons (pg_name (i := 5) sc_law_steps.nd rfl (by first | exact .inl rfl | exact .inr rfl)) (pgs_cons (pg_name (i := 6) sc_law_steps.nd rfl (by first | exact .inl rfl | exact .inr rfl)) (pgs_cons (pg_name (i := 7) sc_law_steps.nd rfl (by first | exact .inl rfl | exact .inr rfl)) pgs_nil))))) rfl rfl [6, 7]) (ss_cons (s_set (O := [6, 7]) (O' := [6, 7]) (ps_set (i := 8) sc_law_steps.nd rfl (by first | exact .inl rfl | exact .inr rfl) (d_if (t_eq hu (b_var (pv 1)) (b_of_d d_str)) (d_var (by decide) (pv 3)) d_int))) (ss_cons (s_for (L := []) (O := [6, 7]) PassesOwn.never rfl (i_seq (d_of_n (n_cat (b_of_n (n_range2 rfl rfl m_list rfl m_range (b_var (pv 8)) (b_of_d (d_callB call_lenA cd_len rfl m_len PySem.boot_len (ab_cons (b_var (pv 4)) ab_nil))) (prg_2 rfl m_range (b_var (pv 8)) (b_of_d (d_callB call_lenA cd_len rfl m_len PySem.boot_len (ab_cons (b_var (pv 4)) ab_nil)))))) (b_of_n (n_range1 rfl rfl m_list rfl m_range (b_var (pv 8)))))) (pi_list (d_of_n (n_cat (b_of_n (n_range2 rfl rfl m_list rfl m_range (b_var (pv 8)) (b_of_d (d_callB call_lenA cd_len rfl m_len PySem.boot_len (ab_cons (b_var (pv 4)) ab_nil))) (prg_2 rfl m_range (b_var (pv 8)) (b_of_d (d_callB call_lenA cd_len rfl m_len PySem.boot_len (ab_cons (b_var (pv 4)) ab_nil)))))) (b_of_n (n_range1 rfl rfl m_list rfl m_range (b_var (pv 8))))))) (pi_tup (d_of_n (n_cat (b_of_n (n_range2 rfl rfl m_list rfl m_range (b_var (pv 8)) (b_of_d (d_callB call_lenA cd_len rfl m_len PySem.boot_len (ab_cons (b_var (pv 4)) ab_nil))) (prg_2 rfl m_range (b_var (pv 8)) (b_of_d (d_callB call_lenA cd_len rfl m_len PySem.boot_len (ab_cons (b_var (pv 4)) ab_nil)))))) (b_of_n (n_range1 rfl rfl m_list rfl m_range (b_var (pv 8))))))) (pi_str (d_of_n (n_cat (b_of_n (n_range2 rfl rfl m_list rfl m_range (b_var (pv 8)) (b_of_d (d_callB call_lenA cd_len rfl m_len PySem.boot_len (ab_cons (b_var (pv 4)) ab_nil))) (prg_2 rfl m_range (b_var (pv 8)) (b_of_d (d_callB call_lenA cd_len rfl m_len PySem.boot_len (ab_cons (b_var (pv 4)) ab_nil)))))) (b_of_n (n_range1 rfl rfl m_list rfl m_range (b_var (pv 8))))))) (pi_keys (d_of_n (n_cat (b_of_n (n_range2 rfl rfl m_list rfl m_range (b_var (pv 8)) (b_of_d (d_callB call_lenA cd_len rfl m_len PySem.boot_len (ab_cons (b_var (pv 4)) ab_nil))) (prg_2 rfl m_range (b_var (pv 8)) (b_of_d (d_callB call_lenA cd_len rfl m_len PySem.boot_len (ab_cons (b_var (pv 4)) ab_nil)))))) (b_of_n (n_range1 rfl rfl m_list rfl m_range (b_var (pv 8)))))))) (g_name (pg_name (i := 9) sc_law_steps.nd rfl (by first | exact .inl rfl | exact .inr rfl))) (ss_one (s_for (L := [6, 7]) (O := [6, 7]) PassesOwn.never rfl (i_seq (d_cg C_law_results hr (by decide) hgd rfl (ad_cons (d_ixA hu1 (b_var (pv 4)) (b_var (pv 9))) (ad_cons (d_var (by decide) (pv 5)) (ad_cons (d_var (by decide) (pv 2)) ad_nil))) (al_cons (al_cons (al_cons al_nil)))) (pi_list (d_cg C_law_results hr (by decide) hgd rfl (ad_cons (d_ixA hu1 (b_var (pv 4)) (b_var (pv 9))) (ad_cons (d_var (by decide) (pv 5)) (ad_cons (d_var (by decide) (pv 2)) ad_nil))) (al_cons (al_cons (al_cons al_nil))))) (pi_tup (d_cg C_law_results hr (by decide) hgd rfl (ad_cons (d_ixA hu1 (b_var (pv 4)) (b_var (pv 9))) (ad_cons (d_var (by decide) (pv 5)) (ad_cons (d_var (by decide) (pv 2)) ad_nil))) (al_cons (al_cons (al_cons al_nil))))) (pi_str (d_cg C_law_results hr (by decide) hgd rfl (ad_cons (d_ixA hu1 (b_var (pv 4)) (b_var (pv 9))) (ad_cons (d_var (by decide) (pv 5)) (ad_cons (d_var (by decide) (pv 2)) ad_nil))) (al_cons (al_cons (al_cons al_nil))))) (pi_keys (d_cg C_law_results hr (by decide) hgd rfl (ad_cons (d_ixA hu1 (b_var (pv 4)) (b_var (pv 9))) (ad_cons (d_var (by decide) (pv 5)) (ad_cons (d_var (by decide) (pv 2)) ad_nil))) (al_cons (al_cons (al_cons al_nil)))))) (g_name (pg_name (i := 10) sc_law_steps.nd rfl (by first | exact .inl rfl | exact .inr rfl))) (ss_one (s_if (O := [6, 7]) (O' := [6, 7]) (t_notinA hu1 (b_var (pv 10)) (b_var (pv 7))) (ss_cons (s_app (O := [6, 7]) (i := 7) (pe_bm PySem.F.plainAttrs_list PySem.F.slot_list_append PySem.F.type_list_append mt_append (pv 7) (pa_cons (d_var (by decide) (pv 10)) pa_nil))) (ss_one (s_app (O := [6, 7]) (i := 6) (pe_bm PySem.F.plainAttrs_list PySem.F.slot_list_append PySem.F.type_list_append mt_append (pv 6) (pa_cons (d_tup (ad_cons (d_var (by decide) (pv 10)) (ad_cons (d_var (by decide) (pv 9)) ad_nil))) pa_nil))))) ss_nil))))) (ss_one (s_retO (O := [6, 7]) (O' := [6, 7]) (d_var (by decide) (pv 6)))))))

abbrev N_law_is_at_most : List Str := ["_law_below_here", "_law_less", "_law_more", "_law_at", "_law_sign"]
abbrev A_law_is_at_most : List Str := ["_law_below_here", "_law_less", "_law_more"]
theorem sc_law_is_at_most : FnScope N_law_is_at_most A_law_is_at_most (defScope (topS 40)) := ⟨rfl, rfl, rfl, by decide +kernel, rfl, by decide +kernel, by decide +kernel⟩
theorem ok_law_is_at_most {P : Program} {w : World} {K : PySem.W.Frag} {mg : Str → Option Value} {base : Heap} {f : Addr} {fd : FuncData} (Fx : L2.Fun K "_law_is_at_most" "_law_is_at_most" (topS 40) f fd) (m_len : mg "len" = none) : FnG P w K mg base 1 f fd A_law_is_at_most (spF K 3 V_law_is_at_most_k32) :=
  okF (k := 0) (O' := []) Fx sc_law_is_at_most rfl fun X _ _ _ _ _ _ _ _ hex hr hgd => by
    obtain ⟨cdv, L, A, outer, s, H, E, rfl, _⟩ := hex
    have hu := hr.units
    have hu1 := Nat.lt_of_le_of_lt (Nat.add_le_add_left (by decide : 1 ≤ 64) _) hu
    exact (ss_cons (s_set (O := []) (O' := []) (ps_set (i := 3) sc_law_is_at_most.nd rfl (by first | exact .inl rfl | exact .inr rfl) d_int)) (ss_cons (s_for (L := []) (O := []) PassesOwn.never rfl (i_seq (d_var (by decide) (pv 2)) (pi_list (d_var (by decide) (pv 2))) (pi_tup (d_var (by decide) (pv 2))) (pi_str (d_var (by decide) (pv 2))) (pi_keys (d_var (by decide) (pv 2)))) (g_name (pg_name (i := 4) sc_law_is_at_most.nd rfl (by first | exact .inl rfl | exact .inr rfl))) (ss_one (s_if (O := []) (O' := []) (t_bool (w_and (t_lt (b_var (pv 3)) (b_of_d (d_callB call_lenA cd_len rfl m_len PySem.boot_len (ab_cons (b_var (pv 1)) ab_nil)))) (w_and1 (t_bool (w_or (t_eq hu (b_of_d (d_ixA hu1 (b_var (pv 1)) (b_var (pv 3)))) (b_var (pv 4))) (w_or1 (t_inA hu1 (b_of_d (d_ixA hu1 (b_var (pv 1)) (b_var (pv 3)))) (b_of_d (d_ixA hu1 (b_var (pv 0)) (b_var (pv 4))))))))))) (ss_one (s_set (O := []) (O' := []) (ps_set (i := 3) sc_law_is_at_most.nd rfl (by first | exact .inl rfl | exact .inr rfl) (d_addA (b_var (pv 3)) (b_of_d d_int))))) ss_nil))) (ss_one (s_retO (O := []) (O' := []) (d_eq hu (b_var (pv 3)) (b_of_d (d_callB call_lenA cd_len rfl m_len PySem.boot_len (ab_cons (b_var (pv 1)) ab_nil))))))))

abbrev N_law_end : List Str := ["_law_tome_here", "_law_way", "_law_below_here", "_law_causes", "_law_start_here", "_law_thing_now", "_law_led", "_law_turn", "_law_late", "_law_step", "_law_k", "_law_one"]
abbrev A_law_end : List Str := ["_law_tome_here", "_law_way", "_law_below_here", "_law_causes", "_law_start_here"]
theorem sc_law_end : FnScope N_law_end A_law_end (defScope (topS 43)) := ⟨rfl, rfl, rfl, by decide +kernel, rfl, by decide +kernel, by decide +kernel⟩
theorem ok_law_end {P : Program} {w : World} {K : PySem.W.Frag} {mg : Str → Option Value} {base : Heap} {f : Addr} {fd : FuncData} (Fx : L2.Fun K "_law_end" "_law_end" (topS 43) f fd) (C_law_steps : Cg P w K mg base 2 "_law_steps" (topS 42) A_law_steps V_law_steps_k32) (C_law_is_at_most : Cg P w K mg base 1 "_law_is_at_most" (topS 40) A_law_is_at_most V_law_is_at_most_k32) (m_range : mg "range" = none) : FnG P w K mg base 3 f fd A_law_end (spF K 5 V_law_end_k33) :=
  okF (k := 2) (O' := []) Fx sc_law_end rfl fun X _ _ _ _ _ _ _ _ hex hr hgd => by
    obtain ⟨cdv, L, A, outer, s, H, E, rfl, _⟩ := hex
    have hu := hr.units
    have hu1 := Nat.lt_of_le_of_lt (Nat.add_le_add_left (by decide : 1 ≤ 64) _) hu
    exact (ss_cons (s_par2 (O := []) false false (ps_par (i := 5) (j := 6) rfl sc_law_end.nd rfl rfl (by decide) rfl rfl (by exact (pa_cons (px_d (d_var (by decide) (pv 4))) (pa_cons (px_d d_int) pa_nil))) rfl) []) (ss_cons (s_for (L := []) (O := []) PassesOwn.never rfl (i_range1 rfl m_range (b_of_d d_int)) (g_name (pg_name (i := 7) sc_law_end.nd rfl (by first | exact .inl rfl | exact .inr rfl))) (ss_end (O'' := []) (O' := [8]) (ss_cons (s_setN (O := []) (O' := [8]) (ps_set (i := 8) sc_law_end.nd rfl (by first | exact .inl rfl | exact .inr rfl) (n_lst ad_nil))) (ss_cons (s_for (L := []) (O := [8]) PassesOwn.never rfl (i_seq (d_cg C_law_steps hr (by decide) hgd rfl (ad_cons (d_var (by decide) (pv 0)) (ad_cons (d_var (by decide) (pv 1)) (ad_cons (d_var (by decide) (pv 5)) (ad_cons (d_var (by decide) (pv 6)) ad_nil)))) (al_cons (al_cons (al_cons (al_cons al_nil))))) (pi_list (d_cg C_law_steps hr (by decide) hgd rfl (ad_cons (d_var (by decide) (pv 0)) (ad_cons (d_var (by decide) (pv 1)) (ad_cons (d_var (by decide) (pv 5)) (ad_cons (d_var (by decide) (pv 6)) ad_nil)))) (al_cons (al_cons (al_cons (al_cons al_nil)))))) (pi_tup (d_cg C_law_steps hr (by decide) hgd rfl (ad_cons (d_var (by decide) (pv 0)) (ad_cons (d_var (by decide) (pv 1)) (ad_cons (d_var (by decide) (pv 5)) (ad_cons (d_var (by decide) (pv 6)) ad_nil)))) (al_cons (al_cons (al_cons (al_cons al_nil)))))) (pi_str (d_cg C_law_steps hr (by decide) hgd rfl (ad_cons (d_var (by decide) (pv 0)) (ad_cons (d_var (by decide) (pv 1)) (ad_cons (d_var (by decide) (pv 5)) (ad_cons (d_var (by decide) (pv 6)) ad_nil)))) (al_cons (al_cons (al_cons (al_cons al_nil)))))) (pi_keys (d_cg C_law_steps hr (by decide) hgd rfl (ad_cons (d_var (by decide) (pv 0)) (ad_cons (d_var (by decide) (pv 1)) (ad_cons (d_var (by decide) (pv 5)) (ad_cons (d_var (by decide) (pv 6)) ad_nil)))) (al_cons (al_cons (al_cons (al_cons al_nil))))))) (g_pair rfl rfl rfl (pgs_cons (g_name (pg_name (i := 9) sc_law_end.nd rfl (by first | exact .inl rfl | exact .inr rfl))) (pgs_cons (g_name (pg_name (i := 10) sc_law_end.nd rfl (by first | exact .inl rfl | exact .inr rfl))) pgs_nil))) (ss_one (s_if (O := [8]) (O' := [8]) (t_ne hu (b_of_n (n_lc (i := 11) rfl sc_law_end.nd (i_seq (d_var (by decide) (pv 3)) (pi_list (d_var (by decide) (pv 3))) (pi_tup (d_var (by decide) (pv 3))) (pi_str (d_var (by decide) (pv 3))) (pi_keys (d_var (by decide) (pv 3)))) (own := [("_law_one", 11)]) (blkOk_by (by rfl)) (fun _ _ _ _ _ => (pg_name (i := 11) sc_law_end.nd rfl (by first | exact .inl rfl | exact .inr rfl))) (fun _ _ _ _ _ => (ts_one (t_tru (b_of_d (d_cg C_law_is_at_most hr (by decide) hgd rfl (ad_cons (d_var (by decide) (pv 2)) (ad_cons (d_var (by decide) (pv 11)) (ad_cons (d_var (by decide) (pv 9)) ad_nil))) (al_cons (al_cons (al_cons al_nil)))))))) (fun _ _ _ _ _ => (d_var (by decide) (pv 11))))) (b_of_n (n_lst ad_nil))) (ss_one (s_app (O := [8]) (i := 8) (pe_bm PySem.F.plainAttrs_list PySem.F.slot_list_append PySem.F.type_list_append mt_append (pv 8) (pa_cons (d_tup (ad_cons (d_var (by decide) (pv 9)) (ad_cons (d_var (by decide) (pv 10)) ad_nil))) pa_nil)))) ss_nil))) (ss_cons (s_if (O := [8]) (O' := [8]) (t_eq hu (b_var (pv 8)) (b_of_n (n_lst ad_nil))) (ss_one (s_retO (O := [8]) (O' := [8]) (d_var (by decide) (pv 5)))) ss_nil) (ss_one (s_unp (O := [8]) (O' := [8]) (ps_asg (d_ixA hu1 (b_var (pv 8)) (b_of_d d_int)) (pg_unl rfl (pgs_cons (pg_name (i := 5) sc_law_end.nd rfl (by first | exact .inl rfl | exact .inr rfl)) (pgs_cons (pg_name (i := 6) sc_law_end.nd rfl (by first | exact .inl rfl | exact .inr rfl)) pgs_nil)))) (ps_asg (d_ixA hu1 (b_var (pv 8)) (b_of_d d_int)) (pg_tup rfl (pgs_cons (pg_name (i := 5) sc_law_end.nd rfl (by first | exact .inl rfl | exact .inr rfl)) (pgs_cons (pg_name (i := 6) sc_law_end.nd rfl (by first | exact .inl rfl | exact .inr rfl)) pgs_nil))))))))))) (ss_one (s_retO (O := []) (O' := []) (d_var (by decide) (pv 5))))))

abbrev Nletters_of : List Str := ["book", "entry"]
abbrev Aletters_of : List Str := ["book"]
theorem scletters_of : FnScope Nletters_of Aletters_of (defScope (topS 9)) := ⟨rfl, rfl, rfl, by decide +kernel, rfl, by decide +kernel, by decide +kernel⟩
theorem okletters_of {P : Program} {w : World} {K : PySem.W.Frag} {mg : Str → Option Value} {base : Heap} {f : Addr} {fd : FuncData} (Fx : L2.Fun K "letters_of" "letters_of" (topS 9) f fd) (m_tuple : mg "tuple" = none) : FnG P w K mg base 1 f fd Aletters_of (spF K 1 Vletters_of) :=
  okF (k := 0) (O' := []) Fx scletters_of rfl fun X _ _ _ _ _ _ _ _ hex hr hgd => by
    obtain ⟨cdv, L, A, outer, s, H, E, rfl, _⟩ := hex
    have hu := hr.units
    have hu1 := Nat.lt_of_le_of_lt (Nat.add_le_add_left (by decide : 1 ≤ 64) _) hu
    exact (ss_one (s_retO (O := []) (O' := []) (d_callT call_tupA cd_toTup rfl m_tuple rfl (ab_cons (b_of_n (n_lc (i := 1) rfl scletters_of.nd (i_seq (d_ixA hu1 (b_var (pv 0)) (b_of_d d_int)) (pi_list (d_ixA hu1 (b_var (pv 0)) (b_of_d d_int))) (pi_tup (d_ixA hu1 (b_var (pv 0)) (b_of_d d_int))) (pi_str (d_ixA hu1 (b_var (pv 0)) (b_of_d d_int))) (pi_keys (d_ixA hu1 (b_var (pv 0)) (b_of_d d_int)))) (own := [("entry", 1)]) (blkOk_by (by rfl)) (fun _ _ _ _ _ => (pg_name (i := 1) scletters_of.nd rfl (by first | exact .inl rfl | exact .inr rfl))) (fun _ _ _ _ _ => ts_nil) (fun _ _ _ _ _ => (d_ixA hu1 (b_var (pv 1)) (b_of_d d_int))))) ab_nil))))

abbrev Nis_thing : List Str := ["thing", "letter"]
abbrev Ais_thing : List Str := ["thing"]
theorem scis_thing : FnScope Nis_thing Ais_thing (defScope (topS 6)) := ⟨rfl, rfl, rfl, by decide +kernel, rfl, by decide +kernel, by decide +kernel⟩
theorem okis_thing {P : Program} {w : World} {K : PySem.W.Frag} {mg : Str → Option Value} {base : Heap} {f : Addr} {fd : FuncData} (Fx : L2.Fun K "is_thing" "is_thing" (topS 6) f fd) (m_isinstance : mg "isinstance" = none) (m_str : mg "str" = none) (m_all : mg "all" = none) : FnG P w K mg base 1 f fd Ais_thing (spF K 1 Vis_thing) :=
  okF (k := 0) (O' := []) Fx scis_thing rfl fun X _ _ _ _ _ _ _ _ hex hr hgd => by
    obtain ⟨cdv, L, A, outer, s, H, E, rfl, _⟩ := hex
    have hu := hr.units
    have hu1 := Nat.lt_of_le_of_lt (Nat.add_le_add_left (by decide : 1 ≤ 64) _) hu
    exact (ss_one (s_retO (O := []) (O' := []) (d_and (d_isi rfl m_isinstance rfl rfl m_str rfl (b_var (pv 0))) (d_one (d_callB (cr_all rfl) cd_all rfl m_all rfl (ab_cons (b_of_n (n_lc (i := 1) rfl scis_thing.nd (i_seq (d_var (by decide) (pv 0)) (pi_list (d_var (by decide) (pv 0))) (pi_tup (d_var (by decide) (pv 0))) (pi_str (d_var (by decide) (pv 0))) (pi_keys (d_var (by decide) (pv 0)))) (own := [("letter", 1)]) (blkOk_by (by rfl)) (fun _ _ _ _ _ => (pg_name (i := 1) scis_thing.nd rfl (by first | exact .inl rfl | exact .inr rfl))) (fun _ _ _ _ _ => ts_nil) (fun _ _ _ _ _ => (d_le_le (b_of_d d_str) (b_var (pv 1)) (b_of_d d_str))))) ab_nil))))))

abbrev Nhas_letters : List Str := ["book", "thing", "names", "letter"]
abbrev Ahas_letters : List Str := ["book", "thing"]
theorem schas_letters : FnScope Nhas_letters Ahas_letters (defScope (topS 11)) := ⟨rfl, rfl, rfl, by decide +kernel, rfl, by decide +kernel, by decide +kernel⟩
theorem okhas_letters {P : Program} {w : World} {K : PySem.W.Frag} {mg : Str → Option Value} {base : Heap} {f : Addr} {fd : FuncData} (Fx : L2.Fun K "has_letters" "has_letters" (topS 11) f fd) (Cletters_of : Cg P w K mg base 1 "letters_of" (topS 9) Aletters_of Vletters_of) (Cis_thing : Cg P w K mg base 1 "is_thing" (topS 6) Ais_thing Vis_thing) (m_all : mg "all" = none) : FnG P w K mg base 2 f fd Ahas_letters (spF K 2 Vhas_letters) :=
  okF (k := 1) (O' := []) Fx schas_letters rfl fun X _ _ _ _ _ _ _ _ hex hr hgd => by
    obtain ⟨cdv, L, A, outer, s, H, E, rfl, _⟩ := hex
    have hu := hr.units
    have hu1 := Nat.lt_of_le_of_lt (Nat.add_le_add_left (by decide : 1 ≤ 64) _) hu
    exact (ss_cons (s_set (O := []) (O' := []) (ps_set (i := 2) schas_letters.nd rfl (by first | exact .inl rfl | exact .inr rfl) (d_cg Cletters_of hr (by decide) hgd rfl (ad_cons (d_var (by decide) (pv 0)) ad_nil) (al_cons al_nil)))) (ss_one (s_retO (O := []) (O' := []) (d_and (d_cg Cis_thing hr (by decide) hgd rfl (ad_cons (d_var (by decide) (pv 1)) ad_nil) (al_cons al_nil)) (d_one (d_callB (cr_all rfl) cd_all rfl m_all rfl (ab_cons (b_of_n (n_lc (i := 3) rfl schas_letters.nd (i_seq (d_var (by decide) (pv 1)) (pi_list (d_var (by decide) (pv 1))) (pi_tup (d_var (by decide) (pv 1))) (pi_str (d_var (by decide) (pv 1))) (pi_keys (d_var (by decide) (pv 1)))) (own := [("letter", 3)]) (blkOk_by (by rfl)) (fun _ _ _ _ _ => (pg_name (i := 3) schas_letters.nd rfl (by first | exact .inl rfl | exact .inr rfl))) (fun _ _ _ _ _ => ts_nil) (fun _ _ _ _ _ => (d_inA hu1 (b_var (pv 3)) (b_var (pv 2)))))) ab_nil)))))))

abbrev Nneed_thing : List Str := ["book", "thing", "name"]
abbrev Aneed_thing : List Str := ["book", "thing", "name"]
theorem scneed_thing : FnScope Nneed_thing Aneed_thing (defScope (topS 14)) := ⟨rfl, rfl, rfl, by decide +kernel, rfl, by decide +kernel, by decide +kernel⟩
theorem okneed_thing {P : Program} {w : World} {K : PySem.W.Frag} {mg : Str → Option Value} {base : Heap} {f : Addr} {fd : FuncData} (Fx : L2.Fun K "need_thing" "need_thing" (topS 14) f fd) (Chas_letters : Cg P w K mg base 2 "has_letters" (topS 11) Ahas_letters Vhas_letters) : FnG P w K mg base 3 f fd Aneed_thing (spF K 3 Vneed_thing) :=
  okF (k := 2) (O' := []) Fx scneed_thing rfl fun X _ _ _ _ _ _ _ _ hex hr hgd => by
    obtain ⟨cdv, L, A, outer, s, H, E, rfl, _⟩ := hex
    have hu := hr.units
    have hu1 := Nat.lt_of_le_of_lt (Nat.add_le_add_left (by decide : 1 ≤ 64) _) hu
    exact (ss_one (s_if (O := []) (O' := []) (t_not (t_tru (b_of_d (d_cg Chas_letters hr (by decide) hgd rfl (ad_cons (d_var (by decide) (pv 0)) (ad_cons (d_var (by decide) (pv 1)) ad_nil)) (al_cons (al_cons al_nil)))))) (ss_one s_never) ss_nil))

abbrev Nneed_manner : List Str := ["manner", "name"]
abbrev Aneed_manner : List Str := ["manner", "name"]
theorem scneed_manner : FnScope Nneed_manner Aneed_manner (defScope (topS 19)) := ⟨rfl, rfl, rfl, by decide +kernel, rfl, by decide +kernel, by decide +kernel⟩
theorem okneed_manner {P : Program} {w : World} {K : PySem.W.Frag} {mg : Str → Option Value} {base : Heap} {f : Addr} {fd : FuncData} (Fx : L2.Fun K "need_manner" "need_manner" (topS 19) f fd) (c_MANNERS : CstAt K mg "MANNERS" (.tup [.str "again", .str "on"])) : FnG P w K mg base 1 f fd Aneed_manner (spF K 2 Vneed_manner) :=
  okF (k := 0) (O' := []) Fx scneed_manner rfl fun X _ _ _ _ _ _ _ _ hex hr hgd => by
    obtain ⟨cdv, L, A, outer, s, H, E, rfl, _⟩ := hex
    have hu := hr.units
    have hu1 := Nat.lt_of_le_of_lt (Nat.add_le_add_left (by decide : 1 ≤ 64) _) hu
    exact (ss_one (s_if (O := []) (O' := []) (t_notinA hu1 (b_var (pv 0)) (b_of_d (d_glob c_MANNERS rfl))) (ss_one s_never) ss_nil))

abbrev Nneed_letter : List Str := ["book", "letter"]
abbrev Aneed_letter : List Str := ["book", "letter"]
theorem scneed_letter : FnScope Nneed_letter Aneed_letter (defScope (topS 13)) := ⟨rfl, rfl, rfl, by decide +kernel, rfl, by decide +kernel, by decide +kernel⟩
theorem okneed_letter {P : Program} {w : World} {K : PySem.W.Frag} {mg : Str → Option Value} {base : Heap} {f : Addr} {fd : FuncData} (Fx : L2.Fun K "need_letter" "need_letter" (topS 13) f fd) (Cletters_of : Cg P w K mg base 1 "letters_of" (topS 9) Aletters_of Vletters_of) : FnG P w K mg base 2 f fd Aneed_letter (spF K 2 Vneed_letter) :=
  okF (k := 1) (O' := []) Fx scneed_letter rfl fun X _ _ _ _ _ _ _ _ hex hr hgd => by
    obtain ⟨cdv, L, A, outer, s, H, E, rfl, _⟩ := hex
    have hu := hr.units
    have hu1 := Nat.lt_of_le_of_lt (Nat.add_le_add_left (by decide : 1 ≤ 64) _) hu
    exact (ss_one (s_if (O := []) (O' := []) (t_notinA hu1 (b_var (pv 1)) (b_of_d (d_cg Cletters_of hr (by decide) hgd rfl (ad_cons (d_var (by decide) (pv 0)) ad_nil) (al_cons al_nil)))) (ss_one s_never) ss_nil))

abbrev Nletters_reached : List Str := ["lessers", "letter", "reached", "ahead", "lesser"]
abbrev Aletters_reached : List Str := ["lessers", "letter"]
theorem scletters_reached : FnScope Nletters_reached Aletters_reached (defScope (topS 7)) := ⟨rfl, rfl, rfl, by decide +kernel, rfl, by decide +kernel, by decide +kernel⟩
theorem okletters_reached {P : Program} {w : World} {K : PySem.W.Frag} {mg : Str → Option Value} {base : Heap} {f : Addr} {fd : FuncData} (Fx : L2.Fun K "letters_reached" "letters_reached" (topS 7) f fd) (m_list : mg "list" = none) (m_tuple : mg "tuple" = none) (m_sorted : mg "sorted" = none) : FnG P w K mg base 1 f fd Aletters_reached (spF K 2 Vletters_reached) :=
  okF (k := 0) (O' := [2, 3]) Fx scletters_reached rfl fun X _ _ _ _ _ _ _ _ hex hr hgd => by
    obtain ⟨cdv, L, A, outer, s, H, E, rfl, _⟩ := hex
    have hu := hr.units
    have hu1 := Nat.lt_of_le_of_lt (Nat.add_le_add_left (by decide : 1 ≤ 64) _) hu
    exact (ss_cons (s_setN (O := []) (O' := [2]) (ps_set (i := 2) scletters_reached.nd rfl (by first | exact .inl rfl | exact .inr rfl) n_dnil)) (ss_cons (s_setN (O := [2]) (O' := [2, 3]) (ps_set (i := 3) scletters_reached.nd rfl (by first | exact .inl rfl | exact .inr rfl) (n_callT (call_lstA rfl) cn_toLst rfl m_list rfl (ab_cons (b_of_d (d_ixA hu1 (b_var (pv 0)) (b_var (pv 1)))) ab_nil)))) (ss_cons (s_while (L := []) (O := [2, 3]) FUEL PassesOwn.never (t_tru (b_var (pv 3))) (ss_cons (s_pop (O := [2, 3]) (O' := [2, 3]) (i := 3) (j := 4) (ps_set (i := 4) scletters_reached.nd rfl (by first | exact .inl rfl | exact .inr rfl) (pe_bm0 PySem.F.plainAttrs_list PySem.F.slot_list_pop PySem.F.type_list_pop mt_pop (pv 3)))) (ss_one (s_if (O := [2, 3]) (O' := [2, 3]) (t_notinA hu1 (b_var (pv 4)) (b_var (pv 2))) (ss_cons (s_dput (O := [2, 3]) (ps_dput hu1 (pv 2) (b_var (pv 4)) d_bl rfl)) (ss_one (s_extA (O := [2, 3]) (i := 3) (pe_bm PySem.F.plainAttrs_list PySem.F.slot_list_extend PySem.F.type_list_extend mt_extA (pv 3) (pa_cons (b_of_d (d_ixA hu1 (b_var (pv 0)) (b_var (pv 4)))) pa_nil))))) ss_nil)))) (ss_one (s_retO (O := [2, 3]) (O' := [2, 3]) (d_callT call_tupA cd_toTup rfl m_tuple rfl (ab_cons (b_of_n (n_callB call_sortedA cn_sortedA rfl m_sorted rfl (ab_cons (b_of_n (n_callT (call_lstA rfl) cn_toLst rfl m_list rfl (ab_cons (b_var (pv 2)) ab_nil))) ab_nil))) ab_nil)))))))

abbrev Nletters_below : List Str := ["book", "letter"]
abbrev Aletters_below : List Str := ["book", "letter"]
theorem scletters_below : FnScope Nletters_below Aletters_below (defScope (topS 10)) := ⟨rfl, rfl, rfl, by decide +kernel, rfl, by decide +kernel, by decide +kernel⟩
theorem okletters_below {P : Program} {w : World} {K : PySem.W.Frag} {mg : Str → Option Value} {base : Heap} {f : Addr} {fd : FuncData} (Fx : L2.Fun K "letters_below" "letters_below" (topS 10) f fd) (Cneed_letter : Cg P w K mg base 2 "need_letter" (topS 13) Aneed_letter Vneed_letter) (Cletters_reached : Cg P w K mg base 1 "letters_reached" (topS 7) Aletters_reached Vletters_reached) (m_dict : mg "dict" = none) : FnG P w K mg base 3 f fd Aletters_below (spF K 2 Vletters_below) :=
  okF (k := 2) (O' := []) Fx scletters_below rfl fun X _ _ _ _ _ _ _ _ hex hr hgd => by
    obtain ⟨cdv, L, A, outer, s, H, E, rfl, _⟩ := hex
    have hu := hr.units
    have hu1 := Nat.lt_of_le_of_lt (Nat.add_le_add_left (by decide : 1 ≤ 64) _) hu
    exact (ss_cons (s_expr (O := []) (b_of_d (d_cg Cneed_letter hr (by decide) hgd rfl (ad_cons (d_var (by decide) (pv 0)) (ad_cons (d_var (by decide) (pv 1)) ad_nil)) (al_cons (al_cons al_nil))))) (ss_one (s_retO (O := []) (O' := []) (d_cg Cletters_reached hr (by decide) hgd rfl (ad_cons (d_of_n (n_callT (call_dctA rfl) cn_toDct rfl m_dict rfl (ab_cons (b_of_d (d_ixA hu1 (b_var (pv 0)) (b_of_d d_int))) ab_nil))) (ad_cons (d_var (by decide) (pv 1)) ad_nil)) (al_cons (al_cons al_nil))))))

abbrev Ndoes_fall : List Str := ["book", "rule"]
abbrev Adoes_fall : List Str := ["book", "rule"]
theorem scdoes_fall : FnScope Ndoes_fall Adoes_fall (defScope (topS 21)) := ⟨rfl, rfl, rfl, by decide +kernel, rfl, by decide +kernel, by decide +kernel⟩
theorem okdoes_fall {P : Program} {w : World} {K : PySem.W.Frag} {mg : Str → Option Value} {base : Heap} {f : Addr} {fd : FuncData} (Fx : L2.Fun K "does_fall" "does_fall" (topS 21) f fd) (Cletters_below : Cg P w K mg base 3 "letters_below" (topS 10) Aletters_below Vletters_below) : FnG P w K mg base 4 f fd Adoes_fall (spF K 2 Vdoes_fall) :=
  okF (k := 3) (O' := []) Fx scdoes_fall rfl fun X _ _ _ _ _ _ _ _ hex hr hgd => by
    obtain ⟨cdv, L, A, outer, s, H, E, rfl, _⟩ := hex
    have hu := hr.units
    have hu1 := Nat.lt_of_le_of_lt (Nat.add_le_add_left (by decide : 1 ≤ 64) _) hu
    exact (ss_one (s_retO (O := []) (O' := []) (d_or (d_ne hu (b_of_d (d_ixA hu1 (b_var (pv 1)) (b_of_d d_int))) (b_of_d d_str)) (d_or (d_eq hu (b_of_d (d_ixA hu1 (b_var (pv 1)) (b_of_d d_int))) (b_of_d d_str)) (d_one (d_inA hu1 (b_of_d (d_ixA hu1 (b_var (pv 1)) (b_of_d d_int))) (b_of_d (d_cg Cletters_below hr (by decide) hgd rfl (ad_cons (d_var (by decide) (pv 0)) (ad_cons (d_ixA hu1 (b_var (pv 1)) (b_of_d d_int)) ad_nil)) (al_cons (al_cons al_nil))))))))))

abbrev Nneed_falling : List Str := ["book", "r", "rule"]
abbrev Aneed_falling : List Str := ["book"]
theorem scneed_falling : FnScope Nneed_falling Aneed_falling (defScope (topS 20)) := ⟨rfl, rfl, rfl, by decide +kernel, rfl, by decide +kernel, by decide +kernel⟩
theorem okneed_falling {P : Program} {w : World} {K : PySem.W.Frag} {mg : Str → Option Value} {base : Heap} {f : Addr} {fd : FuncData} (Fx : L2.Fun K "need_falling" "need_falling" (topS 20) f fd) (Cdoes_fall : Cg P w K mg base 4 "does_fall" (topS 21) Adoes_fall Vdoes_fall) (m_enumerate : mg "enumerate" = none) : FnG P w K mg base 5 f fd Aneed_falling (spF K 1 Vneed_falling) :=
  okF (k := 4) (O' := []) Fx scneed_falling rfl fun X _ _ _ _ _ _ _ _ hex hr hgd => by
    obtain ⟨cdv, L, A, outer, s, H, E, rfl, _⟩ := hex
    have hu := hr.units
    have hu1 := Nat.lt_of_le_of_lt (Nat.add_le_add_left (by decide : 1 ≤ 64) _) hu
    exact (ss_one (s_for (L := []) (O := []) PassesOwn.never rfl (i_enum (pi_enum rfl m_enumerate (pa_cons (d_ixA hu1 (b_var (pv 0)) (b_of_d d_int)) pa_nil)) (pi_enumT rfl m_enumerate (pa_cons (d_ixA hu1 (b_var (pv 0)) (b_of_d d_int)) pa_nil)) (pi_enumS rfl m_enumerate (pa_cons (d_ixA hu1 (b_var (pv 0)) (b_of_d d_int)) pa_nil))) (g_pair rfl rfl rfl (pgs_cons (g_name (pg_name (i := 1) scneed_falling.nd rfl (by first | exact .inl rfl | exact .inr rfl))) (pgs_cons (g_name (pg_name (i := 2) scneed_falling.nd rfl (by first | exact .inl rfl | exact .inr rfl))) pgs_nil))) (ss_one (s_if (O := []) (O' := []) (t_not (t_tru (b_of_d (d_cg Cdoes_fall hr (by decide) hgd rfl (ad_cons (d_var (by decide) (pv 0)) (ad_cons (d_var (by decide) (pv 2)) ad_nil)) (al_cons (al_cons al_nil)))))) (ss_one s_never) ss_nil))))

abbrev Nplaces : List Str := ["many", "side", "rising"]
abbrev Aplaces : List Str := ["many", "side"]
theorem scplaces : FnScope Nplaces Aplaces (defScope (topS 24)) := ⟨rfl, rfl, rfl, by decide +kernel, rfl, by decide +kernel, by decide +kernel⟩
theorem okplaces {P : Program} {w : World} {K : PySem.W.Frag} {mg : Str → Option Value} {base : Heap} {f : Addr} {fd : FuncData} (Fx : L2.Fun K "places" "places" (topS 24) f fd) (m_list : mg "list" = none) (m_range : mg "range" = none) : FnG P w K mg base 1 f fd Aplaces (spF K 2 Vplaces) :=
  okF (k := 0) (O' := []) Fx scplaces rfl fun X _ _ _ _ _ _ _ _ hex hr hgd => by
    obtain ⟨cdv, L, A, outer, s, H, E, rfl, _⟩ := hex
    have hu := hr.units
    have hu1 := Nat.lt_of_le_of_lt (Nat.add_le_add_left (by decide : 1 ≤ 64) _) hu
    exact (ss_cons (s_set (O := []) (O' := []) (ps_set (i := 2) scplaces.nd rfl (by first | exact .inl rfl | exact .inr rfl) (d_of_n (n_range1 rfl rfl m_list rfl m_range (b_var (pv 0)))))) (ss_one (s_retO (O := []) (O' := []) (d_if (t_eq hu (b_var (pv 1)) (b_of_d d_str)) (d_var (by decide) (pv 2)) (d_of_n (n_rev (b_var (pv 2))))))))

abbrev Nresults_of : List Str := ["book", "rule", "x", "word", "n", "many", "lessers", "k", "letter"]
abbrev Aresults_of : List Str := ["book", "rule", "x"]
theorem scresults_of : FnScope Nresults_of Aresults_of (defScope (topS 23)) := ⟨rfl, rfl, rfl, by decide +kernel, rfl, by decide +kernel, by decide +kernel⟩
theorem okresults_of {P : Program} {w : World} {K : PySem.W.Frag} {mg : Str → Option Value} {base : Heap} {f : Addr} {fd : FuncData} (Fx : L2.Fun K "results_of" "results_of" (topS 23) f fd) (Cplaces : Cg P w K mg base 1 "places" (topS 24) Aplaces Vplaces) (m_len : mg "len" = none) (m_dict : mg "dict" = none) : FnG P w K mg base 2 f fd Aresults_of (spF K 3 Vresults_of) :=
  okF (k := 1) (O' := []) Fx scresults_of rfl fun X _ _ _ _ _ _ _ _ hex hr hgd => by
    obtain ⟨cdv, L, A, outer, s, H, E, rfl, _⟩ := hex
    have hu := hr.units
    have hu1 := Nat.lt_of_le_of_lt (Nat.add_le_add_left (by decide : 1 ≤ 64) _) hu
    exact (ss_cons (s_set (O := []) (O' := []) (ps_set (i := 3) scresults_of.nd rfl (by first | exact .inl rfl | exact .inr rfl) (d_ixA hu1 (b_var (pv 1)) (b_of_d d_int)))) (ss_cons (s_if (O := []) (O' := []) (t_eq hu (b_var (pv 3)) (b_of_d d_str)) (ss_cons (s_set (O := []) (O' := []) (ps_set (i := 4) scresults_of.nd rfl (by first | exact .inl rfl | exact .inr rfl) (d_ixA hu1 (b_var (pv 1)) (b_of_d d_int)))) (ss_one (s_retO (O := []) (O' := []) (d_of_n (n_lc (i := 7) rfl scresults_of.nd (i_seq (d_cg Cplaces hr (by decide) hgd rfl (ad_cons (d_addA (b_of_d (d_sub (b_of_d (d_callB call_lenA cd_len rfl m_len PySem.boot_len (ab_cons (b_var (pv 2)) ab_nil))) (b_var (pv 4)))) (b_of_d d_int)) (ad_cons (d_ixA hu1 (b_var (pv 1)) (b_of_d d_int)) ad_nil)) (al_cons (al_cons al_nil))) (pi_list (d_cg Cplaces hr (by decide) hgd rfl (ad_cons (d_addA (b_of_d (d_sub (b_of_d (d_callB call_lenA cd_len rfl m_len PySem.boot_len (ab_cons (b_var (pv 2)) ab_nil))) (b_var (pv 4)))) (b_of_d d_int)) (ad_cons (d_ixA hu1 (b_var (pv 1)) (b_of_d d_int)) ad_nil)) (al_cons (al_cons al_nil)))) (pi_tup (d_cg Cplaces hr (by decide) hgd rfl (ad_cons (d_addA (b_of_d (d_sub (b_of_d (d_callB call_lenA cd_len rfl m_len PySem.boot_len (ab_cons (b_var (pv 2)) ab_nil))) (b_var (pv 4)))) (b_of_d d_int)) (ad_cons (d_ixA hu1 (b_var (pv 1)) (b_of_d d_int)) ad_nil)) (al_cons (al_cons al_nil)))) (pi_str (d_cg Cplaces hr (by decide) hgd rfl (ad_cons (d_addA (b_of_d (d_sub (b_of_d (d_callB call_lenA cd_len rfl m_len PySem.boot_len (ab_cons (b_var (pv 2)) ab_nil))) (b_var (pv 4)))) (b_of_d d_int)) (ad_cons (d_ixA hu1 (b_var (pv 1)) (b_of_d d_int)) ad_nil)) (al_cons (al_cons al_nil)))) (pi_keys (d_cg Cplaces hr (by decide) hgd rfl (ad_cons (d_addA (b_of_d (d_sub (b_of_d (d_callB call_lenA cd_len rfl m_len PySem.boot_len (ab_cons (b_var (pv 2)) ab_nil))) (b_var (pv 4)))) (b_of_d d_int)) (ad_cons (d_ixA hu1 (b_var (pv 1)) (b_of_d d_int)) ad_nil)) (al_cons (al_cons al_nil))))) (own := [("k", 7)]) (blkOk_by (by rfl)) (fun _ _ _ _ _ => (pg_name (i := 7) scresults_of.nd rfl (by first | exact .inl rfl | exact .inr rfl))) (fun _ _ _ _ _ => ts_nil) (fun _ _ _ _ _ => (d_addA (b_of_d (d_slice (b_var (pv 2)) o_none (o_some (b_var (pv 7))))) (b_of_d (d_slice (b_var (pv 2)) (o_some (b_of_d (d_addA (b_var (pv 7)) (b_var (pv 4))))) o_none))))))))) ss_nil) (ss_cons (s_if (O := []) (O' := []) (t_eq hu (b_var (pv 3)) (b_of_d d_str)) (ss_cons (s_set (O := []) (O' := []) (ps_set (i := 5) scresults_of.nd rfl (by first | exact .inl rfl | exact .inr rfl) (d_div (b_of_d (d_callB call_lenA cd_len rfl m_len PySem.boot_len (ab_cons (b_var (pv 2)) ab_nil))) (b_of_d d_int)))) (ss_one (s_retO (O := []) (O' := []) (d_of_n (n_lst (ad_cons (d_if (t_eq hu (b_of_d (d_ixA hu1 (b_var (pv 1)) (b_of_d d_int))) (b_of_d d_str)) (d_slice (b_var (pv 2)) o_none (o_some (b_var (pv 5)))) (d_slice (b_var (pv 2)) (o_some (b_of_d (d_sub (b_of_d (d_callB call_lenA cd_len rfl m_len PySem.boot_len (ab_cons (b_var (pv 2)) ab_nil))) (b_var (pv 5))))) o_none)) ad_nil)))))) ss_nil) (ss_cons (s_if (O := []) (O' := []) (t_eq hu (b_var (pv 3)) (b_of_d d_str)) (ss_one (s_retO (O := []) (O' := []) (d_of_n (n_lst (ad_cons d_str ad_nil))))) ss_nil) (ss_cons (s_if (O := []) (O' := []) (t_eq hu (b_var (pv 3)) (b_of_d d_str)) (ss_cons (s_set (O := []) (O' := []) (ps_set (i := 6) scresults_of.nd rfl (by first | exact .inl rfl | exact .inr rfl) (d_of_n (n_callT (call_dctA rfl) cn_toDct rfl m_dict rfl (ab_cons (b_of_d (d_ixA hu1 (b_var (pv 0)) (b_of_d d_int))) ab_nil))))) (ss_one (s_retO (O := []) (O' := []) (d_of_n (n_lc2 (i := 7) (i1 := 8) rfl scresults_of.nd (i_seq (d_cg Cplaces hr (by decide) hgd rfl (ad_cons (d_callB call_lenA cd_len rfl m_len PySem.boot_len (ab_cons (b_var (pv 2)) ab_nil)) (ad_cons (d_ixA hu1 (b_var (pv 1)) (b_of_d d_int)) ad_nil)) (al_cons (al_cons al_nil))) (pi_list (d_cg Cplaces hr (by decide) hgd rfl (ad_cons (d_callB call_lenA cd_len rfl m_len PySem.boot_len (ab_cons (b_var (pv 2)) ab_nil)) (ad_cons (d_ixA hu1 (b_var (pv 1)) (b_of_d d_int)) ad_nil)) (al_cons (al_cons al_nil)))) (pi_tup (d_cg Cplaces hr (by decide) hgd rfl (ad_cons (d_callB call_lenA cd_len rfl m_len PySem.boot_len (ab_cons (b_var (pv 2)) ab_nil)) (ad_cons (d_ixA hu1 (b_var (pv 1)) (b_of_d d_int)) ad_nil)) (al_cons (al_cons al_nil)))) (pi_str (d_cg Cplaces hr (by decide) hgd rfl (ad_cons (d_callB call_lenA cd_len rfl m_len PySem.boot_len (ab_cons (b_var (pv 2)) ab_nil)) (ad_cons (d_ixA hu1 (b_var (pv 1)) (b_of_d d_int)) ad_nil)) (al_cons (al_cons al_nil)))) (pi_keys (d_cg Cplaces hr (by decide) hgd rfl (ad_cons (d_callB call_lenA cd_len rfl m_len PySem.boot_len (ab_cons (b_var (pv 2)) ab_nil)) (ad_cons (d_ixA hu1 (b_var (pv 1)) (b_of_d d_int)) ad_nil)) (al_cons (al_cons al_nil))))) (own := [("k", 7), ("letter", 8)]) (blkOk_by (by rfl)) (fun _ _ _ _ _ => (pg_name (i := 7) scresults_of.nd rfl (by first | exact .inl rfl | exact .inr rfl))) (fun _ _ _ _ _ => (i_seq (d_ixA hu1 (b_var (pv 6)) (b_of_d (d_ixA hu1 (b_var (pv 2)) (b_var (pv 7))))) (pi_list (d_ixA hu1 (b_var (pv 6)) (b_of_d (d_ixA hu1 (b_var (pv 2)) (b_var (pv 7)))))) (pi_tup (d_ixA hu1 (b_var (pv 6)) (b_of_d (d_ixA hu1 (b_var (pv 2)) (b_var (pv 7)))))) (pi_str (d_ixA hu1 (b_var (pv 6)) (b_of_d (d_ixA hu1 (b_var (pv 2)) (b_var (pv 7)))))) (pi_keys (d_ixA hu1 (b_var (pv 6)) (b_of_d (d_ixA hu1 (b_var (pv 2)) (b_var (pv 7)))))))) (fun _ _ _ _ _ => (pg_name (i := 8) scresults_of.nd rfl (by first | exact .inl rfl | exact .inr rfl))) (fun _ _ _ _ _ => ts_nil) (fun _ _ _ _ _ => (d_addA (b_of_d (d_addA (b_of_d (d_slice (b_var (pv 2)) o_none (o_some (b_var (pv 7))))) (b_var (pv 8)))) (b_of_d (d_slice (b_var (pv 2)) (o_some (b_of_d (d_addA (b_var (pv 7)) (b_of_d d_int)))) o_none))))))))) ss_nil) (ss_one (s_retO (O := []) (O' := []) (d_of_n (n_lc (i := 7) rfl scresults_of.nd (i_seq (d_cg Cplaces hr (by decide) hgd rfl (ad_cons (d_callB call_lenA cd_len rfl m_len PySem.boot_len (ab_cons (b_var (pv 2)) ab_nil)) (ad_cons (d_ixA hu1 (b_var (pv 1)) (b_of_d d_int)) ad_nil)) (al_cons (al_cons al_nil))) (pi_list (d_cg Cplaces hr (by decide) hgd rfl (ad_cons (d_callB call_lenA cd_len rfl m_len PySem.boot_len (ab_cons (b_var (pv 2)) ab_nil)) (ad_cons (d_ixA hu1 (b_var (pv 1)) (b_of_d d_int)) ad_nil)) (al_cons (al_cons al_nil)))) (pi_tup (d_cg Cplaces hr (by decide) hgd rfl (ad_cons (d_callB call_lenA cd_len rfl m_len PySem.boot_len (ab_cons (b_var (pv 2)) ab_nil)) (ad_cons (d_ixA hu1 (b_var (pv 1)) (b_of_d d_int)) ad_nil)) (al_cons (al_cons al_nil)))) (pi_str (d_cg Cplaces hr (by decide) hgd rfl (ad_cons (d_callB call_lenA cd_len rfl m_len PySem.boot_len (ab_cons (b_var (pv 2)) ab_nil)) (ad_cons (d_ixA hu1 (b_var (pv 1)) (b_of_d d_int)) ad_nil)) (al_cons (al_cons al_nil)))) (pi_keys (d_cg Cplaces hr (by decide) hgd rfl (ad_cons (d_callB call_lenA cd_len rfl m_len PySem.boot_len (ab_cons (b_var (pv 2)) ab_nil)) (ad_cons (d_ixA hu1 (b_var (pv 1)) (b_of_d d_int)) ad_nil)) (al_cons (al_cons al_nil))))) (own := [("k", 7)]) (blkOk_by (by rfl)) (fun _ _ _ _ _ => (pg_name (i := 7) scresults_of.nd rfl (by first | exact .inl rfl | exact .inr rfl))) (fun _ _ _ _ _ => (ts_one (t_eq hu (b_of_d (d_ixA hu1 (b_var (pv 2)) (b_var (pv 7)))) (b_of_d (d_ixA hu1 (b_var (pv 1)) (b_of_d d_int)))))) (fun _ _ _ _ _ => (d_addA (b_of_d (d_addA (b_of_d (d_slice (b_var (pv 2)) o_none (o_some (b_var (pv 7))))) (b_of_d (d_ixA hu1 (b_var (pv 1)) (b_of_d d_int))))) (b_of_d (d_slice (b_var (pv 2)) (o_some (b_of_d (d_addA (b_var (pv 7)) (b_of_d d_int)))) o_none)))))))))))))

abbrev Nled_steps : List Str := ["book", "x", "first", "order", "rule_of", "k", "step"]
abbrev Aled_steps : List Str := ["book", "x", "first"]
theorem scled_steps : FnScope Nled_steps Aled_steps (defScope (topS 22)) := ⟨rfl, rfl, rfl, by decide +kernel, rfl, by decide +kernel, by decide +kernel⟩
theorem okled_steps {P : Program} {w : World} {K : PySem.W.Frag} {mg : Str → Option Value} {base : Heap} {f : Addr} {fd : FuncData} (Fx : L2.Fun K "led_steps" "led_steps" (topS 22) f fd) (Cresults_of : Cg P w K mg base 2 "results_of" (topS 23) Aresults_of Vresults_of) (m_list : mg "list" = none) (m_range : mg "range" = none) (m_len : mg "len" = none) (m_tuple : mg "tuple" = none) : FnG P w K mg base 3 f fd Aled_steps (spF K 3 Vled_steps) :=
  okF (k := 2) (O' := [4]) Fx scled_steps rfl fun X _ _ _ _ _ _ _ _ hex hr hgd => by
    obtain ⟨cdv, L, A, outer, s, H, E, rfl, _⟩ := hex
    have hu := hr.units
    have hu1 := Nat.lt_of_le_of_lt (Nat.add_le_add_left (by decide : 1 ≤ 64) _) hu
    exact (ss_cons (s_set (O := []) (O' := []) (ps_set (i := 3) scled_steps.nd rfl (by first | exact .inl rfl | exact .inr rfl) (d_of_n (n_cat (b_of_n (n_range2 rfl rfl m_list rfl m_range (b_var (pv 2)) (b_of_d (d_callB call_lenA cd_len rfl m_len PySem.boot_len (ab_cons (b_of_d (d_ixA hu1 (b_var (pv 0)) (b_of_d d_int))) ab_nil))) (prg_2 rfl m_range (b_var (pv 2)) (b_of_d (d_callB call_lenA cd_len rfl m_len PySem.boot_len (ab_cons (b_of_d (d_ixA hu1 (b_var (pv 0)) (b_of_d d_int))) ab_nil)))))) (b_of_n (n_range1 rfl rfl m_list rfl m_range (b_var (pv 2)))))))) (ss_cons (s_setN (O := []) (O' := [4]) (ps_set (i := 4) scled_steps.nd rfl (by first | exact .inl rfl | exact .inr rfl) n_dnil)) (ss_cons (s_for (L := []) (O := [4]) PassesOwn.never rfl (i_seq (d_var (by decide) (pv 3)) (pi_list (d_var (by decide) (pv 3))) (pi_tup (d_var (by decide) (pv 3))) (pi_str (d_var (by decide) (pv 3))) (pi_keys (d_var (by decide) (pv 3)))) (g_name (pg_name (i := 5) scled_steps.nd rfl (by first | exact .inl rfl | exact .inr rfl))) (ss_one (s_for (L := [4]) (O := [4]) PassesOwn.never rfl (i_seq (d_cg Cresults_of hr (by decide) hgd rfl (ad_cons (d_var (by decide) (pv 0)) (ad_cons (d_ixA hu1 (b_of_d (d_ixA hu1 (b_var (pv 0)) (b_of_d d_int))) (b_var (pv 5))) (ad_cons (d_var (by decide) (pv 1)) ad_nil))) (al_cons (al_cons (al_cons al_nil)))) (pi_list (d_cg Cresults_of hr (by decide) hgd rfl (ad_cons (d_var (by decide) (pv 0)) (ad_cons (d_ixA hu1 (b_of_d (d_ixA hu1 (b_var (pv 0)) (b_of_d d_int))) (b_var (pv 5))) (ad_cons (d_var (by decide) (pv 1)) ad_nil))) (al_cons (al_cons (al_cons al_nil))))) (pi_tup (d_cg Cresults_of hr (by decide) hgd rfl (ad_cons (d_var (by decide) (pv 0)) (ad_cons (d_ixA hu1 (b_of_d (d_ixA hu1 (b_var (pv 0)) (b_of_d d_int))) (b_var (pv 5))) (ad_cons (d_var (by decide) (pv 1)) ad_nil))) (al_cons (al_cons (al_cons al_nil))))) (pi_str (d_cg Cresults_of hr (by decide) hgd rfl (ad_cons (d_var (by decide) (pv 0)) (ad_cons (d_ixA hu1 (b_of_d (d_ixA hu1 (b_var (pv 0)) (b_of_d d_int))) (b_var (pv 5))) (ad_cons (d_var (by decide) (pv 1)) ad_nil))) (al_cons (al_cons (al_cons al_nil))))) (pi_keys (d_cg Cresults_of hr (by decide) hgd rfl (ad_cons (d_var (by decide) (pv 0)) (ad_cons (d_ixA hu1 (b_of_d (d_ixA hu1 (b_var (pv 0)) (b_of_d d_int))) (b_var (pv 5))) (ad_cons (d_var (by decide) (pv 1)) ad_nil))) (al_cons (al_cons (al_cons al_nil)))))) (g_name (pg_name (i := 6) scled_steps.nd rfl (by first | exact .inl rfl | exact .inr rfl))) (ss_one (s_if (O := [4]) (O' := [4]) (t_bool (w_and (t_ne hu (b_var (pv 6)) (b_var (pv 1))) (w_and1 (t_notinA hu1 (b_var (pv 6)) (b_var (pv 4)))))) (ss_one (s_dput (O := [4]) (ps_dput hu1 (pv 4) (b_var (pv 6)) (d_var (by decide) (pv 5)) rfl))) ss_nil))))) (ss_one (s_retO (O := [4]) (O' := [4]) (d_callT call_tupA cd_toTup rfl m_tuple rfl (ab_cons (b_of_n (n_lcP (i := 6) (j := 5) rfl scled_steps.nd (i_items (pi_items (d_var (by decide) (pv 4)))) (own := [("step", 6), ("k", 5)]) (blkOk_by (by rfl)) (fun _ _ _ _ _ => pg_tup rfl (pgs_cons (pg_name (i := 6) scled_steps.nd rfl (by first | exact .inl rfl | exact .inr rfl)) (pgs_cons (pg_name (i := 5) scled_steps.nd rfl (by first | exact .inl rfl | exact .inr rfl)) pgs_nil))) (fun _ _ _ _ _ => ts_nil) (fun _ _ _ _ _ => (d_tup (ad_cons (d_var (by decide) (pv 6)) (ad_cons (d_var (by decide) (pv 5)) ad_nil)))))) ab_nil)))))))

abbrev Nranking_from : List Str := ["book", "x", "rule", "manner", "ranking", "begun", "left", "thing", "led_by", "steps"]
abbrev Aranking_from : List Str := ["book", "x", "rule", "manner"]
theorem scranking_from : FnScope Nranking_from Aranking_from (defScope (topS 27)) := ⟨rfl, rfl, rfl, by decide +kernel, rfl, by decide +kernel, by decide +kernel⟩
theorem okranking_from {P : Program} {w : World} {K : PySem.W.Frag} {mg : Str → Option Value} {base : Heap} {f : Addr} {fd : FuncData} (Fx : L2.Fun K "ranking_from" "ranking_from" (topS 27) f fd) (Cled_steps : Cg P w K mg base 3 "led_steps" (topS 22) Aled_steps Vled_steps) (m_tuple : mg "tuple" = none) (m_list : mg "list" = none) : FnG P w K mg base 4 f fd Aranking_from (spF K 4 Vranking_from) :=
  okF (k := 3) (O' := [4, 5, 6]) Fx scranking_from rfl fun X _ _ _ _ _ _ _ _ hex hr hgd => by
    obtain ⟨cdv, L, A, outer, s, H, E, rfl, _⟩ := hex
    have hu := hr.units
    have hu1 := Nat.lt_of_le_of_lt (Nat.add_le_add_left (by decide : 1 ≤ 64) _) hu
    exact (ss_cons (s_setN (O := []) (O' := [4]) (ps_set (i := 4) scranking_from.nd rfl (by first | exact .inl rfl | exact .inr rfl) n_dnil)) (ss_cons (s_setN (O := [4]) (O' := [4, 5]) (ps_set (i := 5) scranking_from.nd rfl (by first | exact .inl rfl | exact .inr rfl) n_dnil)) (ss_cons (s_setN (O := [4, 5]) (O' := [4, 5, 6]) (ps_set (i := 6) scranking_from.nd rfl (by first | exact .inl rfl | exact .inr rfl) (n_lst (ad_cons (d_tup (ad_cons (d_var (by decide) (pv 1)) (ad_cons (d_var (by decide) (pv 2)) ad_nil))) ad_nil)))) (ss_cons (s_while (L := []) (O := [4, 5, 6]) FUEL PassesOwn.never (t_tru (b_var (pv 6))) (ss_cons (s_unpX (O := [4, 5, 6]) (O' := [4, 5, 6]) (ps_asg (x_pop (O := [4, 5, 6]) (i := 6) (pe_bm0 PySem.F.plainAttrs_list PySem.F.slot_list_pop PySem.F.type_list_pop mt_pop (pv 6))) (pg_unl rfl (pgs_cons (pg_name (i := 7) scranking_from.nd rfl (by first | exact .inl rfl | exact .inr rfl)) (pgs_cons (pg_name (i := 8) scranking_from.nd rfl (by first | exact .inl rfl | exact .inr rfl)) pgs_nil)))) (ps_asg (x_pop (O := [4, 5, 6]) (i := 6) (pe_bm0 PySem.F.plainAttrs_list PySem.F.slot_list_pop PySem.F.type_list_pop mt_pop (pv 6))) (pg_tup rfl (pgs_cons (pg_name (i := 7) scranking_from.nd rfl (by first | exact .inl rfl | exact .inr rfl)) (pgs_cons (pg_name (i := 8) scranking_from.nd rfl (by first | exact .inl rfl | exact .inr rfl)) pgs_nil))))) (ss_one (s_if (O := [4, 5, 6]) (O' := [4, 5, 6]) (t_inA hu1 (b_var (pv 7)) (b_var (pv 5))) (ss_one (s_dput (O := [4, 5, 6]) (ps_dput hu1 (pv 4) (b_var (pv 7)) d_bl rfl))) (ss_cons (s_dput (O := [4, 5, 6]) (ps_dput hu1 (pv 5) (b_var (pv 7)) d_bl rfl)) (ss_cons (s_app (O := [4, 5, 6]) (i := 6) (pe_bm PySem.F.plainAttrs_list PySem.F.slot_list_append PySem.F.type_list_append mt_append (pv 6) (pa_cons (d_tup (ad_cons (d_var (by decide) (pv 7)) (ad_cons (d_var (by decide) (pv 8)) ad_nil))) pa_nil))) (ss_cons (s_set (O := [4, 5, 6]) (O' := [4, 5, 6]) (ps_set (i := 9) scranking_from.nd rfl (by first | exact .inl rfl | exact .inr rfl) (d_cg Cled_steps hr (by decide) hgd rfl (ad_cons (d_var (by decide) (pv 0)) (ad_cons (d_var (by decide) (pv 7)) (ad_cons (d_if (t_eq hu (b_var (pv 3)) (b_of_d d_str)) (d_var (by decide) (pv 8)) d_int) ad_nil))) (al_cons (al_cons (al_cons al_nil)))))) (ss_one (s_extA (O := [4, 5, 6]) (i := 6) (pe_bm PySem.F.plainAttrs_list PySem.F.slot_list_extend PySem.F.type_list_extend mt_extA (pv 6) (pa_cons (b_of_d (d_revA (b_var (pv 9)))) pa_nil))))))))))) (ss_one (s_retO (O := [4, 5, 6]) (O' := [4, 5, 6]) (d_callT call_tupA cd_toTup rfl m_tuple rfl (ab_cons (b_of_n (n_callT (call_lstA rfl) cn_toLst rfl m_list rfl (ab_cons (b_var (pv 4)) ab_nil))) ab_nil))))))))

abbrev Nranking_of : List Str := ["book", "x", "manner"]
abbrev Aranking_of : List Str := ["book", "x", "manner"]
theorem scranking_of : FnScope Nranking_of Aranking_of (defScope (topS 26)) := ⟨rfl, rfl, rfl, by decide +kernel, rfl, by decide +kernel, by decide +kernel⟩
theorem okranking_of {P : Program} {w : World} {K : PySem.W.Frag} {mg : Str → Option Value} {base : Heap} {f : Addr} {fd : FuncData} (Fx : L2.Fun K "ranking_of" "ranking_of" (topS 26) f fd) (Cneed_thing : Cg P w K mg base 3 "need_thing" (topS 14) Aneed_thing Vneed_thing) (Cneed_manner : Cg P w K mg base 1 "need_manner" (topS 19) Aneed_manner Vneed_manner) (Cneed_falling : Cg P w K mg base 5 "need_falling" (topS 20) Aneed_falling Vneed_falling) (Cranking_from : Cg P w K mg base 4 "ranking_from" (topS 27) Aranking_from Vranking_from) : FnG P w K mg base 6 f fd Aranking_of (spF K 3 Vranking_of) :=
  okF (k := 5) (O' := []) Fx scranking_of rfl fun X _ _ _ _ _ _ _ _ hex hr hgd => by
    obtain ⟨cdv, L, A, outer, s, H, E, rfl, _⟩ := hex
    have hu := hr.units
    have hu1 := Nat.lt_of_le_of_lt (Nat.add_le_add_left (by decide : 1 ≤ 64) _) hu
    exact (ss_cons (s_expr (O := []) (b_of_d (d_cg Cneed_thing hr (by decide) hgd rfl (ad_cons (d_var (by decide) (pv 0)) (ad_cons (d_var (by decide) (pv 1)) (ad_cons d_str ad_nil))) (al_cons (al_cons (al_cons al_nil)))))) (ss_cons (s_expr (O := []) (b_of_d (d_cg Cneed_manner hr (by decide) hgd rfl (ad_cons (d_var (by decide) (pv 2)) (ad_cons d_str ad_nil)) (al_cons (al_cons al_nil))))) (ss_cons (s_expr (O := []) (b_of_d (d_cg Cneed_falling hr (by decide) hgd rfl (ad_cons (d_var (by decide) (pv 0)) ad_nil) (al_cons al_nil)))) (ss_one (s_retO (O := []) (O' := []) (d_cg Cranking_from hr (by decide) hgd rfl (ad_cons (d_var (by decide) (pv 0)) (ad_cons (d_var (by decide) (pv 1)) (ad_cons d_int (ad_cons (d_var (by decide) (pv 2)) ad_nil)))) (al_cons (al_cons (al_cons (al_cons al_nil))))))))))

abbrev Ndowns_of : List Str := ["book", "lessers", "letter"]
abbrev Adowns_of : List Str := ["book"]
theorem scdowns_of : FnScope Ndowns_of Adowns_of (defScope (topS 15)) := ⟨rfl, rfl, rfl, by decide +kernel, rfl, by decide +kernel, by decide +kernel⟩
theorem okdowns_of {P : Program} {w : World} {K : PySem.W.Frag} {mg : Str → Option Value} {base : Heap} {f : Addr} {fd : FuncData} (Fx : L2.Fun K "downs_of" "downs_of" (topS 15) f fd) (Cletters_reached : Cg P w K mg base 1 "letters_reached" (topS 7) Aletters_reached Vletters_reached) (m_dict : mg "dict" = none) : FnG P w K mg base 2 f fd Adowns_of (spF K 1 Vdowns_of) :=
  okF (k := 1) (O' := []) Fx scdowns_of rfl fun X _ _ _ _ _ _ _ _ hex hr hgd => by
    obtain ⟨cdv, L, A, outer, s, H, E, rfl, _⟩ := hex
    have hu := hr.units
    have hu1 := Nat.lt_of_le_of_lt (Nat.add_le_add_left (by decide : 1 ≤ 64) _) hu
    exact (ss_cons (s_set (O := []) (O' := []) (ps_set (i := 1) scdowns_of.nd rfl (by first | exact .inl rfl | exact .inr rfl) (d_of_n (n_callT (call_dctA rfl) cn_toDct rfl m_dict rfl (ab_cons (b_of_d (d_ixA hu1 (b_var (pv 0)) (b_of_d d_int))) ab_nil))))) (ss_one (s_retO (O := []) (O' := []) (d_of_n (n_dc (i := 2) rfl scdowns_of.nd (i_seq (d_var (by decide) (pv 1)) (pi_list (d_var (by decide) (pv 1))) (pi_tup (d_var (by decide) (pv 1))) (pi_str (d_var (by decide) (pv 1))) (pi_keys (d_var (by decide) (pv 1)))) (own := [("letter", 2)]) (blkOk_by (by rfl)) (fun _ _ _ _ _ => (pg_name (i := 2) scdowns_of.nd rfl (by first | exact .inl rfl | exact .inr rfl))) (fun _ _ _ _ _ => ts_nil) (fun _ _ _ _ _ => (d_var (by decide) (pv 2))) (fun _ _ _ _ _ => (d_addA (b_of_d (d_tup (ad_cons (d_var (by decide) (pv 2)) ad_nil))) (b_of_d (d_cg Cletters_reached hr (by decide) hgd rfl (ad_cons (d_var (by decide) (pv 1)) (ad_cons (d_var (by decide) (pv 2)) ad_nil)) (al_cons (al_cons al_nil)))))))))))

abbrev Nthings_at_most : List Str := ["book", "x", "downs", "found", "letter", "thing", "lesser"]
abbrev Athings_at_most : List Str := ["book", "x"]
theorem scthings_at_most : FnScope Nthings_at_most Athings_at_most (defScope (topS 12)) := ⟨rfl, rfl, rfl, by decide +kernel, rfl, by decide +kernel, by decide +kernel⟩
theorem okthings_at_most {P : Program} {w : World} {K : PySem.W.Frag} {mg : Str → Option Value} {base : Heap} {f : Addr} {fd : FuncData} (Fx : L2.Fun K "things_at_most" "things_at_most" (topS 12) f fd) (Cneed_thing : Cg P w K mg base 3 "need_thing" (topS 14) Aneed_thing Vneed_thing) (Cdowns_of : Cg P w K mg base 2 "downs_of" (topS 15) Adowns_of Vdowns_of) (m_list : mg "list" = none) (m_tuple : mg "tuple" = none) (m_sorted : mg "sorted" = none) : FnG P w K mg base 4 f fd Athings_at_most (spF K 2 Vthings_at_most) :=
  okF (k := 3) (O' := [3]) Fx scthings_at_most rfl fun X _ _ _ _ _ _ _ _ hex hr hgd => by
    obtain ⟨cdv, L, A, outer, s, H, E, rfl, _⟩ := hex
    have hu := hr.units
    have hu1 := Nat.lt_of_le_of_lt (Nat.add_le_add_left (by decide : 1 ≤ 64) _) hu
    exact (ss_cons (s_expr (O := []) (b_of_d (d_cg Cneed_thing hr (by decide) hgd rfl (ad_cons (d_var (by decide) (pv 0)) (ad_cons (d_var (by decide) (pv 1)) (ad_cons d_str ad_nil))) (al_cons (al_cons (al_cons al_nil)))))) (ss_cons (s_set (O := []) (O' := []) (ps_set (i := 2) scthings_at_most.nd rfl (by first | exact .inl rfl | exact .inr rfl) (d_cg Cdowns_of hr (by decide) hgd rfl (ad_cons (d_var (by decide) (pv 0)) ad_nil) (al_cons al_nil)))) (ss_cons (s_setN (O := []) (O' := [3]) (ps_set (i := 3) scthings_at_most.nd rfl (by first | exact .inl rfl | exact .inr rfl) (n_disp [((fC (.str "")), (fC (.bl true)))] (pps_cons d_str d_bl pps_nil)))) (ss_cons (s_for (L := []) (O := [3]) PassesOwn.never rfl (i_seq (d_var (by decide) (pv 1)) (pi_list (d_var (by decide) (pv 1))) (pi_tup (d_var (by decide) (pv 1))) (pi_str (d_var (by decide) (pv 1))) (pi_keys (d_var (by decide) (pv 1)))) (g_name (pg_name (i := 4) scthings_at_most.nd rfl (by first | exact .inl rfl | exact .inr rfl))) (ss_one (s_for (L := [3]) (O := [3]) PassesOwn.never rfl (i_seq (d_of_n (n_callT (call_lstA rfl) cn_toLst rfl m_list rfl (ab_cons (b_var (pv 3)) ab_nil))) (pi_list (d_of_n (n_callT (call_lstA rfl) cn_toLst rfl m_list rfl (ab_cons (b_var (pv 3)) ab_nil)))) (pi_tup (d_of_n (n_callT (call_lstA rfl) cn_toLst rfl m_list rfl (ab_cons (b_var (pv 3)) ab_nil)))) (pi_str (d_of_n (n_callT (call_lstA rfl) cn_toLst rfl m_list rfl (ab_cons (b_var (pv 3)) ab_nil)))) (pi_keys (d_of_n (n_callT (call_lstA rfl) cn_toLst rfl m_list rfl (ab_cons (b_var (pv 3)) ab_nil))))) (g_name (pg_name (i := 5) scthings_at_most.nd rfl (by first | exact .inl rfl | exact .inr rfl))) (ss_one (s_for (L := [3]) (O := [3]) PassesOwn.never rfl (i_seq (d_ixA hu1 (b_var (pv 2)) (b_var (pv 4))) (pi_list (d_ixA hu1 (b_var (pv 2)) (b_var (pv 4)))) (pi_tup (d_ixA hu1 (b_var (pv 2)) (b_var (pv 4)))) (pi_str (d_ixA hu1 (b_var (pv 2)) (b_var (pv 4)))) (pi_keys (d_ixA hu1 (b_var (pv 2)) (b_var (pv 4))))) (g_name (pg_name (i := 6) scthings_at_most.nd rfl (by first | exact .inl rfl | exact .inr rfl))) (ss_one (s_dput (O := [3]) (ps_dput hu1 (pv 3) (b_of_d (d_addA (b_var (pv 5)) (b_var (pv 6)))) d_bl rfl)))))))) (ss_one (s_retO (O := [3]) (O' := [3]) (d_callT call_tupA cd_toTup rfl m_tuple rfl (ab_cons (b_of_n (n_callB call_sortedA cn_sortedA rfl m_sorted rfl (ab_cons (b_of_n (n_callT (call_lstA rfl) cn_toLst rfl m_list rfl (ab_cons (b_var (pv 3)) ab_nil))) ab_nil))) ab_nil))))))))

abbrev Ncomes_from : List Str := ["downs", "u", "v", "place", "letter"]
abbrev Acomes_from : List Str := ["downs", "u", "v"]
theorem sccomes_from : FnScope Ncomes_from Acomes_from (defScope (topS 16)) := ⟨rfl, rfl, rfl, by decide +kernel, rfl, by decide +kernel, by decide +kernel⟩
theorem okcomes_from {P : Program} {w : World} {K : PySem.W.Frag} {mg : Str → Option Value} {base : Heap} {f : Addr} {fd : FuncData} (Fx : L2.Fun K "comes_from" "comes_from" (topS 16) f fd) (m_len : mg "len" = none) : FnG P w K mg base 1 f fd Acomes_from (spF K 3 Vcomes_from) :=
  okF (k := 0) (O' := []) Fx sccomes_from rfl fun X _ _ _ _ _ _ _ _ hex hr hgd => by
    obtain ⟨cdv, L, A, outer, s, H, E, rfl, _⟩ := hex
    have hu := hr.units
    have hu1 := Nat.lt_of_le_of_lt (Nat.add_le_add_left (by decide : 1 ≤ 64) _) hu
    exact (ss_cons (s_set (O := []) (O' := []) (ps_set (i := 3) sccomes_from.nd rfl (by first | exact .inl rfl | exact .inr rfl) d_int)) (ss_cons (s_for (L := []) (O := []) PassesOwn.never rfl (i_seq (d_var (by decide) (pv 2)) (pi_list (d_var (by decide) (pv 2))) (pi_tup (d_var (by decide) (pv 2))) (pi_str (d_var (by decide) (pv 2))) (pi_keys (d_var (by decide) (pv 2)))) (g_name (pg_name (i := 4) sccomes_from.nd rfl (by first | exact .inl rfl | exact .inr rfl))) (ss_one (s_if (O := []) (O' := []) (t_bool (w_and (t_lt (b_var (pv 3)) (b_of_d (d_callB call_lenA cd_len rfl m_len PySem.boot_len (ab_cons (b_var (pv 1)) ab_nil)))) (w_and1 (t_inA hu1 (b_of_d (d_ixA hu1 (b_var (pv 1)) (b_var (pv 3)))) (b_of_d (d_ixA hu1 (b_var (pv 0)) (b_var (pv 4)))))))) (ss_one (s_set (O := []) (O' := []) (ps_set (i := 3) sccomes_from.nd rfl (by first | exact .inl rfl | exact .inr rfl) (d_addA (b_var (pv 3)) (b_of_d d_int))))) ss_nil))) (ss_one (s_retO (O := []) (O' := []) (d_eq hu (b_var (pv 3)) (b_of_d (d_callB call_lenA cd_len rfl m_len PySem.boot_len (ab_cons (b_var (pv 1)) ab_nil))))))))

abbrev Nfinds_least : List Str := ["book", "x", "manner", "ranking", "downs", "k", "thing", "ahead"]
abbrev Afinds_least : List Str := ["book", "x", "manner"]
theorem scfinds_least : FnScope Nfinds_least Afinds_least (defScope (topS 29)) := ⟨rfl, rfl, rfl, by decide +kernel, rfl, by decide +kernel, by decide +kernel⟩
theorem okfinds_least {P : Program} {w : World} {K : PySem.W.Frag} {mg : Str → Option Value} {base : Heap} {f : Addr} {fd : FuncData} (Fx : L2.Fun K "finds_least" "finds_least" (topS 29) f fd) (Cranking_of : Cd P w K mg base 6 "ranking_of" (topS 26) Aranking_of Vranking_of [("manner", .str "again")]) (Cthings_at_most : Cg P w K mg base 4 "things_at_most" (topS 12) Athings_at_most Vthings_at_most) (Cdowns_of : Cg P w K mg base 2 "downs_of" (topS 15) Adowns_of Vdowns_of) (Ccomes_from : Cg P w K mg base 1 "comes_from" (topS 16) Acomes_from Vcomes_from) (m_len : mg "len" = none) (m_any : mg "any" = none) (m_enumerate : mg "enumerate" = none) : FnG P w K mg base 7 f fd Afinds_least (spF K 3 Vfinds_least) :=
  okF (k := 6) (O' := []) Fx scfinds_least rfl fun X _ _ _ _ _ _ _ _ hex hr hgd => by
    obtain ⟨cdv, L, A, outer, s, H, E, rfl, _⟩ := hex
    have hu := hr.units
    have hu1 := Nat.lt_of_le_of_lt (Nat.add_le_add_left (by decide : 1 ≤ 64) _) hu
    exact (ss_cons (s_set (O := []) (O' := []) (ps_set (i := 3) scfinds_least.nd rfl (by first | exact .inl rfl | exact .inr rfl) (d_ckM (x := "ranking_of") (ps := Aranking_of) (Fn := Vranking_of) Cranking_of.ck hr (by decide) hgd rfl [0, 1, 2] ["manner"] (fun kV doc pm an cdv ct us ws hl hz => match us, hl, ws, hz with | [_, _], _, [_], _ => rfl) (ad_cons (d_var (by decide) (pv 0)) (ad_cons (d_var (by decide) (pv 1)) ad_nil)) (al_cons (al_cons al_nil)) (kd_cons (d_var (by decide) (pv 2)) kd_nil) (al_cons al_nil) (fun ds zs hl hz => match ds, hl, zs, hz with | [_, _], _, [_], _ => rfl)))) (ss_cons (s_if (O := []) (O' := []) (t_lt (b_of_d (d_callB call_lenA cd_len rfl m_len PySem.boot_len (ab_cons (b_var (pv 3)) ab_nil))) (b_of_d (d_callB call_lenA cd_len rfl m_len PySem.boot_len (ab_cons (b_of_d (d_cg Cthings_at_most hr (by decide) hgd rfl (ad_cons (d_var (by decide) (pv 0)) (ad_cons (d_var (by decide) (pv 1)) ad_nil)) (al_cons (al_cons al_nil)))) ab_nil)))) (ss_one (s_retO (O := []) (O' := []) d_bl)) ss_nil) (ss_cons (s_set (O := []) (O' := []) (ps_set (i := 4) scfinds_least.nd rfl (by first | exact .inl rfl | exact .inr rfl) (d_cg Cdowns_of hr (by decide) hgd rfl (ad_cons (d_var (by decide) (pv 0)) ad_nil) (al_cons al_nil)))) (ss_one (s_retO (O := []) (O' := []) (d_not (b_of_d (d_callB (cr_any rfl) cd_any rfl m_any rfl (ab_cons (b_of_n (n_lc2PN (i := 5) (j := 6) (i1 := 7) rfl scfinds_least.nd (i_enum (pi_enum rfl m_enumerate (pa_cons (d_var (by decide) (pv 3)) pa_nil)) (pi_enumT rfl m_enumerate (pa_cons (d_var (by decide) (pv 3)) pa_nil)) (pi_enumS rfl m_enumerate (pa_cons (d_var (by decide) (pv 3)) pa_nil))) (own := [("k", 5), ("thing", 6), ("ahead", 7)]) (blkOk_by (by rfl)) (fun _ _ _ _ _ => (pg_tup rfl (pgs_cons (pg_name (i := 5) scfinds_least.nd rfl (by first | exact .inl rfl | exact .inr rfl)) (pgs_cons (pg_name (i := 6) scfinds_least.nd rfl (by first | exact .inl rfl | exact .inr rfl)) pgs_nil)))) (fun _ _ _ _ _ => (i_seq (d_slice (b_var (pv 3)) o_none (o_some (b_var (pv 5)))) (pi_list (d_slice (b_var (pv 3)) o_none (o_some (b_var (pv 5))))) (pi_tup (d_slice (b_var (pv 3)) o_none (o_some (b_var (pv 5))))) (pi_str (d_slice (b_var (pv 3)) o_none (o_some (b_var (pv 5))))) (pi_keys (d_slice (b_var (pv 3)) o_none (o_some (b_var (pv 5))))))) (fun _ _ _ _ _ => (pg_name (i := 7) scfinds_least.nd rfl (by first | exact .inl rfl | exact .inr rfl))) (fun _ _ _ _ _ => ts_nil) (fun _ _ _ _ _ => (d_cg Ccomes_from hr (by decide) hgd rfl (ad_cons (d_var (by decide) (pv 4)) (ad_cons (d_var (by decide) (pv 6)) (ad_cons (d_var (by decide) (pv 7)) ad_nil))) (al_cons (al_cons (al_cons al_nil))))))) ab_nil)))))))))

abbrev N_law_is_least : List Str := ["_law_below_here", "_law_causes", "_law_one", "_law_lot", "_law_own"]
abbrev A_law_is_least : List Str := ["_law_below_here", "_law_causes", "_law_one"]
theorem sc_law_is_least : FnScope N_law_is_least A_law_is_least (defScope (topS 45)) := ⟨rfl, rfl, rfl, by decide +kernel, rfl, by decide +kernel, by decide +kernel⟩
theorem ok_law_is_least {P : Program} {w : World} {K : PySem.W.Frag} {mg : Str → Option Value} {base : Heap} {f : Addr} {fd : FuncData} (Fx : L2.Fun K "_law_is_least" "_law_is_least" (topS 45) f fd) (C_law_is_at_most : Cg P w K mg base 1 "_law_is_at_most" (topS 40) A_law_is_at_most V_law_is_at_most_k32) : FnG P w K mg base 2 f fd A_law_is_least (spF K 3 V_law_is_least_k42) :=
  okF (k := 1) (O' := []) Fx sc_law_is_least rfl fun X _ _ _ _ _ _ _ _ hex hr hgd => by
    obtain ⟨cdv, L, A, outer, s, H, E, rfl, _⟩ := hex
    have hu := hr.units
    have hu1 := Nat.lt_of_le_of_lt (Nat.add_le_add_left (by decide : 1 ≤ 64) _) hu
    exact (ss_cons (s_set (O := []) (O' := []) (a_d_of_n (a_lc (z := 3) (i := 4) rfl sc_law_is_least.nd rfl rfl rfl (i_seq (d_var (by decide) (pv 1)) (pi_list (d_var (by decide) (pv 1))) (pi_tup (d_var (by decide) (pv 1))) (pi_str (d_var (by decide) (pv 1))) (pi_keys (d_var (by decide) (pv 1)))) (own := [("_law_own", 4)]) (blkOk_by (by rfl)) (fun _ _ _ _ _ => (pg_name (i := 4) sc_law_is_least.nd rfl (by first | exact .inl rfl | exact .inr rfl))) (fun _ _ _ _ _ => (ts_one (t_bool (w_and (t_ne hu (b_var (pv 4)) (b_var (pv 2))) (w_and1 (t_tru (b_of_d (d_cg C_law_is_at_most hr (by decide) hgd rfl (ad_cons (d_var (by decide) (pv 0)) (ad_cons (d_var (by decide) (pv 4)) (ad_cons (d_var (by decide) (pv 2)) ad_nil))) (al_cons (al_cons (al_cons al_nil))))))))))) (fun _ _ _ _ _ => (d_var (by decide) (pv 4)))))) (ss_one (s_retO (O := []) (O' := []) (d_eq hu (b_var (pv 3)) (b_of_n (n_lst ad_nil))))))

abbrev Nlaw : List Str := ["_law_script", "_law_feed_here", "_law_lap", "_law_tome_here", "_law_start_here", "_law_below_here", "_law_every", "_law_way", "_law_late", "_law_one", "_law_turn", "_law_causes", "_law_last", "_law_k"]
abbrev Alaw : List Str := ["_law_script"]
theorem sclaw : FnScope Nlaw Alaw (defScope (topS 46)) := ⟨rfl, rfl, rfl, by decide +kernel, rfl, by decide +kernel, by decide +kernel⟩
theorem oklaw {P : Program} {w : World} {K : PySem.W.Frag} {mg : Str → Option Value} {base : Heap} {f : Addr} {fd : FuncData} (Fx : L2.Fun K "law" "law" (topS 46) f fd) (C_law_feed : Cg P w K mg base 1 "_law_feed" (topS 31) A_law_feed V_law_feed_k32) (C_law_scene : Cg P w K mg base 5 "_law_scene" (topS 44) A_law_scene (V_law_scene_k42 V_law_draw_k42)) (C_law_below : Cg P w K mg base 1 "_law_below" (topS 35) A_law_below V_law_below_k32) (C_law_all : Cg P w K mg base 1 "_law_all" (topS 38) A_law_all V_law_all_k32) (C_law_end : Cg P w K mg base 3 "_law_end" (topS 43) A_law_end V_law_end_k33) (Cfinds_least : Cd P w K mg base 7 "finds_least" (topS 29) Afinds_least Vfinds_least [("manner", .str "again")]) (C_law_draw : Cg P w K mg base 1 "_law_draw" (topS 32) A_law_draw V_law_draw_k42) (C_law_pick : Cg P w K mg base 2 "_law_pick" (topS 33) A_law_pick (V_law_pick_k01 V_law_draw_k42)) (C_law_is_least : Cg P w K mg base 2 "_law_is_least" (topS 45) A_law_is_least V_law_is_least_k42) (m_range : mg "range" = none) (m_repr : mg "repr" = none)
    (hL : ∀ js : List Int, js.length ≤ 63 → ∃ ks l y z u d, fourD ks l y z u = some d ∧ Elaw_k42 (some (.scr js) :: List.replicate 13 none) [] = some (d, []) ∧ ∀ p, ∃ s', Flaw_k42 ((some (.scr js) :: List.replicate 13 none).set 1 (some (.ref p))) [(p, d)] = some (.rt (.bl true), s')) : FnG P w K mg base 8 f fd Alaw (spLaw K) :=
  ok_lawS (k := 7) Fx sclaw (by decide) (fun X hex hr hgd => by
    obtain ⟨cdv, A, outer, s, H, E, rfl⟩ := hex
    have hu := hr.units
    have hu1 := Nat.lt_of_le_of_lt (Nat.add_le_add_left (by decide : 1 ≤ 64) _) hu
    exact (ss_share (O' := []) (ps_set (i := 1) sclaw.nd rfl (by first | exact .inl rfl | exact .inr rfl) (d_cg C_law_feed hr (by decide) hgd rfl (ad_cons (d_var (by decide) (pv 0)) ad_nil) (al_cons al_nil))) (ss_cons (s_for (L := []) (O := []) PassesOwn.never rfl (i_range1 rfl m_range (b_of_d d_int)) (g_name (pg_name (i := 2) sclaw.nd rfl (by first | exact .inl rfl | exact .inr rfl))) (ss_cons (s_unp (O := []) (O' := []) (ps_asg (d_cg C_law_scene hr (by decide) hgd rfl (ad_cons (d_var (by decide) (pv 1)) ad_nil) (al_cons al_nil)) (pg_unl rfl (pgs_cons (pg_name (i := 3) sclaw.nd rfl (by first | exact .inl rfl | exact .inr rfl)) (pgs_cons (pg_name (i := 4) sclaw.nd rfl (by first | exact .inl rfl | exact .inr rfl)) pgs_nil)))) (ps_asg (d_cg C_law_scene hr (by decide) hgd rfl (ad_cons (d_var (by decide) (pv 1)) ad_nil) (al_cons al_nil)) (pg_tup rfl (pgs_cons (pg_name (i := 3) sclaw.nd rfl (by first | exact .inl rfl | exact .inr rfl)) (pgs_cons (pg_name (i := 4) sclaw.nd rfl (by first | exact .inl rfl | exact .inr rfl)) pgs_nil))))) (ss_cons (s_set (O := []) (O' := []) (ps_set (i := 5) sclaw.nd rfl (by first | exact .inl rfl | exact .inr rfl) (d_cg C_law_below hr (by decide) hgd rfl (ad_cons (d_ixA hu1 (b_var (pv 3)) (b_of_d d_int)) ad_nil) (al_cons al_nil)))) (ss_cons (s_set (O := []) (O' := []) (ps_set (i := 6) sclaw.nd rfl (by first | exact .inl rfl | exact .inr rfl) (d_cg C_law_all hr (by decide) hgd rfl (ad_cons (d_var (by decide) (pv 5)) (ad_cons (d_var (by decide) (pv 4)) ad_nil)) (al_cons (al_cons al_nil))))) (ss_one (s_for (L := []) (O := []) PassesOwn.never rfl (i_seq (d_tup (ad_cons d_str (ad_cons d_str ad_nil))) (pi_list (d_tup (ad_cons d_str (ad_cons d_str ad_nil)))) (pi_tup (d_tup (ad_cons d_str (ad_cons d_str ad_nil)))) (pi_str (d_tup (ad_cons d_str (ad_cons d_str ad_nil)))) (pi_keys (d_tup (ad_cons d_str (ad_cons d_str ad_nil))))) (g_name (pg_name (i := 7) sclaw.nd rfl (by first | exact .inl rfl | exact .inr rfl))) (ss_end (O'' := []) (O' := [8]) (ss_cons (s_setN (O := []) (O' := [8]) (ps_set (i := 8) sclaw.nd rfl (by first | exact .inl rfl | exact .inr rfl) (n_lst ad_nil))) (ss_cons (s_for (L := []) (O := [8]) PassesOwn.never rfl (i_seq (d_var (by decide) (pv 6)) (pi_list (d_var (by decide) (pv 6))) (pi_tup (d_var (by decide) (pv 6))) (pi_str (d_var (by decide) (pv 6))) (pi_keys (d_var (by decide) (pv 6)))) (g_name (pg_name (i := 9) sclaw.nd rfl (by first | exact .inl rfl | exact .inr rfl))) (ss_one (s_if (O := [8]) (O' := [8]) (t_ne hu (b_of_d (d_cg C_law_end hr (by decide) hgd rfl (ad_cons (d_var (by decide) (pv 3)) (ad_cons (d_var (by decide) (pv 7)) (ad_cons (d_var (by decide) (pv 5)) (ad_cons (d_of_n (n_lst (ad_cons (d_var (by decide) (pv 9)) ad_nil))) (ad_cons (d_var (by decide) (pv 4)) ad_nil))))) (al_cons (al_cons (al_cons (al_cons (al_cons al_nil))))))) (b_var (pv 9))) (ss_one (s_app (O := [8]) (i := 8) (pe_bm PySem.F.plainAttrs_list PySem.F.slot_list_append PySem.F.type_list_append mt_append (pv 8) (pa_cons (d_var (by decide) (pv 9)) pa_nil)))) ss_nil))) (ss_cons (s_if (O := [8]) (O' := [8]) (t_ne hu (b_of_d (d_callB (call_reprD hgd hu) cd_repr rfl m_repr rfl (ab_cons (b_of_d (d_ckM (x := "finds_least") (ps := Afinds_least) (Fn := Vfinds_least) Cfinds_least.ck hr (by decide) hgd rfl [0, 1, 2] ["manner"] (fun kV doc pm an cdv ct us ws hl hz => match us, hl, ws, hz with | [_, _], _, [_], _ => rfl) (ad_cons (d_var (by decide) (pv 3)) (ad_cons (d_var (by decide) (pv 4)) ad_nil)) (al_cons (al_cons al_nil)) (kd_cons (d_var (by decide) (pv 7)) kd_nil) (al_cons al_nil) (fun ds zs hl hz => match ds, hl, zs, hz with | [_, _], _, [_], _ => rfl))) ab_nil))) (b_of_d (d_callB (call_reprD hgd hu) cd_repr rfl m_repr rfl (ab_cons (b_of_d (d_eq hu (b_var (pv 8)) (b_of_n (n_lst ad_nil)))) ab_nil)))) (ss_one (s_retO (O := [8]) (O' := [8]) d_bl)) ss_nil) (ss_one (s_for (L := []) (O := [8]) PassesOwn.never rfl (i_range1 rfl m_range (b_of_d d_int)) (g_name (pg_name (i := 10) sclaw.nd rfl (by first | exact .inl rfl | exact .inr rfl))) (ss_cons (s_set (O := [8]) (O' := [8]) (a_d_of_n (a_lc (z := 11) (i := 13) rfl sclaw.nd rfl rfl rfl (i_range1 rfl m_range (b_of_d (d_addA (b_of_d d_int) (b_of_d (d_cg C_law_draw hr (by decide) hgd rfl (ad_cons (d_var (by decide) (pv 1)) (ad_cons d_int ad_nil)) (al_cons (al_cons al_nil))))))) (own := [("_law_k", 13)]) (blkOk_by (by rfl)) (fun _ _ _ _ _ => (pg_name (i := 13) sclaw.nd rfl (by first | exact .inl rfl | exact .inr rfl))) (fun _ _ _ _ _ => ts_nil) (fun _ _ _ _ _ => (d_cg C_law_pick hr (by decide) hgd rfl (ad_cons (d_var (by decide) (pv 1)) (ad_cons (d_var (by decide) (pv 6)) ad_nil)) (al_cons (al_cons al_nil))))))) (ss_cons (s_set (O := [8]) (O' := [8]) (ps_set (i := 12) sclaw.nd rfl (by first | exact .inl rfl | exact .inr rfl) (d_cg C_law_end hr (by decide) hgd rfl (ad_cons (d_var (by decide) (pv 3)) (ad_cons (d_var (by decide) (pv 7)) (ad_cons (d_var (by decide) (pv 5)) (ad_cons (d_var (by decide) (pv 11)) (ad_cons (d_var (by decide) (pv 4)) ad_nil))))) (al_cons (al_cons (al_cons (al_cons (al_cons al_nil)))))))) (ss_one (s_if (O := [8]) (O' := [8]) (t_bool (w_and (t_eq hu (b_var (pv 8)) (b_of_n (n_lst ad_nil))) (w_and1 (t_not (t_tru (b_of_d (d_cg C_law_is_least hr (by decide) hgd rfl (ad_cons (d_var (by decide) (pv 5)) (ad_cons (d_var (by decide) (pv 11)) (ad_cons (d_var (by decide) (pv 12)) ad_nil))) (al_cons (al_cons (al_cons al_nil)))))))))) (ss_one (s_retO (O := [8]) (O' := [8]) d_bl)) ss_nil)))))))))))))))) (ss_one (s_retO (O := []) (O' := []) (d_eq hu (b_of_d (d_callB (call_reprD hgd hu) cd_repr rfl m_repr rfl (ab_cons (b_of_d (d_cdM (x := "finds_least") (ps := Afinds_least) (Fn := Vfinds_least) Cfinds_least hr (by decide) hgd rfl [0, 1, 2] [] [("manner", .str "again")] [.str "again"] (by simp) (by simp) (fun _ => (.cons (.str _) .nil)) (fun D doc pm an cdv ct us mv ws hl hm hz => match us, hl, mv, hm, ws, hz with | [_, _], _, [_], _, [], _ => ⟨_, _, _, _, _, _, by rfl, by rfl, by rfl⟩) (ad_cons (d_var (by decide) (pv 3)) (ad_cons (d_var (by decide) (pv 4)) ad_nil)) (al_cons (al_cons al_nil)) kd_nil al_nil (fun ds zs hl hz => match ds, hl, zs, hz with | [_, _], _, [], _ => rfl))) ab_nil))) (b_of_d (d_callB (call_reprD hgd hu) cd_repr rfl m_repr rfl (ab_cons (b_of_d (d_ckM (x := "finds_least") (ps := Afinds_least) (Fn := Vfinds_least) Cfinds_least.ck hr (by decide) hgd rfl [0, 1, 2] ["manner"] (fun kV doc pm an cdv ct us ws hl hz => match us, hl, ws, hz with | [_, _], _, [_], _ => rfl) (ad_cons (d_var (by decide) (pv 3)) (ad_cons (d_var (by decide) (pv 4)) ad_nil)) (al_cons (al_cons al_nil)) (kd_cons d_str kd_nil) (al_cons al_nil) (fun ds zs hl hz => match ds, hl, zs, hz with | [_, _], _, [_], _ => rfl))) ab_nil))))))))) hL

def LawOk : Prop := ∀ js : List Int, js.length ≤ 63 → ∃ ks l y z u d, fourD ks l y z u = some d ∧ Elaw_k42 (some (.scr js) :: List.replicate 13 none) [] = some (d, []) ∧ ∀ p, ∃ s', Flaw_k42 ((some (.scr js) :: List.replicate 13 none).set 1 (some (.ref p))) [(p, d)] = some (.rt (.bl true), s')
theorem all_ok {P : Program} {w : World} {K : PySem.W.Frag} {mg : Str → Option Value} (A_law_feed_ : FnAt K mg "_law_feed" (topS 31)) (A_law_draw_ : FnAt K mg "_law_draw" (topS 32)) (A_law_pick_ : FnAt K mg "_law_pick" (topS 33)) (A_law_letters_ : FnAt K mg "_law_letters" (topS 34)) (A_law_below_ : FnAt K mg "_law_below" (topS 35)) (A_law_rule_ : FnAt K mg "_law_rule" (topS 36)) (A_law_all_ : FnAt K mg "_law_all" (topS 38)) (A_law_start_ : FnAt K mg "_law_start" (topS 39)) (A_law_tome_ : FnAt K mg "_law_tome" (topS 37)) (A_law_scene_ : FnAt K mg "_law_scene" (topS 44)) (A_law_results_ : FnAt K mg "_law_results" (topS 41)) (A_law_steps_ : FnAt K mg "_law_steps" (topS 42)) (A_law_is_at_most_ : FnAt K mg "_law_is_at_most" (topS 40)) (A_law_end_ : FnAt K mg "_law_end" (topS 43)) (Aletters_of_ : FnAt K mg "letters_of" (topS 9)) (Ais_thing_ : FnAt K mg "is_thing" (topS 6)) (Ahas_letters_ : FnAt K mg "has_letters" (topS 11)) (Aneed_thing_ : FnAt K mg "need_thing" (topS 14)) (Aneed_manner_ : FnAt K mg "need_manner" (topS 19)) (Aneed_letter_ : FnAt K mg "need_letter" (topS 13)) (Aletters_reached_ : FnAt K mg "letters_reached" (topS 7)) (Aletters_below_ : FnAt K mg "letters_below" (topS 10)) (Adoes_fall_ : FnAt K mg "does_fall" (topS 21)) (Aneed_falling_ : FnAt K mg "need_falling" (topS 20)) (Aplaces_ : FnAt K mg "places" (topS 24)) (Aresults_of_ : FnAt K mg "results_of" (topS 23)) (Aled_steps_ : FnAt K mg "led_steps" (topS 22)) (Aranking_from_ : FnAt K mg "ranking_from" (topS 27)) (Aranking_of_ : FdAt K mg "ranking_of" (topS 26) [("manner", .str "again")]) (Adowns_of_ : FnAt K mg "downs_of" (topS 15)) (Athings_at_most_ : FnAt K mg "things_at_most" (topS 12)) (Acomes_from_ : FnAt K mg "comes_from" (topS 16)) (Afinds_least_ : FdAt K mg "finds_least" (topS 29) [("manner", .str "again")]) (A_law_is_least_ : FnAt K mg "_law_is_least" (topS 45)) (m_list : mg "list" = none) (m_int : mg "int" = none) (m_len : mg "len" = none) (m_tuple : mg "tuple" = none) (m_sorted : mg "sorted" = none) (m_range : mg "range" = none) (m_set : mg "set" = none) (m_dict : mg "dict" = none) (m_isinstance : mg "isinstance" = none) (m_str : mg "str" = none) (m_all : mg "all" = none) (m_enumerate : mg "enumerate" = none) (m_any : mg "any" = none) (m_repr : mg "repr" = none) (c_MANNERS : CstAt K mg "MANNERS" (.tup [.str "again", .str "on"])) (hL : LawOk) (f : Addr) (fd : FuncData) (Fx : L2.Fun K "law" "law" (topS 46) f fd) (base : Heap) : FnG P w K mg base 8 f fd Alaw (spLaw K) := by
  have C_law_feed : Cg P w K mg base 1 "_law_feed" (topS 31) A_law_feed V_law_feed_k32 := cg_mk A_law_feed_ (fun f fd F => ok_law_feed F m_list) (fun _ _ _ _ _ _ us hl => match us, hl with | [_], _ => rfl)
  have C_law_draw : Cg P w K mg base 1 "_law_draw" (topS 32) A_law_draw V_law_draw_k42 := cg_mk A_law_draw_ (fun f fd F => ok_law_draw F m_int m_len) (fun _ _ _ _ _ _ us hl => match us, hl with | [_, _], _ => rfl)
  have C_law_pick : Cg P w K mg base 2 "_law_pick" (topS 33) A_law_pick (V_law_pick_k01 V_law_draw_k42) := cg_mk A_law_pick_ (fun f fd F => ok_law_pick F C_law_draw m_len) (fun _ _ _ _ _ _ us hl => match us, hl with | [_, _], _ => rfl)
  have C_law_letters : Cg P w K mg base 3 "_law_letters" (topS 34) A_law_letters (V_law_letters_k32 V_law_draw_k42) := cg_mk A_law_letters_ (fun f fd F => ok_law_letters F C_law_pick m_tuple m_sorted) (fun _ _ _ _ _ _ us hl => match us, hl with | [_], _ => rfl)
  have C_law_below : Cg P w K mg base 1 "_law_below" (topS 35) A_law_below V_law_below_k32 := cg_mk A_law_below_ (fun f fd F => ok_law_below F m_list m_range m_len m_sorted m_set) (fun _ _ _ _ _ _ us hl => match us, hl with | [_], _ => rfl)
  have C_law_rule : Cg P w K mg base 3 "_law_rule" (topS 36) A_law_rule (V_law_rule_k32 V_law_draw_k42) := cg_mk A_law_rule_ (fun f fd F => ok_law_rule F C_law_draw C_law_pick) (fun _ _ _ _ _ _ us hl => match us, hl with | [_, _, _], _ => rfl)
  have C_law_all : Cg P w K mg base 1 "_law_all" (topS 38) A_law_all V_law_all_k32 := cg_mk A_law_all_ (fun f fd F => ok_law_all F m_list m_sorted) (fun _ _ _ _ _ _ us hl => match us, hl with | [_, _], _ => rfl)
  have C_law_start : Cg P w K mg base 3 "_law_start" (topS 39) A_law_start (V_law_start_k32 V_law_draw_k42) := cg_mk A_law_start_ (fun f fd F => ok_law_start F C_law_pick C_law_all m_range m_len) (fun _ _ _ _ _ _ us hl => match us, hl with | [_, _, _, _], _ => rfl)
  have C_law_tome : Cg P w K mg base 4 "_law_tome" (topS 37) A_law_tome (V_law_tome_k32 V_law_draw_k42) := cg_mk A_law_tome_ (fun f fd F => ok_law_tome F C_law_letters C_law_below C_law_pick C_law_rule C_law_draw m_range m_tuple) (fun _ _ _ _ _ _ us hl => match us, hl with | [_], _ => rfl)
  have C_law_scene : Cg P w K mg base 5 "_law_scene" (topS 44) A_law_scene (V_law_scene_k42 V_law_draw_k42) := cg_mk A_law_scene_ (fun f fd F => ok_law_scene F C_law_draw C_law_pick C_law_letters C_law_below C_law_rule C_law_start C_law_tome m_tuple) (fun _ _ _ _ _ _ us hl => match us, hl with | [_], _ => rfl)
  have C_law_results : Cg P w K mg base 1 "_law_results" (topS 41) A_law_results V_law_results_k32 := cg_mk A_law_results_ (fun f fd F => ok_law_results F m_len m_list m_range) (fun _ _ _ _ _ _ us hl => match us, hl with | [_, _, _], _ => rfl)
  have C_law_steps : Cg P w K mg base 2 "_law_steps" (topS 42) A_law_steps V_law_steps_k32 := cg_mk A_law_steps_ (fun f fd F => ok_law_steps F C_law_results m_dict m_list m_range m_len) (fun _ _ _ _ _ _ us hl => match us, hl with | [_, _, _, _], _ => rfl)
  have C_law_is_at_most : Cg P w K mg base 1 "_law_is_at_most" (topS 40) A_law_is_at_most V_law_is_at_most_k32 := cg_mk A_law_is_at_most_ (fun f fd F => ok_law_is_at_most F m_len) (fun _ _ _ _ _ _ us hl => match us, hl with | [_, _, _], _ => rfl)
  have C_law_end : Cg P w K mg base 3 "_law_end" (topS 43) A_law_end V_law_end_k33 := cg_mk A_law_end_ (fun f fd F => ok_law_end F C_law_steps C_law_is_at_most m_range) (fun _ _ _ _ _ _ us hl => match us, hl with | [_, _, _, _, _], _ => rfl)
  have Cletters_of : Cg P w K mg base 1 "letters_of" (topS 9) Aletters_of Vletters_of := cg_mk Aletters_of_ (fun f fd F => okletters_of F m_tuple) (fun _ _ _ _ _ _ us hl => match us, hl with | [_], _ => rfl)
  have Cis_thing : Cg P w K mg base 1 "is_thing" (topS 6) Ais_thing Vis_thing := cg_mk Ais_thing_ (fun f fd F => okis_thing F m_isinstance m_str m_all) (fun _ _ _ _ _ _ us hl => match us, hl with | [_], _ => rfl)
  have Chas_letters : Cg P w K mg base 2 "has_letters" (topS 11) Ahas_letters Vhas_letters := cg_mk Ahas_letters_ (fun f fd F => okhas_letters F Cletters_of Cis_thing m_all) (fun _ _ _ _ _ _ us hl => match us, hl with | [_, _], _ => rfl)
  have Cneed_thing : Cg P w K mg base 3 "need_thing" (topS 14) Aneed_thing Vneed_thing := cg_mk Aneed_thing_ (fun f fd F => okneed_thing F Chas_letters) (fun _ _ _ _ _ _ us hl => match us, hl with | [_, _, _], _ => rfl)
  have Cneed_manner : Cg P w K mg base 1 "need_manner" (topS 19) Aneed_manner Vneed_manner := cg_mk Aneed_manner_ (fun f fd F => okneed_manner F c_MANNERS) (fun _ _ _ _ _ _ us hl => match us, hl with | [_, _], _ => rfl)
  have Cneed_letter : Cg P w K mg base 2 "need_letter" (topS 13) Aneed_letter Vneed_letter := cg_mk Aneed_letter_ (fun f fd F => okneed_letter F Cletters_of) (fun _ _ _ _ _ _ us hl => match us, hl with | [_, _], _ => rfl)
  have Cletters_reached : Cg P w K mg base 1 "letters_reached" (topS 7) Aletters_reached Vletters_reached := cg_mk Aletters_reached_ (fun f fd F => okletters_reached F m_list m_tuple m_sorted) (fun _ _ _ _ _ _ us hl => match us, hl with | [_, _], _ => rfl)
  have Cletters_below : Cg P w K mg base 3 "letters_below" (topS 10) Aletters_below Vletters_below := cg_mk Aletters_below_ (fun f fd F => okletters_below F Cneed_letter Cletters_reached m_dict) (fun _ _ _ _ _ _ us hl => match us, hl with | [_, _], _ => rfl)
  have Cdoes_fall : Cg P w K mg base 4 "does_fall" (topS 21) Adoes_fall Vdoes_fall := cg_mk Adoes_fall_ (fun f fd F => okdoes_fall F Cletters_below) (fun _ _ _ _ _ _ us hl => match us, hl with | [_, _], _ => rfl)
  have Cneed_falling : Cg P w K mg base 5 "need_falling" (topS 20) Aneed_falling Vneed_falling := cg_mk Aneed_falling_ (fun f fd F => okneed_falling F Cdoes_fall m_enumerate) (fun _ _ _ _ _ _ us hl => match us, hl with | [_], _ => rfl)
  have Cplaces : Cg P w K mg base 1 "places" (topS 24) Aplaces Vplaces := cg_mk Aplaces_ (fun f fd F => okplaces F m_list m_range) (fun _ _ _ _ _ _ us hl => match us, hl with | [_, _], _ => rfl)
  have Cresults_of : Cg P w K mg base 2 "results_of" (topS 23) Aresults_of Vresults_of := cg_mk Aresults_of_ (fun f fd F => okresults_of F Cplaces m_len m_dict) (fun _ _ _ _ _ _ us hl => match us, hl with | [_, _, _], _ => rfl)
  have Cled_steps : Cg P w K mg base 3 "led_steps" (topS 22) Aled_steps Vled_steps := cg_mk Aled_steps_ (fun f fd F => okled_steps F Cresults_of m_list m_range m_len m_tuple) (fun _ _ _ _ _ _ us hl => match us, hl with | [_, _, _], _ => rfl)
  have Cranking_from : Cg P w K mg base 4 "ranking_from" (topS 27) Aranking_from Vranking_from := cg_mk Aranking_from_ (fun f fd F => okranking_from F Cled_steps m_tuple m_list) (fun _ _ _ _ _ _ us hl => match us, hl with | [_, _, _, _], _ => rfl)
  have Cranking_of : Cd P w K mg base 6 "ranking_of" (topS 26) Aranking_of Vranking_of [("manner", .str "again")] := cd_mk Aranking_of_ (fun f fd F => okranking_of F Cneed_thing Cneed_manner Cneed_falling Cranking_from)
  have Cdowns_of : Cg P w K mg base 2 "downs_of" (topS 15) Adowns_of Vdowns_of := cg_mk Adowns_of_ (fun f fd F => okdowns_of F Cletters_reached m_dict) (fun _ _ _ _ _ _ us hl => match us, hl with | [_], _ => rfl)
  have Cthings_at_most : Cg P w K mg base 4 "things_at_most" (topS 12) Athings_at_most Vthings_at_most := cg_mk Athings_at_most_ (fun f fd F => okthings_at_most F Cneed_thing Cdowns_of m_list m_tuple m_sorted) (fun _ _ _ _ _ _ us hl => match us, hl with | [_, _], _ => rfl)
  have Ccomes_from : Cg P w K mg base 1 "comes_from" (topS 16) Acomes_from Vcomes_from := cg_mk Acomes_from_ (fun f fd F => okcomes_from F m_len) (fun _ _ _ _ _ _ us hl => match us, hl with | [_, _, _], _ => rfl)
  have Cfinds_least : Cd P w K mg base 7 "finds_least" (topS 29) Afinds_least Vfinds_least [("manner", .str "again")] := cd_mk Afinds_least_ (fun f fd F => okfinds_least F Cranking_of Cthings_at_most Cdowns_of Ccomes_from m_len m_any m_enumerate)
  have C_law_is_least : Cg P w K mg base 2 "_law_is_least" (topS 45) A_law_is_least V_law_is_least_k42 := cg_mk A_law_is_least_ (fun f fd F => ok_law_is_least F C_law_is_at_most) (fun _ _ _ _ _ _ us hl => match us, hl with | [_, _, _], _ => rfl)
  exact oklaw Fx C_law_feed C_law_scene C_law_below C_law_all C_law_end Cfinds_least C_law_draw C_law_pick C_law_is_least m_range m_repr hL
end DL

namespace DL
open PySem PySem.Spec PyProof.Rows L2
local macro_rules | `(tactic| walk_at "op") => `(tactic| first | assumption | with_reducible rfl | exact cat_w (by omega) | exact sub_nn (by omega) | exact add_nn | exact at_w (by omega) (by assumption) | exact len_w (by omega) | exact in_l1 | exact notin_l1 | exact in_t1 | exact notin_t1 | exact in_k1 | exact notin_k1 | exact in_wl | exact notin_wl | exact in_wt | exact notin_wt | exact in_kd | exact notin_kd | exact eq_ww | exact ne_ww | exact any_bl | exact all_bl | rfl)
local macro_rules | `(tactic| walk_at "ev") => `(tactic| first | with_reducible exact c0 | ((with_reducible apply v0); rfl) | with_reducible exact a0 | with_reducible assumption | ((with_reducible apply aCons_ev); (focus walk_at "ev"); (focus walk_at "ev")) | ((with_reducible apply bindA_ev); (focus walk_at "ev"); (focus walk_at "op")) | ((with_reducible apply bind2_ev); (focus walk_at "ev"); (focus walk_at "ev"); (focus walk_at "op")) | ((with_reducible apply bind1_ev); (focus walk_at "ev"); (focus walk_at "op")) | ((with_reducible apply asB_ev); (focus walk_at "ev")) | ((with_reducible apply call_ev); (focus walk_at "ev"); (focus first | assumption | rfl)) | ((with_reducible apply truF_ev); (focus walk_at "ev"); (focus first | assumption | rfl)) | ((with_reducible apply notT_ev); (focus walk_at "ev")) | ((with_reducible apply andT_e); (focus walk_at "ev"); (focus (intro hq; walk_at "ev"))) | ((with_reducible apply orT_e); (focus walk_at "ev"); (focus (intro hq; walk_at "ev"))) | ((with_reducible apply seq_tup); (focus walk_at "ev")) | ((with_reducible apply seq_lst); (focus walk_at "ev")) | ((with_reducible apply seq_str); (focus walk_at "ev")))
local macro_rules | `(tactic| walk_at "w1") => `(tactic| with_reducible first | refine wS_seq ?_ | refine wS_set ?_ | refine wS_ret ?_ | refine wS_if ?_ | refine wS_skip ?_ | refine wS_drop ?_ | refine wS_unp ?_ | refine wE_b2 ?_ | refine wE_b1 ?_ | refine wE_bA ?_ | refine wE_bS ?_ | refine wE_call ?_ | refine wA_c ?_ | refine wA_n ?_ | refine wE_c ?_ | refine wO_n ?_ | refine wO_s ?_ | refine wT_asB ?_ | refine wT_tru ?_ | refine wT_not ?_ | refine wT_and ?_ | refine wT_or ?_ | refine wT_yes ?_ | refine wE_and ?_ | refine wE_or ?_ | refine wE_if ?_ | refine wI_seq ?_ | refine wI_rng ?_ | refine ex_bl ?_ | refine ex_trA ?_ | refine ex_trB ?_ | refine ex_nat ?_ | refine ex_int ?_ | refine ex_unT ?_ | refine ex_unL ?_ | refine and_t ?_ | refine and_f ?_ | refine and_nt ?_ | refine and_nf ?_)
local macro_rules | `(tactic| walk_at "w") => `(tactic| repeat (first | walk_at "w1" | refine wE_v (by rfl) ?_ | ((with_reducible refine wS_par2 ?_ ?_); focus (simp; done)) | ((with_reducible refine wS_par3 ?_ ?_); focus (simp; done)) | ((with_reducible refine wS_setN ?_ ?_); focus (simp; done)) | ((with_reducible apply ex_op); focus (first | exact seqOf_wd | with_reducible exact eq_ss | with_reducible exact ne_ss | with_reducible exact eq_ww | with_reducible exact ne_ww | with_reducible exact eq_ii | with_reducible exact ne_ii | with_reducible exact lt_ii | with_reducible exact gt_ii | with_reducible exact le_ii | with_reducible exact ge_ii | exact all_true' _ _ | walk_at "op")) ))
theorem law_ok : LawOk := fun js hjs => by
  refine ⟨["cells", "turn", "rest", "drawn"], cutD js none (some 63), 0, 0, 0, .dct (fds (cutD js none (some 63)) 0 0 0), rfl, ?_, fun p => ?_⟩
  · exact call_ev (aCons_ev (v0 (d := .scr js) rfl) a0) (fn_rt (ret_ev rfl))
  · exact law42_main dip_k42 rfl p (.scr js) _ ⟨_, 0, 0, 0, rfl, Int.le_refl _, Int.le_refl _⟩

end DL

open PySem PySem.W PyProof.Rows
set_option maxHeartbeats 0 in
theorem PySem.Challenge.cw_firstfailing_k42_whole_surely_least_holds : PySem.Challenge.rw_firstfailing_k42_whole_surely_least.Holds := by
  w_on; o_law; k_head; (case hw => w_witness2)
  k_fill
  refine DL.walk_ofG (l := PySem.Challenge.rw_firstfailing_k42_whole_surely_least) (m := 63) (n := 8) (pa := "_law_script") (sp := fun w => DL.spLaw _) rfl (by decide) rfl ⟨rfl, by decide, by decide⟩ (fun w h Y => PySem.W.kIn_of Y) ?F (fun _ _ a ns hl _ hS => ⟨a, ns, rfl, hS, hl, fun _ => rfl⟩)
  case F =>
    intro w mg fa h KX G hmg
    have hmg : mg "law" = some (.ref fa) := hmg
    refine' DL.fn_then "_law_feed" (DL.topS 31) KX G ?a ?l ?c ?k (fun A_law_feed => ?_); (case a => k_is); (case l => k_is); (case c => k_is); (case k => k_is)
    refine' DL.fn_then "_law_draw" (DL.topS 32) KX G ?a ?l ?c ?k (fun A_law_draw => ?_); (case a => k_is); (case l => k_is); (case c => k_is); (case k => k_is)
    refine' DL.fn_then "_law_pick" (DL.topS 33) KX G ?a ?l ?c ?k (fun A_law_pick => ?_); (case a => k_is); (case l => k_is); (case c => k_is); (case k => k_is)
    refine' DL.fn_then "_law_letters" (DL.topS 34) KX G ?a ?l ?c ?k (fun A_law_letters => ?_); (case a => k_is); (case l => k_is); (case c => k_is); (case k => k_is)
    refine' DL.fn_then "_law_below" (DL.topS 35) KX G ?a ?l ?c ?k (fun A_law_below => ?_); (case a => k_is); (case l => k_is); (case c => k_is); (case k => k_is)
    refine' DL.fn_then "_law_rule" (DL.topS 36) KX G ?a ?l ?c ?k (fun A_law_rule => ?_); (case a => k_is); (case l => k_is); (case c => k_is); (case k => k_is)
    refine' DL.fn_then "_law_all" (DL.topS 38) KX G ?a ?l ?c ?k (fun A_law_all => ?_); (case a => k_is); (case l => k_is); (case c => k_is); (case k => k_is)
    refine' DL.fn_then "_law_start" (DL.topS 39) KX G ?a ?l ?c ?k (fun A_law_start => ?_); (case a => k_is); (case l => k_is); (case c => k_is); (case k => k_is)
    refine' DL.fn_then "_law_tome" (DL.topS 37) KX G ?a ?l ?c ?k (fun A_law_tome => ?_); (case a => k_is); (case l => k_is); (case c => k_is); (case k => k_is)
    refine' DL.fn_then "_law_scene" (DL.topS 44) KX G ?a ?l ?c ?k (fun A_law_scene => ?_); (case a => k_is); (case l => k_is); (case c => k_is); (case k => k_is)
    refine' DL.fn_then "_law_results" (DL.topS 41) KX G ?a ?l ?c ?k (fun A_law_results => ?_); (case a => k_is); (case l => k_is); (case c => k_is); (case k => k_is)
    refine' DL.fn_then "_law_steps" (DL.topS 42) KX G ?a ?l ?c ?k (fun A_law_steps => ?_); (case a => k_is); (case l => k_is); (case c => k_is); (case k => k_is)
    refine' DL.fn_then "_law_is_at_most" (DL.topS 40) KX G ?a ?l ?c ?k (fun A_law_is_at_most => ?_); (case a => k_is); (case l => k_is); (case c => k_is); (case k => k_is)
    refine' DL.fn_then "_law_end" (DL.topS 43) KX G ?a ?l ?c ?k (fun A_law_end => ?_); (case a => k_is); (case l => k_is); (case c => k_is); (case k => k_is)
    refine' DL.fn_then "letters_of" (DL.topS 9) KX G ?a ?l ?c ?k (fun Aletters_of => ?_); (case a => k_is); (case l => k_is); (case c => k_is); (case k => k_is)
    refine' DL.fn_then "is_thing" (DL.topS 6) KX G ?a ?l ?c ?k (fun Ais_thing => ?_); (case a => k_is); (case l => k_is); (case c => k_is); (case k => k_is)
    refine' DL.fn_then "has_letters" (DL.topS 11) KX G ?a ?l ?c ?k (fun Ahas_letters => ?_); (case a => k_is); (case l => k_is); (case c => k_is); (case k => k_is)
    refine' DL.fn_then "need_thing" (DL.topS 14) KX G ?a ?l ?c ?k (fun Aneed_thing => ?_); (case a => k_is); (case l => k_is); (case c => k_is); (case k => k_is)
    refine' DL.fn_then "need_manner" (DL.topS 19) KX G ?a ?l ?c ?k (fun Aneed_manner => ?_); (case a => k_is); (case l => k_is); (case c => k_is); (case k => k_is)
    refine' DL.fn_then "need_letter" (DL.topS 13) KX G ?a ?l ?c ?k (fun Aneed_letter => ?_); (case a => k_is); (case l => k_is); (case c => k_is); (case k => k_is)
    refine' DL.fn_then "letters_reached" (DL.topS 7) KX G ?a ?l ?c ?k (fun Aletters_reached => ?_); (case a => k_is); (case l => k_is); (case c => k_is); (case k => k_is)
    refine' DL.fn_then "letters_below" (DL.topS 10) KX G ?a ?l ?c ?k (fun Aletters_below => ?_); (case a => k_is); (case l => k_is); (case c => k_is); (case k => k_is)
    refine' DL.fn_then "does_fall" (DL.topS 21) KX G ?a ?l ?c ?k (fun Adoes_fall => ?_); (case a => k_is); (case l => k_is); (case c => k_is); (case k => k_is)
    refine' DL.fn_then "need_falling" (DL.topS 20) KX G ?a ?l ?c ?k (fun Aneed_falling => ?_); (case a => k_is); (case l => k_is); (case c => k_is); (case k => k_is)
    refine' DL.fn_then "places" (DL.topS 24) KX G ?a ?l ?c ?k (fun Aplaces => ?_); (case a => k_is); (case l => k_is); (case c => k_is); (case k => k_is)
    refine' DL.fn_then "results_of" (DL.topS 23) KX G ?a ?l ?c ?k (fun Aresults_of => ?_); (case a => k_is); (case l => k_is); (case c => k_is); (case k => k_is)
    refine' DL.fn_then "led_steps" (DL.topS 22) KX G ?a ?l ?c ?k (fun Aled_steps => ?_); (case a => k_is); (case l => k_is); (case c => k_is); (case k => k_is)
    refine' DL.fn_then "ranking_from" (DL.topS 27) KX G ?a ?l ?c ?k (fun Aranking_from => ?_); (case a => k_is); (case l => k_is); (case c => k_is); (case k => k_is)
    refine' DL.fd_then "ranking_of" (DL.topS 26) [("manner", .str "again")] KX G ?a ?l ?c ?k ?d (fun Aranking_of => ?_); (case a => k_is); (case l => k_is); (case c => k_is); (case k => k_is); (case d => refine' DL.kwd1 ?n28_0 ?r28_0; (case n28_0 => k_is); (case r28_0 => first | exact ⟨_, rfl⟩ | rfl))
    refine' DL.fn_then "downs_of" (DL.topS 15) KX G ?a ?l ?c ?k (fun Adowns_of => ?_); (case a => k_is); (case l => k_is); (case c => k_is); (case k => k_is)
    refine' DL.fn_then "things_at_most" (DL.topS 12) KX G ?a ?l ?c ?k (fun Athings_at_most => ?_); (case a => k_is); (case l => k_is); (case c => k_is); (case k => k_is)
    refine' DL.fn_then "comes_from" (DL.topS 16) KX G ?a ?l ?c ?k (fun Acomes_from => ?_); (case a => k_is); (case l => k_is); (case c => k_is); (case k => k_is)
    refine' DL.fd_then "finds_least" (DL.topS 29) [("manner", .str "again")] KX G ?a ?l ?c ?k ?d (fun Afinds_least => ?_); (case a => k_is); (case l => k_is); (case c => k_is); (case k => k_is); (case d => refine' DL.kwd1 ?n32_0 ?r32_0; (case n32_0 => k_is); (case r32_0 => first | exact ⟨_, rfl⟩ | rfl))
    refine' DL.fn_then "_law_is_least" (DL.topS 45) KX G ?a ?l ?c ?k (fun A_law_is_least => ?_); (case a => k_is); (case l => k_is); (case c => k_is); (case k => k_is)
    refine' DL.fn_then "law" (DL.topS 46) KX G ?a ?l ?c ?k (fun Alaw => ?_); (case a => k_is); (case l => k_is); (case c => k_is); (case k => k_is)
    refine' DL.no_then "list" KX G ?a (fun m_list => ?_); (case a => k_is)
    refine' DL.no_then "int" KX G ?a (fun m_int => ?_); (case a => k_is)
    refine' DL.no_then "len" KX G ?a (fun m_len => ?_); (case a => k_is)
    refine' DL.no_then "tuple" KX G ?a (fun m_tuple => ?_); (case a => k_is)
    refine' DL.no_then "sorted" KX G ?a (fun m_sorted => ?_); (case a => k_is)
    refine' DL.no_then "range" KX G ?a (fun m_range => ?_); (case a => k_is)
    refine' DL.no_then "set" KX G ?a (fun m_set => ?_); (case a => k_is)
    refine' DL.no_then "dict" KX G ?a (fun m_dict => ?_); (case a => k_is)
    refine' DL.no_then "isinstance" KX G ?a (fun m_isinstance => ?_); (case a => k_is)
    refine' DL.no_then "str" KX G ?a (fun m_str => ?_); (case a => k_is)
    refine' DL.no_then "all" KX G ?a (fun m_all => ?_); (case a => k_is)
    refine' DL.no_then "enumerate" KX G ?a (fun m_enumerate => ?_); (case a => k_is)
    refine' DL.no_then "any" KX G ?a (fun m_any => ?_); (case a => k_is)
    refine' DL.no_then "repr" KX G ?a (fun m_repr => ?_); (case a => k_is)
    refine' DL.cst_then "MANNERS" ["again", "on"] KX G ?a ?l ?z ?v (fun c_MANNERS => ?_); (case a => k_is); (case l => k_is); (case z => decide +kernel); (case v => decide +kernel)
    exact DL.law_at Alaw hmg (fun _ _ _ _ _ _ u => rfl) fun f fd Fx bs => DL.all_ok A_law_feed A_law_draw A_law_pick A_law_letters A_law_below A_law_rule A_law_all A_law_start A_law_tome A_law_scene A_law_results A_law_steps A_law_is_at_most A_law_end Aletters_of Ais_thing Ahas_letters Aneed_thing Aneed_manner Aneed_letter Aletters_reached Aletters_below Adoes_fall Aneed_falling Aplaces Aresults_of Aled_steps Aranking_from Aranking_of Adowns_of Athings_at_most Acomes_from Afinds_least A_law_is_least m_list m_int m_len m_tuple m_sorted m_range m_set m_dict m_isinstance m_str m_all m_enumerate m_any m_repr c_MANNERS DL.law_ok f fd Fx bs

