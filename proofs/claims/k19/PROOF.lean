import PyProof.Rows.All
import Wide.All
import OpenK.AllK
import Wide.FinOn
import HandS.ForMost
import HandS.IsInst
import HandS.Small
import HandS.TupAny
import HandS.Wide
import HandS.Deep
import HandS.Lambda
import HandS.ExcInit
import HandS.ExcIs
import HandS.ExcField
import HandS.EndTab
import HandS.CallSlots
import HandS.Records
import HandS.Flow
import HandS.More
import HandS.Conv
import HandS.Style
import HandS.WordsDict
import HandS.Iter
import HandS.DictComp
import HandS.NoneIn
import HandS.Ends
import KE.KDictPairs
import KE.KSortTupG
import PyProof.Rows.SortShellAny
import PyProof.Rows.StrRev
import KE.GoesMore
import HandS.SetTxt0
import HandS.TupSets
import HandS.Strs
import KE.KDictSum
import HandS.ExcValue
import PyProof.ListStr
import KE.KDictList
import PyProof.TupleOfSeq
import HandS.Replace
import KE.KRevSl
import HandS.MakeKwOnly
import HandS.HeadNt
import KE.GoesZip
import KE.GoesEnum
import HandS.RaiseMore
import KE.DataMinMax
import HandS.SortKw
import KE.KExcIs
import HandS.HotCalls
import HandS.FStr
import PyProof.StrOps2
import PySem.Challenge.RW_firstfailing_k19_endings_told
set_option Elab.async false
set_option linter.all false
set_option maxRecDepth 100000
set_option maxHeartbeats 8000000
namespace DL
open PySem PySem.Spec PyProof.Rows L2
def tupO (its : List Value) : Obj := { cls := .type "tuple", data := .seq its.toArray }
section
variable {X : Cx} {pins : List (Addr × Obj)} {σ : L2.St} {H : Hp} {s : Shared}
theorem laidT {xs : List V} {its : List Value} (I : Inv X pins σ H s) (r : Vals xs its) (hz : xs.length ≤ sizeLine) :
    Inv X pins σ (upd H s.heap.objs.size (.frz (tupO its) (.tup xs))) { s with heap := s.heap.push (tupO its) } :=
  I.laid (t' := s.toks) (fun b o e => Heap.get?_push_of_some _ e) (Nat.le_refl _) (show ObjOk X.prog X.w _ _ _ (.frz (tupO its) (.tup xs)) from ⟨Heap.get?_push_size _ rfl, hz, its, r, IsTup.new _ _⟩)
def NewT (H : Hp) (xs : List V) (Q : VK) : Prop := ∀ p o, H p = none → o.dict = none → Q (.ref p) (upd H p (.frz o (.tup xs)))
theorem newT_ok {xs : List V} {its : List Value} {Q : VK} (I : Inv X pins σ H s) (r : Vals xs its) (hz : xs.length ≤ sizeLine) (q : NewT H xs Q) : EP X pins σ Q (.ref s.heap.objs.size) { s with heap := s.heap.push (tupO its) } :=
  ⟨.ref s.heap.objs.size, _, laidT I r hz, rfl, q _ (tupO its) (I.hok.fresh (Nat.le_refl _)) rfl⟩
def tTupF (t : TA) : TE := fun σ H Q => t σ H fun xs H1 => xs.length ≤ sizeLine ∧ NewT H1 xs Q
theorem pe_tupF {es : List Expr} {t : TA} {pos : Pos} {x1} (h : PA X es t) : PE X (.Tuple es x1 pos) (tTupF t) where
  run := by
    intro pins s σ H Q I hq
    refine wpAny_Tuple_spliced (thn (h.run pos pins s σ H _ I hq) ?_)
    rintro us s1 ⟨xs, H1, I1, r, z, q⟩
    exact ⟨by rw [← r.length]; exact z, newT_ok I1 r z q⟩
def rTupF (K : PySem.W.Frag) : List V → Hp → VK → Prop := fun xs H Q => ∃ p ys, xs = [.ref p] ∧ ((SqL K H p ys ∧ NewT H ys Q) ∨ (SqT K H p ys ∧ Q (.ref p) H))
theorem call_tupF : CallR X (.type "tuple") (rTupF X.K) := by
  intro pins s σ H xs us Q I r ⟨p, ys, ex, h⟩
  subst ex
  obtain ⟨u, eu, rx⟩ := vals1 r
  subst eu
  cases rx
  rcases h with ⟨hq, q⟩ | ⟨hq, q⟩
  · obtain ⟨its, rv, pl, hz⟩ := I.list hq
    have hl := rv.length
    refine call_tuple_list pl.isList (fun h' kp => ?_) (by rw [List.size_toArray]; omega)
    exact newT_ok (s := { s with heap := h' }) (I.kept (t' := s.toks) kp) rv hz q
  · obtain ⟨its, rv, pl, hz⟩ := I.tuple hq
    exact call_tuple_same pl ⟨.ref p, H, I, rfl, q⟩
def rCatF (K : PySem.W.Frag) : R2 := fun x y H Q => ∃ a b xs ys, x = .ref a ∧ y = .ref b ∧ SqT K H a xs ∧ SqT K H b ys ∧ xs.length + ys.length ≤ sizeLine ∧ (xs = [] → Q (.ref b) H) ∧ (xs ≠ [] → ys = [] → Q (.ref a) H) ∧ (xs ≠ [] → ys ≠ [] → NewT H (xs ++ ys) Q)
theorem op_catF : OpR X (binaryOp .Add) (rCatF X.K) := by
  intro pins s σ H x y v u Q I rx ry ⟨a, b, xs, ys, ex, ey, ha, hb, hz, q0, q1, q2⟩
  subst ex ey
  by_cases hx : xs = []
  · exact op_catA pins s σ H _ _ v u Q I rx ry ⟨a, b, xs, ys, rfl, rfl, ha, hb, hz, q0, fun c => absurd hx c, fun c => absurd hx c⟩
  · cases rx
    cases ry
    obtain ⟨its, ra, pa, _⟩ := I.tuple ha
    obtain ⟨jts, rb, pb, _⟩ := I.tuple hb
    have hz' : its.length + jts.length ≤ sizeLine := by rw [← ra.length, ← rb.length]; exact hz
    refine HT.cat_tup pa pb (fun c => hx (ra.nil_iff.mp c)) (fun c => ⟨.ref a, H, I, rfl, q1 hx (rb.nil_iff.mp c)⟩) (fun c => ?_) hz'
    exact newT_ok I (ra.append rb) (by rw [List.length_append]; exact hz) (q2 hx fun e => c (rb.nil_iff.mpr e))
def rSlF (K : PySem.W.Frag) : V → Option Int → Option Int → Hp → VK → Prop := fun x lo hi H Q => ∃ a xs, x = .ref a ∧ SqT K H a xs ∧
  (HT.sIx xs.length 0 lo = 0 ∧ HT.sIx xs.length xs.length hi = xs.length → Q (.ref a) H) ∧ (¬ (HT.sIx xs.length 0 lo = 0 ∧ HT.sIx xs.length xs.length hi = xs.length) → NewT H (cutV xs lo hi) Q)
theorem sl_tupF : SlR X (rSlF X.K) := by
  intro pins s σ H x v vl vu lo hi sl Q I rx hs pl pu ⟨a, xs, ex, hx, q1, q2⟩
  by_cases hw : HT.sIx xs.length 0 lo = 0 ∧ HT.sIx xs.length xs.length hi = xs.length
  · exact sl_tupA pins s σ H x v vl vu lo hi sl Q I rx hs pl pu ⟨a, xs, ex, hx, q1, fun c => absurd hw c⟩
  · subst ex
    cases rx
    obtain ⟨its, r, ht, hz⟩ := I.tuple hx
    have hl : its.toArray.size = xs.length := by rw [List.size_toArray, r.length]
    refine ⟨"tuple", _, PyProof.Rows.slot_tuple_getitem.lookup, ht.typeIs, HT.getItem_tuple_cut ht hs pl pu (by rw [hl]; exact hw) ?_ (by rw [hl]; exact hz)⟩
    rw [hl]
    exact newT_ok I ((r.drop _).take _) (Nat.le_trans (cutV_length xs lo hi) hz) (q2 hw)
end
end DL

namespace DL
open PySem PySem.Spec PyProof.Rows L2

inductive Dt where
  | non | bl (b : Bool) | int (i : Int) | str (x : Str)
  | tup (xs : List Dt) | lst (xs : List Dt) | dct (kvs : List (Key × Dt)) | ref (a : Addr) | scr (ns : List Int)

abbrev Env := List (Option Dt)
abbrev Sto := List (Addr × Dt)
abbrev Fe := Env → Sto → Option (Dt × Sto)

def PlT (K : PySem.W.Frag) (F : Hp) (a : Addr) (xs : List V) : Prop := (∃ o, F a = some (.frz o (.tup xs)) ∧ o.dict = none) ∨ (∃ o, K.lookup a = some o ∧ o.dict = none) ∨ ∃ x r, xs = x :: r ∧ ∀ b, x ≠ .ref b
theorem PlT.mono {K : PySem.W.Frag} {F F' : Hp} {a : Addr} {xs : List V} (e : Same F F') (h : PlT K F a xs) : PlT K F' a xs := by
  rcases h with ⟨o, h1, h2⟩ | h | h
  · exact .inl ⟨o, e _ _ h1, h2⟩
  · exact .inr (.inl h)
  · exact .inr (.inr h)
mutual
/-- a value stands for data, by the frozen part F of the heap -/
inductive Rep (K : PySem.W.Frag) (F : Hp) : V → Dt → Prop
  | non : Rep K F .non .non
  | bl (b : Bool) : Rep K F (.bl b) (.bl b)
  | int (i : Int) : Rep K F (.int i) (.int i)
  | str (x : Str) : Rep K F (.str x) (.str x)
  | ref (a : Addr) : Rep K F (.ref a) (.ref a)
  | tup {a : Addr} {xs : List V} {ds : List Dt} : SqT K F a xs → PlT K F a xs → Reps K F xs ds → Rep K F (.ref a) (.tup ds)
  | lst {a : Addr} {xs : List V} {ds : List Dt} : F a = some (.lst xs) → Reps K F xs ds → Rep K F (.ref a) (.lst ds)
  | scr {a : Addr} {ns : List Int} : SqL K F a (ns.map V.int) → Rep K F (.ref a) (.scr ns)
  | dct {a : Addr} {od : Obj} {xs : List (Key × V)} {ds : List (Key × Dt)} : F a = some (.frz od (.dK xs)) → Repk K F xs ds → Rep K F (.ref a) (.dct ds)
inductive Reps (K : PySem.W.Frag) (F : Hp) : List V → List Dt → Prop
  | nil : Reps K F [] []
  | cons {v : V} {vs : List V} {d : Dt} {ds : List Dt} : Rep K F v d → Reps K F vs ds → Reps K F (v :: vs) (d :: ds)
inductive Repk (K : PySem.W.Frag) (F : Hp) : List (Key × V) → List (Key × Dt) → Prop
  | nil : Repk K F [] []
  | cons {k : Key} {v : V} {vs : List (Key × V)} {d : Dt} {ds : List (Key × Dt)} : Rep K F v d → Repk K F vs ds → Repk K F ((k, v) :: vs) ((k, d) :: ds)
end

theorem sqT_same {K : PySem.W.Frag} {H H' : Hp} {a : Addr} {xs : List V} (e : Same H H') (h : SqT K H a xs) : SqT K H' a xs := by
  rcases h with (h | ⟨o, h⟩) | h
  · exact .inl (.inl (e _ _ h))
  · exact .inl (.inr ⟨o, e _ _ h⟩)
  · exact .inr h

section
variable {K : PySem.W.Frag} {F F' : Hp}
mutual
theorem Rep.mono (e : Same F F') : ∀ (d : Dt) (v : V), Rep K F v d → Rep K F' v d
  | .non, _, h => by cases h; exact .non
  | .bl b, _, h => by cases h; exact .bl b
  | .int i, _, h => by cases h; exact .int i
  | .str x, _, h => by cases h; exact .str x
  | .ref a, _, h => by cases h; exact .ref a
  | .tup ds, _, h => by
    cases h with
    | tup h1 hp h2 => exact .tup (sqT_same e h1) (hp.mono e) (Reps.mono e ds _ h2)
  | .lst ds, _, h => by
    cases h with
    | lst h1 h2 => exact .lst (e _ _ h1) (Reps.mono e ds _ h2)
  | .scr ns, _, h => by
    cases h with
    | scr h1 => exact .scr (e.seq h1)
  | .dct ks, _, h => by
    cases h with
    | dct h1 h2 => exact .dct (e _ _ h1) (Repk.mono e ks _ h2)
theorem Reps.mono (e : Same F F') : ∀ (ds : List Dt) (vs : List V), Reps K F vs ds → Reps K F' vs ds
  | [], _, h => by cases h; exact .nil
  | d :: ds, _, h => by
    cases h with
    | cons h1 h2 => exact .cons (Rep.mono e d _ h1) (Reps.mono e ds _ h2)
theorem Repk.mono (e : Same F F') : ∀ (ds : List (Key × Dt)) (vs : List (Key × V)), Repk K F vs ds → Repk K F' vs ds
  | [], _, h => by cases h; exact .nil
  | (k, d) :: ds, _, h => by
    cases h with
    | cons h1 h2 => exact .cons (Rep.mono e d _ h1) (Repk.mono e ds _ h2)
end
theorem Reps.length : ∀ {vs : List V} {ds : List Dt}, Reps K F vs ds → vs.length = ds.length
  | [], [], _ => rfl
  | [], _ :: _, h => by cases h
  | _ :: _, [], h => by cases h
  | _ :: vs, _ :: ds, h => by
    cases h with
    | cons h1 h2 => rw [List.length_cons, List.length_cons, Reps.length h2]
theorem Reps.get : ∀ {vs : List V} {ds : List Dt} {i : Nat} {d : Dt}, Reps K F vs ds → ds[i]? = some d → ∃ v, vs[i]? = some v ∧ Rep K F v d
  | [], [], _, _, _, e => by simp at e
  | [], _ :: _, _, _, h, _ => by cases h
  | _ :: _, [], _, _, h, _ => by cases h
  | v :: vs, d :: ds, 0, d', h, e => by
    cases h with
    | cons h1 h2 =>
      have e' : d = d' := by simpa using e
      subst e'
      exact ⟨v, rfl, h1⟩
  | v :: vs, d :: ds, i + 1, d', h, e => by
    cases h with
    | cons h1 h2 =>
      obtain ⟨u, e1, r⟩ := Reps.get (i := i) h2 (by simpa using e)
      exact ⟨u, by simpa using e1, r⟩
theorem Reps.append : ∀ {vs us : List V} {ds es : List Dt}, Reps K F vs ds → Reps K F us es → Reps K F (vs ++ us) (ds ++ es)
  | [], _, [], _, _, h => h
  | [], _, _ :: _, _, h, _ => by cases h
  | _ :: _, _, [], _, h, _ => by cases h
  | _ :: _, _, _ :: _, _, h, h' => by
    cases h with
    | cons h1 h2 => exact .cons h1 (Reps.append h2 h')
theorem Reps.take : ∀ {vs : List V} {ds : List Dt} (n : Nat), Reps K F vs ds → Reps K F (vs.take n) (ds.take n)
  | _, _, 0, _ => .nil
  | [], [], _ + 1, _ => .nil
  | [], _ :: _, _, h => by cases h
  | _ :: _, [], _, h => by cases h
  | _ :: _, _ :: _, n + 1, h => by
    cases h with
    | cons h1 h2 => exact .cons h1 (Reps.take n h2)
theorem Reps.drop : ∀ {vs : List V} {ds : List Dt} (n : Nat), Reps K F vs ds → Reps K F (vs.drop n) (ds.drop n)
  | _, _, 0, h => h
  | [], [], _ + 1, _ => .nil
  | [], _ :: _, _, h => by cases h
  | _ :: _, [], _, h => by cases h
  | _ :: _, _ :: _, n + 1, h => by
    cases h with
    | cons h1 h2 => exact Reps.drop n h2
theorem Reps.snoc {vs : List V} {ds : List Dt} {v : V} {d : Dt} (h : Reps K F vs ds) (h' : Rep K F v d) : Reps K F (vs ++ [v]) (ds ++ [d]) := h.append (.cons h' .nil)
theorem Reps.reverse : ∀ {vs : List V} {ds : List Dt}, Reps K F vs ds → Reps K F vs.reverse ds.reverse
  | [], [], _ => .nil
  | [], _ :: _, h => by cases h
  | _ :: _, [], h => by cases h
  | _ :: _, _ :: _, h => by
    cases h with
    | cons h1 h2 => rw [List.reverse_cons, List.reverse_cons]; exact (Reps.reverse h2).snoc h1
theorem Reps.strs : ∀ (xs : List Str), Reps K F (xs.map V.str) (xs.map Dt.str)
  | [] => .nil
  | x :: xs => .cons (.str x) (Reps.strs xs)
theorem Reps.ints : ∀ (xs : List Int), Reps K F (xs.map V.int) (xs.map Dt.int)
  | [] => .nil
  | x :: xs => .cons (.int x) (Reps.ints xs)
theorem Reps.of_strs : ∀ {vs : List V} {xs : List Str}, Reps K F vs (xs.map Dt.str) → vs = xs.map V.str
  | [], [], _ => rfl
  | [], _ :: _, h => by cases h
  | _ :: _, [], h => by cases h
  | _ :: _, _ :: _, h => by
    cases h with
    | cons h1 h2 => cases h1; rw [Reps.of_strs h2]; rfl
theorem Reps.of_ints : ∀ {vs : List V} {xs : List Int}, Reps K F vs (xs.map Dt.int) → vs = xs.map V.int
  | [], [], _ => rfl
  | [], _ :: _, h => by cases h
  | _ :: _, [], h => by cases h
  | _ :: _, _ :: _, h => by
    cases h with
    | cons h1 h2 => cases h1; rw [Reps.of_ints h2]; rfl
theorem Reps.of_bls : ∀ {vs : List V} {xs : List Bool}, Reps K F vs (xs.map Dt.bl) → vs = xs.map V.bl
  | [], [], _ => rfl
  | [], _ :: _, h => by cases h
  | _ :: _, [], h => by cases h
  | _ :: _, _ :: _, h => by
    cases h with
    | cons h1 h2 => cases h1; rw [Reps.of_bls h2]; rfl
end

inductive ObR (K : PySem.W.Frag) (F : Hp) : HO → Dt → Prop
  | lst {vs : List V} {ds : List Dt} : Reps K F vs ds → ObR K F (.lst vs) (.lst ds)
  | dct {vs : List (Key × V)} {ds : List (Key × Dt)} : Repk K F vs ds → ObR K F (.dK vs) (.dct ds)
theorem ObR.mono {K : PySem.W.Frag} {F F' : Hp} (e : Same F F') {o : HO} {d : Dt} (h : ObR K F o d) : ObR K F' o d := by
  cases h with
  | lst h => exact .lst (Reps.mono e _ _ h)
  | dct h => exact .dct (Repk.mono e _ _ h)

def TabF (F : Hp) (ps : Array Value) (q : Str) : Prop := TriplesOk ps.toList ∧ ∀ (pos : Pos) (cv : Value), codeAmong pos ps.toList = some cv → ∃ c, cv = .ref c ∧ F c = some (LamX.CodeO c q)
theorem TabF.mono {F F' : Hp} (e : Same F F') {ps : Array Value} {q : Str} (h : TabF F ps q) : TabF F' ps q := ⟨h.1, fun pos cv hc => by
  obtain ⟨c, e1, e2⟩ := h.2 pos cv hc
  exact ⟨c, e1, e _ _ e2⟩⟩
inductive ObS (K : PySem.W.Frag) (F : Hp) : HO → Dt → Prop
  | lst {vs : List V} {ds : List Dt} : Reps K F vs ds → ObS K F (.lst vs) (.lst ds)
  | dct {vs : List (Key × V)} {ds : List (Key × Dt)} : Repk K F vs ds → ObS K F (.dK vs) (.dct ds)
  | tbl {ps : Array Value} {q : Str} : TabF F ps q → ObS K F (.tbl ps) (.str q)
theorem ObS.mono {K : PySem.W.Frag} {F F' : Hp} (e : Same F F') {o : HO} {d : Dt} (h : ObS K F o d) : ObS K F' o d := by
  cases h with
  | lst h => exact .lst (Reps.mono e _ _ h)
  | dct h => exact .dct (Repk.mono e _ _ h)
  | tbl h => exact .tbl (h.mono e)
theorem ObR.toS {K : PySem.W.Frag} {F : Hp} {o : HO} {d : Dt} (h : ObR K F o d) : ObS K F o d := by
  cases h with
  | lst h => exact .lst h
  | dct h => exact .dct h
theorem ObS.lstR {K : PySem.W.Frag} {F : Hp} {o : HO} {ds : List Dt} (h : ObS K F o (.lst ds)) : ObR K F o (.lst ds) := by
  cases h with
  | lst h => exact .lst h
structure Bs (K : PySem.W.Frag) (ft : List Addr) (F H : Hp) (s : Sto) : Prop where
  sub : Same F H
  ad : s.map (·.1) = ft
  nd : ft.Nodup
  st : ∀ a d, (a, d) ∈ s → ∃ o, H a = some o ∧ ObS K F o d
  fr : ∀ a, a ∈ ft → F a = none
structure Go (ft : List Addr) (F H F' H' : Hp) : Prop where
  ext : ∀ a o, H a = some o → a ∉ ft → H' a = some o
  sam : Same F F'
  new : ∀ a o, F' a = some o → F a = some o ∨ H a = none
theorem Go.refl {ft : List Addr} {F H : Hp} : Go ft F H F H := ⟨fun _ _ e _ => e, Same.refl _, fun _ _ e => .inl e⟩
theorem Bs.has {K : PySem.W.Frag} {ft : List Addr} {F H : Hp} {s : Sto} (b : Bs K ft F H s) {a : Addr} (h : a ∈ ft) : ∃ d o, (a, d) ∈ s ∧ H a = some o ∧ ObS K F o d := by
  rw [← b.ad] at h
  obtain ⟨p, hp, e⟩ := List.mem_map.mp h
  obtain ⟨a', d⟩ := p
  have e' : a' = a := e
  subst e'
  obtain ⟨o, h1, h2⟩ := b.st _ _ hp
  exact ⟨d, o, hp, h1, h2⟩
theorem Bs.nofree {K : PySem.W.Frag} {ft : List Addr} {F H : Hp} {s : Sto} (b : Bs K ft F H s) {a : Addr} (h : H a = none) : a ∉ ft := fun hm => by
  obtain ⟨d, o, _, e, _⟩ := b.has hm
  rw [h] at e; cases e
theorem Go.trans {K : PySem.W.Frag} {ft : List Addr} {F H F1 H1 F2 H2 : Hp} {s : Sto} (a : Go ft F H F1 H1) (b : Go ft F1 H1 F2 H2) (bs : Bs K ft F1 H1 s) : Go ft F H F2 H2 :=
  ⟨fun c o e n => b.ext c o (a.ext c o e n) n, a.sam.trans b.sam, fun c o e => by
    rcases b.new c o e with e1 | e1
    · exact a.new c o e1
    · right
      cases q : H c with
      | none => rfl
      | some u =>
        have := a.ext c u q (bs.nofree e1)
        rw [e1] at this; cases this⟩
theorem Go.free {K : PySem.W.Frag} {ft : List Addr} {F H F1 H1 : Hp} {s : Sto} (a : Go ft F H F1 H1) (bs : Bs K ft F1 H1 s) {c : Addr} (e1 : H1 c = none) : H c = none := by
  cases q : H c with
  | none => rfl
  | some u =>
    have := a.ext c u q (bs.nofree e1)
    rw [e1] at this; cases this
theorem Go.lay {K : PySem.W.Frag} {ft : List Addr} {F H : Hp} {s : Sto} {p : Addr} {o : HO} (b : Bs K ft F H s) (n : H p = none) : Go ft F H (upd F p o) (upd H p o) ∧ Bs K ft (upd F p o) (upd H p o) s := by
  have nF : F p = none := by
    cases q : F p with
    | none => rfl
    | some u => have := b.sub p u q; rw [n] at this; cases this
  have nft := b.nofree n
  have sF : Same F (upd F p o) := fun c u e => by rw [upd_ne (ne_of_none e nF)]; exact e
  refine ⟨⟨fun c u e _ => by rw [upd_ne (ne_of_none e n)]; exact e, sF, fun c u e => ?_⟩, ⟨fun c u e => ?_, b.ad, b.nd, fun a d h => ?_, fun a h => ?_⟩⟩
  · by_cases hc : c = p
    · subst hc; exact .inr n
    · rw [upd_ne hc] at e; exact .inl e
  · by_cases hc : c = p
    · subst hc; rw [upd_same] at e ⊢; exact e
    · rw [upd_ne hc] at e ⊢; exact b.sub c u e
  · obtain ⟨ob, e, r⟩ := b.st a d h
    exact ⟨ob, by rw [upd_ne (ne_of_none e n)]; exact e, r.mono sF⟩
  · rw [upd_ne (fun (z : a = p) => nft (z ▸ h))]; exact b.fr a h
theorem Go.made {K : PySem.W.Frag} {ft : List Addr} {F H : Hp} {s : Sto} {p : Addr} {o : HO} (b : Bs K ft F H s) (n : H p = none) : Go ft F H F (upd H p o) ∧ Bs K ft F (upd H p o) s ∧ F p = none := by
  have nF : F p = none := by
    cases q : F p with
    | none => rfl
    | some u => have := b.sub p u q; rw [n] at this; cases this
  refine ⟨⟨fun c u e _ => by rw [upd_ne (ne_of_none e n)]; exact e, Same.refl _, fun c u e => .inl e⟩, ⟨fun c u e => by rw [upd_ne (ne_of_none e nF)]; exact b.sub c u e, b.ad, b.nd, fun a d h => ?_, b.fr⟩, nF⟩
  obtain ⟨ob, e, r⟩ := b.st a d h
  exact ⟨ob, by rw [upd_ne (ne_of_none e n)]; exact e, r⟩
theorem Go.frost {K : PySem.W.Frag} {ft : List Addr} {F H F1 H1 : Hp} {s : Sto} {p : Addr} {o : HO} (g : Go ft F H F1 H1) (b : Bs K ft F1 H1 s) (n : H p = none) (n1 : F1 p = none) (e : H1 p = some o) (nf : p ∉ ft) : Go ft F H (upd F1 p o) H1 ∧ Bs K ft (upd F1 p o) H1 s := by
  have sF : Same F1 (upd F1 p o) := fun c u e => by rw [upd_ne (ne_of_none e n1)]; exact e
  refine ⟨⟨g.ext, g.sam.trans sF, fun c u e' => ?_⟩, ⟨fun c u e' => ?_, b.ad, b.nd, fun a d h => ?_, fun a h => ?_⟩⟩
  · by_cases hc : c = p
    · subst hc; exact .inr n
    · rw [upd_ne hc] at e'; exact g.new c u e'
  · by_cases hc : c = p
    · subst hc; rw [upd_same] at e'; rw [e]; exact e'
    · rw [upd_ne hc] at e'; exact b.sub c u e'
  · obtain ⟨ob, e, r⟩ := b.st a d h
    exact ⟨ob, e, r.mono sF⟩
  · rw [upd_ne (fun (z : a = p) => nf (z ▸ h))]; exact b.fr a h
theorem ObR.rep {K : PySem.W.Frag} {F : Hp} {p : Addr} {xs : List V} {d : Dt} (h : ObR K F (.lst xs) d) (n : F p = none) : Rep K (upd F p (.lst xs)) (.ref p) d := by
  have sF : Same F (upd F p (.lst xs)) := fun c u e => by rw [upd_ne (ne_of_none e n)]; exact e
  cases h with
  | lst h => exact .lst upd_same (Reps.mono sF _ _ h)
theorem ObR.repL {K : PySem.W.Frag} {F : Hp} {p : Addr} {od : Obj} {xs : List (Key × V)} {d : Dt} (h : ObR K F (.dK xs) d) (n : F p = none) : Rep K (upd F p (.frz od (.dK xs))) (.ref p) d := by
  have sF : Same F (upd F p (.frz od (.dK xs))) := fun c u e => by rw [upd_ne (ne_of_none e n)]; exact e
  cases h with
  | dct h => exact .dct upd_same (Repk.mono sF _ _ h)
theorem Go.frostL {K : PySem.W.Frag} {ft : List Addr} {F H F1 H1 : Hp} {s : Sto} {p : Addr} {o o' : HO} (g : Go ft F H F1 H1) (b : Bs K ft F1 H1 s) (n : H p = none) (n1 : F1 p = none) (e : H1 p = some o) (nf : p ∉ ft) : Go ft F H (upd F1 p o') (upd H1 p o') ∧ Bs K ft (upd F1 p o') (upd H1 p o') s := by
  have sF : Same F1 (upd F1 p o') := fun c u e => by rw [upd_ne (ne_of_none e n1)]; exact e
  refine ⟨⟨fun c u e' nc => ?_, g.sam.trans sF, fun c u e' => ?_⟩, ⟨fun c u e' => ?_, b.ad, b.nd, fun a d h => ?_, fun a h => ?_⟩⟩
  · rw [upd_ne (ne_of_none e' n)]; exact g.ext c u e' nc
  · by_cases hc : c = p
    · subst hc; exact .inr n
    · rw [upd_ne hc] at e'; exact g.new c u e'
  · by_cases hc : c = p
    · subst hc; rw [upd_same] at e' ⊢; exact e'
    · rw [upd_ne hc] at e' ⊢; exact b.sub c u e'
  · obtain ⟨ob, e, r⟩ := b.st a d h
    have ha : a ∈ ft := by rw [← b.ad]; exact List.mem_map.mpr ⟨_, h, rfl⟩
    exact ⟨ob, by rw [upd_ne (fun (z : a = p) => nf (z ▸ ha))]; exact e, r.mono sF⟩
  · rw [upd_ne (fun (z : a = p) => nf (z ▸ h))]; exact b.fr a h
inductive Lk (φ : Hp → Prop) : Hp → Prop
  | done {H : Hp} : φ H → Lk φ H
  | lock {H : Hp} {d : Addr} {u : HO} : H d = some u → Mut (some u) → (∀ od, Lk φ (upd H d (.frz od u))) → Lk φ H
theorem Lk.imp {φ ψ : Hp → Prop} {H : Hp} (h : Lk φ H) (k : ∀ H', φ H' → ψ H') : Lk ψ H := by
  induction h with
  | done h => exact .done (k _ h)
  | lock e m _ ih => exact .lock e m ih
theorem Lk.inv {X : Cx} {pins : List (Addr × Obj)} {σ : L2.St} {H : Hp} {s : Shared} {φ : Hp → Prop} (l : Lk φ H) (I : Inv X pins σ H s) : ∃ H', Inv X pins σ H' s ∧ φ H' := by
  induction l with
  | done h => exact ⟨_, I, h⟩
  | lock e m _ ih =>
    obtain ⟨od, I1⟩ := I.lock e m
    exact ih od I1

structure Gd where
  ft : List Addr
  he : Hp
  f0 : Hp

structure Sl (K : PySem.W.Frag) (g : Gd) (O : List Nat) (F H : Hp) (σ : L2.St) (env : Env) : Prop where
  len : σ.length = env.length
  pu : ∀ i d, i ∉ O → env[i]? = some (some d) → ∃ v, σ[i]? = some (some v) ∧ Rep K F v d
  ow : ∀ i, i ∈ O → ∃ p o d, σ[i]? = some (some (.ref p)) ∧ env[i]? = some (some d) ∧ H p = some o ∧ ObR K F o d ∧ F p = none ∧ p ∉ g.ft ∧ g.he p = none
  di : ∀ i j p, i ∈ O → j ∈ O → σ[i]? = some (some (.ref p)) → σ[j]? = some (some (.ref p)) → i = j
structure Stt (K : PySem.W.Frag) (g : Gd) (O : List Nat) (F H : Hp) (σ : L2.St) (env : Env) (s : Sto) : Prop where
  bs : Bs K g.ft F H s
  sl : Sl K g O F H σ env
  go : Go g.ft g.f0 g.he F H

section
variable {K : PySem.W.Frag} {g : Gd} {O : List Nat} {F H F' H' : Hp} {σ : L2.St} {env : Env} {s s' : Sto}
theorem Sl.step (h : Sl K g O F H σ env) (x : Go g.ft F H F' H') : Sl K g O F' H' σ env where
  len := h.len
  pu := fun i d hi e => by
    obtain ⟨v, e1, r⟩ := h.pu i d hi e
    exact ⟨v, e1, Rep.mono x.sam _ _ r⟩
  ow := fun i hi => by
    obtain ⟨p, o, d, e1, e2, e3, r, n, nf, nh⟩ := h.ow i hi
    refine ⟨p, o, d, e1, e2, x.ext p o e3 nf, r.mono x.sam, ?_, nf, nh⟩
    cases q : F' p with
    | none => rfl
    | some u =>
      rcases x.new p u q with z | z
      · rw [n] at z; cases z
      · rw [e3] at z; cases z
  di := h.di
theorem Stt.step (h : Stt K g O F H σ env s) (x : Go g.ft F H F' H') (b : Bs K g.ft F' H' s') : Stt K g O F' H' σ env s' :=
  ⟨b, h.sl.step x, h.go.trans x h.bs⟩
end

def tD (K : PySem.W.Frag) (O : List Nat) (f : Fe) : TE := fun σ H Q => ∃ g F env s d s', Stt K g O F H σ env s ∧ f env s = some (d, s') ∧
  ∀ v F' H', Go g.ft F H F' H' → Bs K g.ft F' H' s' → Rep K F' v d → Q v H'
def RepB (K : PySem.W.Frag) (ft : List Addr) (F H : Hp) (v : V) (d : Dt) : Prop := Rep K F v d ∨ ∃ p o, v = .ref p ∧ H p = some o ∧ ObR K F o d ∧ p ∉ ft
def tB (K : PySem.W.Frag) (O : List Nat) (f : Fe) : TE := fun σ H Q => ∃ g F env s d s', Stt K g O F H σ env s ∧ f env s = some (d, s') ∧
  ∀ v F' H', Go g.ft F H F' H' → Bs K g.ft F' H' s' → RepB K g.ft F' H' v d → Q v H'
def tN (K : PySem.W.Frag) (O : List Nat) (f : Fe) : TE := fun σ H Q => ∃ g F env s d s', Stt K g O F H σ env s ∧ f env s = some (d, s') ∧
  ∀ p o F' H', Go g.ft F H F' H' → Bs K g.ft F' H' s' → H p = none → F' p = none → H' p = some o → ObR K F' o d → Q (.ref p) H'

section
variable {X : Cx} {e : Expr}
theorem pe_imp {t t' : TE} (h : PE X e t) (k : ∀ σ H Q, t' σ H Q → t σ H Q) : PE X e t' := ⟨fun pins s σ H Q I q => h.run pins s σ H Q I (k σ H Q q)⟩
variable {K : PySem.W.Frag} {O : List Nat} {f : Fe}
theorem RepB.step {ft : List Addr} {F H F' H' : Hp} {v : V} {d : Dt} (r : RepB K ft F H v d) (x : Go ft F H F' H') : RepB K ft F' H' v d := by
  rcases r with r | ⟨p, o, rfl, e, r, n⟩
  · exact .inl (Rep.mono x.sam _ _ r)
  · exact .inr ⟨p, o, rfl, x.ext p o e n, r.mono x.sam, n⟩
theorem b_of_d (h : PE X e (tD K O f)) : PE X e (tB K O f) := pe_imp h fun σ H Q ⟨g, F, env, s, d, s', st, hf, k⟩ => ⟨g, F, env, s, d, s', st, hf, fun v F' H' x b r => k v F' H' x b (.inl r)⟩
theorem b_of_n (h : PE X e (tN K O f)) : PE X e (tB K O f) := pe_imp h fun σ H Q ⟨g, F, env, s, d, s', st, hf, k⟩ =>
  ⟨g, F, env, s, d, s', st, hf, fun p o F' H' x b n _ e r => k (.ref p) F' H' x b (.inr ⟨p, o, rfl, e, r, st.bs.nofree n⟩)⟩
theorem pe_lk {t : TE} (h : PE X e t) : PE X e (fun σ H Q => t σ H fun v H1 => Lk (Q v) H1) := by
  refine ⟨fun pins s σ H Q I hw => thn (h.run pins s σ H _ I hw) fun v s1 ⟨x, H1, I2, r, q⟩ => ?_⟩
  obtain ⟨H2, I3, q2⟩ := q.inv I2
  exact ⟨x, H2, I3, r, q2⟩
theorem own_lk {ft : List Addr} {F H F' H' : Hp} {s s' : Sto} {p : Addr} {o : HO} {d : Dt} {Q : Hp → Prop} (b0 : Bs K ft F H s) (x : Go ft F H F' H') (b : Bs K ft F' H' s') (n : H p = none) (n' : F' p = none) (e : H' p = some o) (r : ObR K F' o d)
    (k : ∀ F1 H1, Go ft F H F1 H1 → Bs K ft F1 H1 s' → Rep K F1 (.ref p) d → Q H1) : Lk Q H' := by
  cases r with
  | @lst vs ds q =>
    obtain ⟨x1, b1⟩ := x.frost b n n' e (b0.nofree n)
    exact .done (k _ H' x1 b1 (ObR.rep (.lst q) n'))
  | @dct vs ds q =>
    refine .lock e trivial fun od => .done ?_
    obtain ⟨x1, b1⟩ := x.frostL (o' := .frz od (.dK vs)) b n n' e (b0.nofree n)
    exact k _ _ x1 b1 (ObR.repL (.dct q) n')
theorem d_of_n (h : PE X e (tN K O f)) : PE X e (tD K O f) := pe_imp (pe_lk h) fun σ H Q ⟨g, F, env, s, d, s', st, hf, k⟩ =>
  ⟨g, F, env, s, d, s', st, hf, fun p o F' H' x b n n' e r => own_lk st.bs x b n n' e r fun F1 H1 x1 b1 rp => k (.ref p) F1 H1 x1 b1 rp⟩

def fVar (i : Nat) : Fe := fun env s => (env[i]?.join).map fun d => (d, s)
def fC (d : Dt) : Fe := fun _ s => some (d, s)
theorem d_var {i : Nat} (hi : i ∉ O) (h : PE X e (tVar i)) : PE X e (tD K O (fVar i)) := pe_imp h fun σ H Q ⟨g, F, env, s, d, s', st, hf, k⟩ => by
  unfold fVar at hf
  cases q : env[i]? with
  | none => rw [q] at hf; cases hf
  | some y =>
    cases y with
    | none => rw [q] at hf; cases hf
    | some d' =>
      rw [q] at hf
      cases hf
      obtain ⟨v, e1, r⟩ := st.sl.pu i d hi q
      exact ⟨v, e1, k v F H Go.refl st.bs r⟩
theorem b_var {i : Nat} (h : PE X e (tVar i)) : PE X e (tB K O (fVar i)) := pe_imp h fun σ H Q ⟨g, F, env, s, d, s', st, hf, k⟩ => by
  unfold fVar at hf
  cases q : env[i]? with
  | none => rw [q] at hf; cases hf
  | some y =>
    cases y with
    | none => rw [q] at hf; cases hf
    | some d' =>
      rw [q] at hf
      cases hf
      by_cases hi : i ∈ O
      · obtain ⟨p, o, d', e1, e2, e3, r, n, nf, _⟩ := st.sl.ow i hi
        rw [q] at e2; cases e2
        exact ⟨.ref p, e1, k _ F H Go.refl st.bs (.inr ⟨p, o, rfl, e3, r, nf⟩)⟩
      · obtain ⟨v, e1, r⟩ := st.sl.pu i d hi q
        exact ⟨v, e1, k v F H Go.refl st.bs (.inl r)⟩
theorem d_c {v : V} {d : Dt} (h : PE X e (tC v)) (r : ∀ F, Rep K F v d) : PE X e (tD K O (fC d)) := pe_imp h fun σ H Q ⟨g, F, env, s, d', s', st, hf, k⟩ => by
  cases hf
  exact k v F H Go.refl st.bs (r F)
theorem d_int {i j pos} : PE X (.Constant (.int i) j pos) (tD K O (fC (.int i))) := d_c pe_int fun _ => .int i
theorem d_str {x j pos} : PE X (.Constant (.str x) j pos) (tD K O (fC (.str x))) := d_c pe_str fun _ => .str x
theorem d_bl {b j pos} : PE X (.Constant (.bool b) j pos) (tD K O (fC (.bl b))) := d_c pe_bl fun _ => .bl b
end

def bind2 (fa fb : Fe) (g : Sto → Dt → Dt → Option Dt) : Fe := fun env s => do
  let (x, s1) ← fa env s
  let (y, s2) ← fb env s1
  let z ← g s2 x y
  some (z, s2)
def OpD (K : PySem.W.Frag) (r : R2) (g : Sto → Dt → Dt → Option Dt) : Prop := ∀ (ft : List Addr) (F H : Hp) (s : Sto) (v w : V) (x y z : Dt) (Q : VK), Bs K ft F H s → RepB K ft F H v x → RepB K ft F H w y → g s x y = some z →
  (∀ u F' H', Go ft F H F' H' → Bs K ft F' H' s → Rep K F' u z → Q u H') → r v w H Q
def OpN (K : PySem.W.Frag) (r : R2) (g : Sto → Dt → Dt → Option Dt) : Prop := ∀ (ft : List Addr) (F H : Hp) (s : Sto) (v w : V) (x y z : Dt) (Q : VK), Bs K ft F H s → RepB K ft F H v x → RepB K ft F H w y → g s x y = some z →
  (∀ p o, H p = none → ObR K F o z → Q (.ref p) (upd H p o)) → r v w H Q
theorem OpN.d {K : PySem.W.Frag} {r : R2} {g : Sto → Dt → Dt → Option Dt} (h : OpN K r g) (hz : ∀ s x y z, g s x y = some z → ∃ xs, z = .lst xs) : OpD K r g := fun ft F H s v w x y z Q b rx ry hg k =>
  h ft F H s v w x y z Q b rx ry hg fun p o n q => by
    obtain ⟨x1, b1⟩ := Go.lay (o := o) b n
    have nF : F p = none := (Go.made (o := o) b n).2.2
    obtain ⟨xs, rfl⟩ := hz s x y z hg
    cases q with
    | lst q => exact k (.ref p) _ _ x1 b1 (ObR.rep (.lst q) nF)
section
variable {X : Cx} {a b : Expr} {K : PySem.W.Frag} {O : List Nat} {fa fb : Fe}
theorem tOp_d {r : R2} {gg : Sto → Dt → Dt → Option Dt} (hg : OpD K r gg) (σ : L2.St) (H : Hp) (Q : VK) (h : tD K O (bind2 fa fb gg) σ H Q) : tOp r (tB K O fa) (tB K O fb) σ H Q := by
  obtain ⟨g, F, env, s, d, s', st, hf, k⟩ := h
  unfold bind2 at hf
  cases qa : fa env s with
  | none => rw [qa] at hf; cases hf
  | some pa =>
    obtain ⟨x, s1⟩ := pa
    rw [qa] at hf
    cases qb : fb env s1 with
    | none => simp [qb] at hf
    | some pb =>
      obtain ⟨y, s2⟩ := pb
      cases qg : gg s2 x y with
      | none => simp [qb, qg] at hf
      | some z =>
        simp [qb, qg] at hf
        obtain ⟨rfl, rfl⟩ := hf
        refine ⟨g, F, env, s, x, s1, st, qa, fun v F1 H1 x1 b1 r1 => ⟨g, F1, env, s1, y, s2, st.step x1 b1, qb, fun w F2 H2 x2 b2 r2 => ?_⟩⟩
        refine hg g.ft F2 H2 s2 v w x y z Q b2 (r1.step x2) r2 qg fun u F3 H3 x3 b3 r3 => ?_
        exact k u F3 H3 ((x1.trans x2 b1).trans x3 b2) b3 r3
theorem tOp_n {r : R2} {gg : Sto → Dt → Dt → Option Dt} (hg : OpN K r gg) (σ : L2.St) (H : Hp) (Q : VK) (h : tN K O (bind2 fa fb gg) σ H Q) : tOp r (tB K O fa) (tB K O fb) σ H Q := by
  obtain ⟨g, F, env, s, d, s', st, hf, k⟩ := h
  unfold bind2 at hf
  cases qa : fa env s with
  | none => rw [qa] at hf; cases hf
  | some pa =>
    obtain ⟨x, s1⟩ := pa
    rw [qa] at hf
    cases qb : fb env s1 with
    | none => simp [qb] at hf
    | some pb =>
      obtain ⟨y, s2⟩ := pb
      cases qg : gg s2 x y with
      | none => simp [qb, qg] at hf
      | some z =>
        simp [qb, qg] at hf
        obtain ⟨rfl, rfl⟩ := hf
        refine ⟨g, F, env, s, x, s1, st, qa, fun v F1 H1 x1 b1 r1 => ⟨g, F1, env, s1, y, s2, st.step x1 b1, qb, fun w F2 H2 x2 b2 r2 => ?_⟩⟩
        refine hg g.ft F2 H2 s2 v w x y z Q b2 (r1.step x2) r2 qg fun p o n q => ?_
        obtain ⟨x3, b3, n3⟩ := Go.made (o := o) b2 n
        exact k p o F2 _ ((x1.trans x2 b1).trans x3 b2) b3 ((x1.trans x2 b1).free b2 n) n3 upd_same q
end
theorem Go.layT {K : PySem.W.Frag} {ft : List Addr} {F H : Hp} {s : Sto} {p : Addr} {o : Obj} {vs : List V} {ds : List Dt} (b : Bs K ft F H s) (n : H p = none) (ho : o.dict = none) (r : Reps K F vs ds) :
    Go ft F H (upd F p (.frz o (.tup vs))) (upd H p (.frz o (.tup vs))) ∧ Bs K ft (upd F p (.frz o (.tup vs))) (upd H p (.frz o (.tup vs))) s ∧ Rep K (upd F p (.frz o (.tup vs))) (.ref p) (.tup ds) := by
  obtain ⟨x, b'⟩ := Go.lay (o := .frz o (.tup vs)) b n
  exact ⟨x, b', .tup (.inl (.inr ⟨o, upd_same⟩)) (.inl ⟨o, upd_same, ho⟩) (Reps.mono x.sam _ _ r)⟩
end DL

namespace DL
open PySem PySem.Spec PyProof.Rows L2

mutual
def py : Dt → PyData
  | .non => .none
  | .bl b => .bool b
  | .int i => .int i
  | .str x => .str x
  | .tup xs => .tuple (pys xs)
  | .lst xs => .list (pys xs)
  | .dct _ => .none
  | .ref _ => .none
  | .scr _ => .none
def pys : List Dt → List PyData
  | [] => []
  | x :: xs => py x :: pys xs
end
mutual
def plain : Dt → Bool
  | .non => true
  | .bl _ => true
  | .int _ => true
  | .str _ => true
  | .tup xs => plains xs
  | .lst xs => plains xs
  | .dct _ => false
  | .ref _ => false
  | .scr _ => false
def plains : List Dt → Bool
  | [] => true
  | x :: xs => plain x && plains xs
end
mutual
/-- data that may be compared and shown -/
def good : Dt → Bool
  | .non => true
  | .bl _ => true
  | .int i => decide (i.natAbs.log2 < 1920)
  | .str x => PyData.strOk x
  | .tup xs => goods xs
  | .lst xs => goods xs
  | .dct _ => false
  | .ref _ => false
  | .scr _ => false
def goods : List Dt → Bool
  | [] => true
  | x :: xs => good x && goods xs
end
mutual
def dep : Dt → Nat
  | .tup xs => deps xs + 1
  | .lst xs => deps xs + 1
  | _ => 0
def deps : List Dt → Nat
  | [] => 0
  | x :: xs => max (dep x) (deps xs)
end
mutual
theorem good_plain : ∀ d : Dt, good d = true → plain d = true ∧ (py d).canLay0 = true ∧ (py d).showable = true ∧ (py d).hasDict = false ∧ (py d).depth = dep d
  | .non, _ => ⟨rfl, rfl, rfl, rfl, rfl⟩
  | .bl _, _ => ⟨rfl, rfl, rfl, rfl, rfl⟩
  | .int i, h => ⟨rfl, rfl, by simpa [py, PyData.showable, good] using h, rfl, rfl⟩
  | .str x, h => ⟨rfl, by simpa [py, PyData.canLay0, good] using h, rfl, rfl, rfl⟩
  | .tup xs, h => by
    obtain ⟨h1, h2, h3, h4, h5⟩ := goods_plain xs (by simpa only [good] using h)
    exact ⟨by simpa only [plain] using h1, by simpa only [py, PyData.canLay0] using h2, by simpa only [py, PyData.showable] using h3, by simpa only [py, PyData.hasDict] using h4, by simp only [py, PyData.depth, dep, h5]⟩
  | .lst xs, h => by
    obtain ⟨h1, h2, h3, h4, h5⟩ := goods_plain xs (by simpa only [good] using h)
    exact ⟨by simpa only [plain] using h1, by simpa only [py, PyData.canLay0] using h2, by simpa only [py, PyData.showable] using h3, by simpa only [py, PyData.hasDict] using h4, by simp only [py, PyData.depth, dep, h5]⟩
  | .dct _, h => by simp only [good] at h; exact absurd h Bool.false_ne_true
  | .ref _, h => by simp only [good] at h; exact absurd h Bool.false_ne_true
  | .scr _, h => by simp only [good] at h; exact absurd h Bool.false_ne_true
theorem goods_plain : ∀ ds : List Dt, goods ds = true → plains ds = true ∧ PyData.canLayAll0 (pys ds) = true ∧ PyData.showableAll (pys ds) = true ∧ PyData.hasDictAll (pys ds) = false ∧ PyData.depthAll (pys ds) = deps ds
  | [], _ => ⟨rfl, rfl, rfl, rfl, rfl⟩
  | d :: ds, h => by
    simp only [goods, Bool.and_eq_true] at h
    obtain ⟨a1, a2, a3, a4, a5⟩ := good_plain d h.1
    obtain ⟨b1, b2, b3, b4, b5⟩ := goods_plain ds h.2
    exact ⟨by simp [plains, a1, b1], by simp [pys, PyData.canLayAll0, a2, b2], by simp [pys, PyData.showableAll, a3, b3], by simp [pys, PyData.hasDictAll, a4, b4], by simp only [pys, PyData.depthAll, deps, a5, b5]⟩
end
section
variable {K : PySem.W.Frag} {F H : Hp}
mutual
theorem Rep.dp (e : Same F H) : ∀ (d : Dt) (v : V), Rep K F v d → plain d = true → Dp K H v (py d)
  | .non, _, h, _ => by cases h; exact .non
  | .bl b, _, h, _ => by cases h; exact .bl b
  | .int i, _, h, _ => by cases h; exact .int i
  | .str x, _, h, _ => by cases h; exact .str x
  | .tup ds, _, h, p => by
    cases h with
    | tup h1 hp h2 => exact .tup (sqT_same e h1) (Reps.dp e ds _ h2 (by simpa only [plain] using p))
  | .lst ds, _, h, p => by
    cases h with
    | lst h1 h2 => exact .lst (SqL.of (e _ _ h1)) (Reps.dp e ds _ h2 (by simpa only [plain] using p))
  | .dct _, _, _, p => by simp only [plain] at p; exact absurd p Bool.false_ne_true
  | .ref _, _, _, p => by simp only [plain] at p; exact absurd p Bool.false_ne_true
  | .scr _, _, _, p => by simp only [plain] at p; exact absurd p Bool.false_ne_true
theorem Reps.dp (e : Same F H) : ∀ (ds : List Dt) (vs : List V), Reps K F vs ds → plains ds = true → DpAll K H vs (pys ds)
  | [], _, h, _ => by cases h; exact .nil
  | d :: ds, _, h, p => by
    cases h with
    | cons h1 h2 =>
      simp only [plains, Bool.and_eq_true] at p
      exact .cons (Rep.dp e d _ h1 p.1) (Reps.dp e ds _ h2 p.2)
end
theorem RepB.dp {ft : List Addr} {v : V} {d : Dt} (e : Same F H) (r : RepB K ft F H v d) (p : plain d = true) : Dp K H v (py d) := by
  rcases r with r | ⟨a, o, rfl, eo, r, _⟩
  · exact Rep.dp e d v r p
  · cases r with
    | lst r => exact .lst (SqL.of eo) (Reps.dp e _ _ r (by simpa only [plain] using p))
    | dct r => simp only [plain] at p; exact absurd p Bool.false_ne_true
theorem RepB.str {ft : List Addr} {v : V} {x : Str} (r : RepB K ft F H v (.str x)) : v = .str x := by
  rcases r with r | ⟨a, o, rfl, eo, r, _⟩
  · cases r; rfl
  · cases r
theorem RepB.int {ft : List Addr} {v : V} {x : Int} (r : RepB K ft F H v (.int x)) : v = .int x := by
  rcases r with r | ⟨a, o, rfl, eo, r, _⟩
  · cases r; rfl
  · cases r
theorem RepB.bl {ft : List Addr} {v : V} {x : Bool} (r : RepB K ft F H v (.bl x)) : v = .bl x := by
  rcases r with r | ⟨a, o, rfl, eo, r, _⟩
  · cases r; rfl
  · cases r
theorem RepB.non {ft : List Addr} {v : V} (r : RepB K ft F H v .non) : v = .non := by
  rcases r with r | ⟨a, o, rfl, eo, r, _⟩
  · cases r; rfl
  · cases r
theorem RepB.ref {ft : List Addr} {v : V} {a : Addr} (r : RepB K ft F H v (.ref a)) : v = .ref a := by
  rcases r with r | ⟨a, o, rfl, eo, r, _⟩
  · cases r; rfl
  · cases r
theorem RepB.lst {ft : List Addr} {v : V} {ds : List Dt} {s : Sto} (b : Bs K ft F H s) (r : RepB K ft F H v (.lst ds)) : ∃ a vs, v = .ref a ∧ H a = some (.lst vs) ∧ Reps K F vs ds := by
  rcases r with r | ⟨a, o, rfl, eo, r, _⟩
  · cases r with
    | lst h1 h2 => exact ⟨_, _, rfl, b.sub _ _ h1, h2⟩
  · cases r with
    | lst r => exact ⟨_, _, rfl, eo, r⟩
theorem RepB.dct {ft : List Addr} {v : V} {ds : List (Key × Dt)} {s : Sto} (b : Bs K ft F H s) (r : RepB K ft F H v (.dct ds)) : ∃ a vs, v = .ref a ∧ Rd H a (.dK vs) ∧ Repk K F vs ds := by
  rcases r with r | ⟨a, o, rfl, eo, r, _⟩
  · cases r with
    | dct h1 h2 => exact ⟨_, _, rfl, .inr ⟨_, b.sub _ _ h1⟩, h2⟩
  · cases r with
    | dct r => exact ⟨_, _, rfl, .inl eo, r⟩
theorem RepB.tup {ft : List Addr} {v : V} {ds : List Dt} {s : Sto} (b : Bs K ft F H s) (r : RepB K ft F H v (.tup ds)) : ∃ a vs, v = .ref a ∧ SqT K H a vs ∧ Reps K F vs ds := by
  rcases r with r | ⟨a, o, rfl, eo, r, _⟩
  · cases r with
    | tup h1 hp h2 => exact ⟨_, _, rfl, sqT_same b.sub h1, h2⟩
  · cases r
theorem RepB.scr {ft : List Addr} {v : V} {ns : List Int} {s : Sto} (b : Bs K ft F H s) (r : RepB K ft F H v (.scr ns)) : ∃ a, v = .ref a ∧ SqL K H a (ns.map V.int) := by
  rcases r with r | ⟨a, o, rfl, eo, r, _⟩
  · cases r with
    | scr h1 => exact ⟨_, rfl, b.sub.seq h1⟩
  · cases r
end

def addG (_ : Sto) : Dt → Dt → Option Dt
  | .int i, .int j => some (.int (i + j))
  | .str a, .str b => if a.length + b.length ≤ sizeLine then some (.str (a ++ b)) else none
  | .tup a, .tup b => if a.length + b.length ≤ sizeLine then some (.tup (a ++ b)) else none
  | _, _ => none
def catG (_ : Sto) : Dt → Dt → Option Dt
  | .lst a, .lst b => if a.length + b.length ≤ sizeLine then some (.lst (a ++ b)) else none
  | _, _ => none
def subG (_ : Sto) : Dt → Dt → Option Dt
  | .int i, .int j => some (.int (i - j))
  | _, _ => none
def mulG (_ : Sto) : Dt → Dt → Option Dt
  | .int i, .int j => if i.natAbs.log2 + j.natAbs.log2 < 1000000 then some (.int (i * j)) else none
  | _, _ => none
def modG (_ : Sto) : Dt → Dt → Option Dt
  | .int i, .int j => if 0 < j then some (.int (i % j)) else none
  | _, _ => none
def divG (_ : Sto) : Dt → Dt → Option Dt
  | .int i, .int j => if 0 < j ∧ j < 1073741824 then some (.int (i / j)) else none
  | _, _ => none
def powG (_ : Sto) : Dt → Dt → Option Dt
  | .int i, .int j => if 0 ≤ j ∧ j ≤ 1000000 ∧ i.natAbs < 2 ^ 64 then some (.int (i ^ j.toNat)) else none
  | _, _ => none

section
variable {X : Cx}
def rAddA (K : PySem.W.Frag) : R2 := fun x y H Q => (rI0 fun i j => .int (i + j)) x y H Q ∨ (∃ i j, x = .str i ∧ y = .str j ∧ i.length + j.length ≤ sizeLine ∧ Q (.str (i ++ j)) H) ∨ rCatF K x y H Q
theorem op_addA : OpR X (binaryOp .Add) (rAddA X.K) := op_add.or (op_add_str.or op_catF)
theorem opd_add {K : PySem.W.Frag} : OpD K (rAddA K) addG := by
  intro ft F H s v w x y z Q b rx ry hg k
  cases x <;> cases y <;> simp only [addG] at hg <;> try (cases hg; done)
  · cases hg
    exact .inl ⟨_, _, rx.int, ry.int, k _ F H Go.refl b (.int _)⟩
  · split at hg <;> cases hg
    rename_i hl
    exact .inr (.inl ⟨_, _, rx.str, ry.str, hl, k _ F H Go.refl b (.str _)⟩)
  · split at hg <;> cases hg
    rename_i xs ys hl
    obtain ⟨a1, v1, rfl, e1, r1⟩ := rx.tup b
    obtain ⟨a2, v2, rfl, e2, r2⟩ := ry.tup b
    refine .inr (.inr ⟨a1, a2, v1, v2, rfl, rfl, e1, e2, by rw [r1.length, r2.length]; exact hl, fun z => ?_, fun _ z => ?_, fun _ _ p o np ho => ?_⟩)
    · subst z
      cases r1
      rcases ry with r | ⟨_, _, _, _, r, _⟩
      · exact k _ F H Go.refl b r
      · cases r
    · subst z
      cases r2
      rw [List.append_nil] at k
      rcases rx with r | ⟨_, _, _, _, r, _⟩
      · exact k _ F H Go.refl b r
      · cases r
    · obtain ⟨x1, b1, r3⟩ := Go.layT b np ho (r1.append r2)
      exact k (.ref p) _ _ x1 b1 r3
theorem opn_cat {K : PySem.W.Frag} : OpN K rCat catG := by
  intro ft F H s v w x y z Q b rx ry hg k
  cases x <;> cases y <;> simp only [catG] at hg <;> try (cases hg; done)
  split at hg <;> cases hg
  rename_i xs ys hl
  obtain ⟨a1, v1, rfl, e1, r1⟩ := rx.lst b
  obtain ⟨a2, v2, rfl, e2, r2⟩ := ry.lst b
  exact ⟨a1, a2, v1, v2, rfl, rfl, e1, e2, by rw [r1.length, r2.length]; exact hl, fun p np => k p _ np (.lst (r1.append r2))⟩
theorem opd_int0 {K : PySem.W.Frag} {gg : Sto → Dt → Dt → Option Dt} {C : Int → Int → Prop} {f : Int → Int → V} {fd : Int → Int → Dt} (hf : ∀ F i j, Rep K F (f i j) (fd i j))
    (hgg : ∀ s x y z, gg s x y = some z → ∃ i j, x = .int i ∧ y = .int j ∧ C i j ∧ z = fd i j) : OpD K (rI C f) gg := by
  intro ft F H s v w x y z Q b rx ry hg k
  obtain ⟨i, j, rfl, rfl, c, rfl⟩ := hgg _ _ _ _ hg
  exact ⟨i, j, rx.int, ry.int, c, k _ F H Go.refl b (hf F i j)⟩
theorem opd_mul {K : PySem.W.Frag} : OpD K (rI CMulW fun i j => .int (i * j)) mulG := opd_int0 (fd := fun i j => .int (i * j)) (fun F i j => .int _) fun s x y z h => by
  cases x <;> cases y <;> simp only [mulG] at h <;> try (cases h; done)
  split at h <;> cases h
  rename_i c
  exact ⟨_, _, rfl, rfl, c, rfl⟩
theorem opd_mod {K : PySem.W.Frag} : OpD K (rI (fun _ j => 0 < j) fun i j => .int (i % j)) modG := opd_int0 (fd := fun i j => .int (i % j)) (fun F i j => .int _) fun s x y z h => by
  cases x <;> cases y <;> simp only [modG] at h <;> try (cases h; done)
  split at h <;> cases h
  rename_i c
  exact ⟨_, _, rfl, rfl, c, rfl⟩
theorem opd_div {K : PySem.W.Frag} : OpD K (rI CDiv fun i j => .int (i / j)) divG := opd_int0 (fd := fun i j => .int (i / j)) (fun F i j => .int _) fun s x y z h => by
  cases x <;> cases y <;> simp only [divG] at h <;> try (cases h; done)
  split at h <;> cases h
  rename_i c
  exact ⟨_, _, rfl, rfl, c, rfl⟩
theorem opd_pow {K : PySem.W.Frag} : OpD K (rI CPow fun i j => .int (i ^ j.toNat)) powG := opd_int0 (fd := fun i j => .int (i ^ j.toNat)) (fun F i j => .int _) fun s x y z h => by
  cases x <;> cases y <;> simp only [powG] at h <;> try (cases h; done)
  split at h <;> cases h
  rename_i c
  exact ⟨_, _, rfl, rfl, c, rfl⟩
variable {O : List Nat} {a b : Expr} {fa fb : Fe} {pos : Pos}
theorem d_bin {op : Operator} {r : R2} {gg : Sto → Dt → Dt → Option Dt} (ho : OpR X (binaryOp op) r) (hg : OpD X.K r gg) (ha : PE X a (tB X.K O fa)) (hb : PE X b (tB X.K O fb)) : PE X (.BinOp a op b pos) (tD X.K O (bind2 fa fb gg)) :=
  pe_imp (pe_op ho ha hb) (tOp_d hg)
theorem d_mul (ha : PE X a (tB X.K O fa)) (hb : PE X b (tB X.K O fb)) : PE X (.BinOp a .Mult b pos) (tD X.K O (bind2 fa fb mulG)) := d_bin op_mulW opd_mul ha hb
theorem d_mod (ha : PE X a (tB X.K O fa)) (hb : PE X b (tB X.K O fb)) : PE X (.BinOp a .Mod b pos) (tD X.K O (bind2 fa fb modG)) := d_bin op_mod opd_mod ha hb
theorem d_div (ha : PE X a (tB X.K O fa)) (hb : PE X b (tB X.K O fb)) : PE X (.BinOp a .FloorDiv b pos) (tD X.K O (bind2 fa fb divG)) := d_bin op_fdiv opd_div ha hb
theorem d_pow (ha : PE X a (tB X.K O fa)) (hb : PE X b (tB X.K O fb)) : PE X (.BinOp a .Pow b pos) (tD X.K O (bind2 fa fb powG)) := d_bin op_pow opd_pow ha hb
theorem n_cat (ha : PE X a (tB X.K O fa)) (hb : PE X b (tB X.K O fb)) : PE X (.BinOp a .Add b pos) (tN X.K O (bind2 fa fb catG)) := pe_imp (pe_op op_cat ha hb) (tOp_n opn_cat)
def bind1 (fa : Fe) (g : Sto → Dt → Option Dt) : Fe := fun env s => do
  let (x, s1) ← fa env s
  let z ← g s1 x
  some (z, s1)
def negG (_ : Sto) : Dt → Option Dt
  | .int i => some (.int (-i))
  | _ => none
def OneD (K : PySem.W.Frag) (r : V → Hp → VK → Prop) (g : Sto → Dt → Option Dt) : Prop := ∀ (ft : List Addr) (F H : Hp) (s : Sto) (v : V) (x z : Dt) (Q : VK), Bs K ft F H s → RepB K ft F H v x → g s x = some z →
  (∀ u F' H', Go ft F H F' H' → Bs K ft F' H' s → Rep K F' u z → Q u H') → r v H Q
theorem bind1_some {f : Fe} {g : Sto → Dt → Option Dt} {env : Env} {s s' : Sto} {d : Dt} (h : bind1 f g env s = some (d, s')) : ∃ x, f env s = some (x, s') ∧ g s' x = some d := by
  unfold bind1 at h
  cases q : f env s with
  | none => rw [q] at h; cases h
  | some p =>
    obtain ⟨x, s1⟩ := p
    cases qg : g s1 x with
    | none => simp [q, qg] at h
    | some z =>
      simp [q, qg] at h
      obtain ⟨rfl, rfl⟩ := h
      exact ⟨x, rfl, qg⟩
theorem tUn_d {r : V → Hp → VK → Prop} {gg : Sto → Dt → Option Dt} {K : PySem.W.Frag} (hg : OneD K r gg) (σ : L2.St) (H : Hp) (Q : VK) (h : tD K O (bind1 fa gg) σ H Q) : tUn r (tB K O fa) σ H Q := by
  obtain ⟨g, F, env, s, d, s', st, hf, k⟩ := h
  obtain ⟨x, q1, q2⟩ := bind1_some hf
  exact ⟨g, F, env, s, x, s', st, q1, fun v F1 H1 x1 b1 r1 => hg g.ft F1 H1 s' v x d Q b1 r1 q2 fun u F2 H2 x2 b2 r2 => k u F2 H2 (x1.trans x2 b1) b2 r2⟩
theorem d_neg (ha : PE X a (tB X.K O fa)) : PE X (.UnaryOp .USub a pos) (tD X.K O (bind1 fa negG)) := pe_imp (pe_un un_neg ha) (tUn_d fun ft F H s v x z Q b rx hg k => by
  cases x <;> simp only [negG] at hg <;> try (cases hg; done)
  cases hg
  exact ⟨_, rx.int, k _ F H Go.refl b (.int _)⟩)
end

def eqG (_ : Sto) : Dt → Dt → Option Dt
  | .str a, .str b => some (.bl (decide (a = b)))
  | .int a, .int b => some (.bl (decide (a = b)))
  | x, y => if plain x = true ∧ plain y = true ∧ SeqAt.shaped (py x) = true ∧ SeqAt.shaped (py y) = true then some (.bl (PyData.eqv (py x) (py y))) else none
def neG (s : Sto) (x y : Dt) : Option Dt := match eqG s x y with
  | some (.bl b) => some (.bl (!b))
  | _ => none
def ltG (_ : Sto) : Dt → Dt → Option Dt
  | .int i, .int j => some (.bl (decide (i < j)))
  | .str a, .str b => some (.bl (decide (a.cps.toList < b.cps.toList)))
  | _, _ => none
def gtG (_ : Sto) : Dt → Dt → Option Dt
  | .int i, .int j => some (.bl (decide (j < i)))
  | .str a, .str b => some (.bl (decide (b.cps.toList < a.cps.toList)))
  | _, _ => none
def leG (_ : Sto) : Dt → Dt → Option Dt
  | .int i, .int j => some (.bl (decide (i ≤ j)))
  | .str a, .str b => some (.bl (!decide (b.cps.toList < a.cps.toList)))
  | _, _ => none
def geG (_ : Sto) : Dt → Dt → Option Dt
  | .int i, .int j => some (.bl (decide (j ≤ i)))
  | .str a, .str b => some (.bl (!decide (a.cps.toList < b.cps.toList)))
  | _, _ => none
section
variable {K : PySem.W.Frag}
theorem eq_cases {s : Sto} {x y z : Dt} (h : eqG s x y = some z) : (∃ a b, x = .str a ∧ y = .str b ∧ z = .bl (decide (a = b))) ∨ (∃ a b, x = .int a ∧ y = .int b ∧ z = .bl (decide (a = b))) ∨
    (plain x = true ∧ plain y = true ∧ SeqAt.shaped (py x) = true ∧ SeqAt.shaped (py y) = true ∧ z = .bl (PyData.eqv (py x) (py y))) := by
  unfold eqG at h
  split at h
  · cases h; exact .inl ⟨_, _, rfl, rfl, rfl⟩
  · cases h; exact .inr (.inl ⟨_, _, rfl, rfl, rfl⟩)
  · split at h
    · rename_i c
      cases h
      exact .inr (.inr ⟨c.1, c.2.1, c.2.2.1, c.2.2.2, rfl⟩)
    · cases h
def rEqA (K : PySem.W.Frag) : R2 := fun x y H Q => rEq x y H Q ∨ rEqD K x y H Q
def rNeA (K : PySem.W.Frag) : R2 := fun x y H Q => rNe x y H Q ∨ rNeD K x y H Q
theorem op_eqA {X : Cx} (hu : X.A.units + 64 < cLine) : OpR X (compareOp .Eq) (rEqA X.K) := op_eq.or (op_eqD hu)
theorem op_neA {X : Cx} (hu : X.A.units + 64 < cLine) : OpR X (compareOp .NotEq) (rNeA X.K) := op_ne.or (op_neD hu)
theorem dec_V_str {a b : Str} : decide (V.str a = V.str b) = decide (a = b) := by
  by_cases h : a = b
  · subst h; simp
  · rw [decide_eq_false h, decide_eq_false (fun q => h (V.str.inj q))]
theorem dec_V_int {a b : Int} : decide (V.int a = V.int b) = decide (a = b) := by
  by_cases h : a = b
  · subst h; simp
  · rw [decide_eq_false h, decide_eq_false (fun q => h (V.int.inj q))]
theorem opd_eq : OpD K (rEqA K) eqG := by
  intro ft F H s v w x y z Q b rx ry hg k
  rcases eq_cases hg with ⟨a, c, rfl, rfl, rfl⟩ | ⟨a, c, rfl, rfl, rfl⟩ | ⟨p1, p2, s1, s2, rfl⟩
  · obtain rfl := rx.str
    obtain rfl := ry.str
    exact .inl ⟨rfl, by rw [dec_V_str]; exact k _ F H Go.refl b (.bl _)⟩
  · obtain rfl := rx.int
    obtain rfl := ry.int
    exact .inl ⟨rfl, by rw [dec_V_int]; exact k _ F H Go.refl b (.bl _)⟩
  · exact .inr ⟨_, _, rx.dp b.sub p1, ry.dp b.sub p2, s1, s2, k _ F H Go.refl b (.bl _)⟩
theorem opd_ne : OpD K (rNeA K) neG := by
  intro ft F H s v w x y z Q b rx ry hg k
  unfold neG at hg
  split at hg
  · rename_i e hq
    cases hg
    rcases eq_cases hq with ⟨a, c, rfl, rfl, hz⟩ | ⟨a, c, rfl, rfl, hz⟩ | ⟨p1, p2, s1, s2, hz⟩
    · cases hz
      obtain rfl := rx.str
      obtain rfl := ry.str
      exact .inl ⟨rfl, by rw [dec_V_str]; exact k _ F H Go.refl b (.bl _)⟩
    · cases hz
      obtain rfl := rx.int
      obtain rfl := ry.int
      exact .inl ⟨rfl, by rw [dec_V_int]; exact k _ F H Go.refl b (.bl _)⟩
    · cases hz
      exact .inr ⟨_, _, rx.dp b.sub p1, ry.dp b.sub p2, s1, s2, k _ F H Go.refl b (.bl _)⟩
  · cases hg
def rLtA : R2 := fun x y H Q => (rI0 fun i j => .bl (decide (i < j))) x y H Q ∨ ∃ i j, x = .str i ∧ y = .str j ∧ Q (.bl (decide (i.cps.toList < j.cps.toList))) H
def rGtA : R2 := fun x y H Q => (rI0 fun i j => .bl (decide (j < i))) x y H Q ∨ ∃ i j, x = .str i ∧ y = .str j ∧ Q (.bl (decide (j.cps.toList < i.cps.toList))) H
def rGeA : R2 := fun x y H Q => (rI0 fun i j => .bl (decide (j ≤ i))) x y H Q ∨ ∃ i j, x = .str i ∧ y = .str j ∧ Q (.bl (!decide (i.cps.toList < j.cps.toList))) H
theorem op_ltA {X : Cx} : OpR X (compareOp .Lt) rLtA := op_lt.or op_lt_str
theorem op_gtA {X : Cx} : OpR X (compareOp .Gt) rGtA := op_gt.or op_gt_str
theorem op_geA {X : Cx} : OpR X (compareOp .GtE) rGeA := op_ge.or op_ge_str
theorem opd_lt : OpD K rLtA ltG := by
  intro ft F H s v w x y z Q b rx ry hg k
  cases x <;> cases y <;> simp only [ltG] at hg <;> try (cases hg; done)
  · cases hg; exact .inl ⟨_, _, rx.int, ry.int, k _ F H Go.refl b (.bl _)⟩
  · cases hg; exact .inr ⟨_, _, rx.str, ry.str, k _ F H Go.refl b (.bl _)⟩
theorem opd_gt : OpD K rGtA gtG := by
  intro ft F H s v w x y z Q b rx ry hg k
  cases x <;> cases y <;> simp only [gtG] at hg <;> try (cases hg; done)
  · cases hg; exact .inl ⟨_, _, rx.int, ry.int, k _ F H Go.refl b (.bl _)⟩
  · cases hg; exact .inr ⟨_, _, rx.str, ry.str, k _ F H Go.refl b (.bl _)⟩
theorem opd_ge : OpD K rGeA geG := by
  intro ft F H s v w x y z Q b rx ry hg k
  cases x <;> cases y <;> simp only [geG] at hg <;> try (cases hg; done)
  · cases hg; exact .inl ⟨_, _, rx.int, ry.int, k _ F H Go.refl b (.bl _)⟩
  · cases hg; exact .inr ⟨_, _, rx.str, ry.str, k _ F H Go.refl b (.bl _)⟩
end

def flatD : Dt → Bool
  | .non => true
  | .bl _ => true
  | .int _ => true
  | .str _ => true
  | _ => false
def eqF : Dt → Dt → Bool
  | .non, .non => true
  | .bl a, .bl b => a == b
  | .bl a, .int b => (if a then 1 else 0) == b
  | .int a, .bl b => a == (if b then 1 else 0)
  | .int a, .int b => a == b
  | .str a, .str b => a == b
  | _, _ => false
def occ (j i : Str) : Bool := !(Builtin.Str.occurrences j i 0 j.length 1).isEmpty
def inB (_ : Sto) : Dt → Dt → Option Bool
  | .str i, .str j => some (occ j i)
  | x, .lst ys => if flatD x = true ∧ ys.all flatD = true then some (ys.any fun y => eqF y x) else none
  | x, .tup ys => if flatD x = true ∧ ys.all flatD = true then some (ys.any fun y => eqF y x) else none
  | _, _ => none
def inG (s : Sto) (x y : Dt) : Option Dt := (inB s x y).map Dt.bl
def notInG (s : Sto) (x y : Dt) : Option Dt := (inB s x y).map fun b => Dt.bl (!b)
section
variable {K : PySem.W.Frag}
theorem flat_V {F : Hp} {v : V} {x : Dt} (r : Rep K F v x) (h : flatD x = true) : flatV v = true := by
  cases r <;> first | rfl | (simp only [flatD] at h; exact absurd h Bool.false_ne_true)
theorem eqF_V {F : Hp} {v w : V} {x y : Dt} (r : Rep K F v x) (q : Rep K F w y) (h : flatD x = true) (h' : flatD y = true) : eqV v w = eqF x y := by
  cases r <;> cases q <;> first | rfl | (simp only [flatD] at h h'; first | exact absurd h Bool.false_ne_true | exact absurd h' Bool.false_ne_true)
theorem flats_V {F : Hp} : ∀ {vs : List V} {ds : List Dt}, Reps K F vs ds → ds.all flatD = true → vs.all flatV = true
  | [], [], _, _ => rfl
  | [], _ :: _, h, _ => by cases h
  | _ :: _, [], h, _ => by cases h
  | _ :: _, _ :: _, h, p => by
    cases h with
    | cons h1 h2 =>
      rw [List.all_cons, Bool.and_eq_true] at p ⊢
      exact ⟨flat_V h1 p.1, flats_V h2 p.2⟩
theorem inV_D {F : Hp} {v : V} {x : Dt} (r : Rep K F v x) (h : flatD x = true) : ∀ {vs : List V} {ds : List Dt}, Reps K F vs ds → ds.all flatD = true → inV v vs = ds.any fun y => eqF y x
  | [], [], _, _ => rfl
  | [], _ :: _, h, _ => by cases h
  | _ :: _, [], h, _ => by cases h
  | _ :: vs, _ :: ds, q, p => by
    cases q with
    | cons h1 h2 =>
      rw [List.all_cons, Bool.and_eq_true] at p
      have ih := inV_D r h h2 p.2
      unfold inV at ih ⊢
      rw [List.any_cons, List.any_cons, ih, eqF_V h1 r p.1 h]
theorem RepB.flat {ft : List Addr} {F H : Hp} {v : V} {d : Dt} (r : RepB K ft F H v d) (h : flatD d = true) : Rep K F v d := by
  rcases r with r | ⟨a, o, rfl, eo, r, _⟩
  · exact r
  · cases r <;> (simp only [flatD] at h; exact absurd h Bool.false_ne_true)
def rInA (K : PySem.W.Frag) (n : Bool) : R2 := fun x y H Q => (∃ i j, x = .str i ∧ y = .str j ∧ Q (.bl (if n then !occ j i else occ j i)) H) ∨ rIn K n x y H Q
theorem op_inA {X : Cx} : OpR X (compareOp .In) (rInA X.K false) := OpR.or op_in_str op_in_seq
theorem op_notInA {X : Cx} : OpR X (compareOp .NotIn) (rInA X.K true) := OpR.or op_notin_str op_notIn_seq
theorem opd_inA {n : Bool} : OpD K (rInA K n) (fun s x y => (inB s x y).map fun b => Dt.bl (if n then !b else b)) := by
  intro ft F H s v w x y z Q b rx ry hg k
  dsimp only at hg
  cases q : inB s x y with
  | none => rw [q] at hg; cases hg
  | some c =>
    rw [q] at hg
    cases hg
    have hk : Q (.bl (if n then !c else c)) H := k _ F H Go.refl b (.bl _)
    unfold inB at q
    split at q
    · cases q
      exact .inl ⟨_, _, rx.str, ry.str, hk⟩
    · split at q
      · rename_i c
        cases q
        obtain ⟨a, vs, rfl, e, r⟩ := ry.lst b
        have rx' := rx.flat c.1
        refine .inr ⟨a, vs, rfl, .inl (SqL.of e), flat_V rx' c.1, flats_V r c.2, ?_⟩
        rw [inV_D rx' c.1 r c.2]
        exact hk
      · cases q
    · split at q
      · rename_i c
        cases q
        obtain ⟨a, vs, rfl, e, r⟩ := ry.tup b
        have rx' := rx.flat c.1
        refine .inr ⟨a, vs, rfl, .inr e, flat_V rx' c.1, flats_V r c.2, ?_⟩
        rw [inV_D rx' c.1 r c.2]
        exact hk
      · cases q
    · cases q
theorem opd_in : OpD K (rInA K false) inG := fun ft F H s v w x y z Q b rx ry hg k => opd_inA (n := false) ft F H s v w x y z Q b rx ry hg k
theorem opd_notIn : OpD K (rInA K true) notInG := fun ft F H s v w x y z Q b rx ry hg k => opd_inA (n := true) ft F H s v w x y z Q b rx ry hg k
end

section
variable {X : Cx} {O : List Nat} {a b c : Expr} {fa fb fc : Fe} {pos : Pos}
theorem d_cmp {op : CmpOp} {r : R2} {gg : Sto → Dt → Dt → Option Dt} (ho : OpR X (compareOp op) r) (hg : OpD X.K r gg) (ha : PE X a (tB X.K O fa)) (hb : PE X b (tB X.K O fb))
    (hm : behindInMarks op b = false := by first | exact nobehind _ (by decide) (by decide) | rfl) : PE X (.Compare a [op] [b] pos) (tD X.K O (bind2 fa fb gg)) := pe_imp (pe_cmpR ho ha hb hm) (tOp_d hg)
theorem d_eq (hu : X.A.units + 64 < cLine) (ha : PE X a (tB X.K O fa)) (hb : PE X b (tB X.K O fb)) : PE X (.Compare a [.Eq] [b] pos) (tD X.K O (bind2 fa fb eqG)) := d_cmp (op_eqA hu) opd_eq ha hb
theorem d_ne (hu : X.A.units + 64 < cLine) (ha : PE X a (tB X.K O fa)) (hb : PE X b (tB X.K O fb)) : PE X (.Compare a [.NotEq] [b] pos) (tD X.K O (bind2 fa fb neG)) := d_cmp (op_neA hu) opd_ne ha hb
theorem d_in (ha : PE X a (tB X.K O fa)) (hb : PE X b (tB X.K O fb)) (hm : behindInMarks .In b = false := by rfl) : PE X (.Compare a [.In] [b] pos) (tD X.K O (bind2 fa fb inG)) := d_cmp op_inA opd_in ha hb hm
end
end DL

namespace DL
open PySem PySem.Spec PyProof.Rows L2

abbrev Ft := Env → Sto → Option (Bool × Sto)
def tT (K : PySem.W.Frag) (O : List Nat) (f : Ft) : TT := fun σ H Q => ∃ g F env s b s', Stt K g O F H σ env s ∧ f env s = some (b, s') ∧ ∀ F' H', Go g.ft F H F' H' → Bs K g.ft F' H' s' → Q b H'
def asB (f : Fe) : Ft := fun env s => match f env s with
  | some (.bl b, s') => some (b, s')
  | _ => none
theorem asB_some {f : Fe} {env : Env} {s s' : Sto} {b : Bool} (h : asB f env s = some (b, s')) : f env s = some (.bl b, s') := by
  unfold asB at h
  split at h
  · rename_i q; cases h; exact q
  · cases h
def truB (_ : Sto) : Dt → Option Bool
  | .non => some false
  | .bl b => some b
  | .int i => some (i != 0)
  | .str x => if x.length ≤ sizeLine then some ((x.length : Int) != 0) else none
  | .lst xs => some (!xs.isEmpty)
  | .tup xs => some (!xs.isEmpty)
  | _ => none
def truA (s : Sto) : Dt → Option Bool
  | .dct xs => some (!xs.isEmpty)
  | x => truB s x
def truF (f : Fe) : Ft := fun env s => do
  let (x, s1) ← f env s
  let b ← truA s1 x
  some (b, s1)
theorem truF_some {f : Fe} {env : Env} {s s' : Sto} {b : Bool} (h : truF f env s = some (b, s')) : ∃ x, f env s = some (x, s') ∧ truA s' x = some b := by
  unfold truF at h
  cases q : f env s with
  | none => rw [q] at h; cases h
  | some p =>
    obtain ⟨x, s1⟩ := p
    cases qg : truA s1 x with
    | none => simp [q, qg] at h
    | some z =>
      simp [q, qg] at h
      obtain ⟨rfl, rfl⟩ := h
      exact ⟨x, rfl, qg⟩
theorem Reps.emp {K : PySem.W.Frag} {F : Hp} {vs : List V} {ds : List Dt} (r : Reps K F vs ds) : vs.isEmpty = ds.isEmpty := by cases r <;> rfl
theorem Repk.emp {K : PySem.W.Frag} {F : Hp} {vs : List (Key × V)} {ds : List (Key × Dt)} (r : Repk K F vs ds) : vs.isEmpty = ds.isEmpty := by cases r <;> rfl
theorem tru_V {K : PySem.W.Frag} {ft : List Addr} {F H : Hp} {s : Sto} {v : V} {x : Dt} {b : Bool} (B : Bs K ft F H s) (r : RepB K ft F H v x) (h : truB s x = some b) : TruV K v H b := by
  cases x <;> simp only [truB] at h <;> try (cases h; done)
  · cases h; obtain rfl := r.non; exact rfl
  · cases h; obtain rfl := r.bl; exact rfl
  · cases h; obtain rfl := r.int; exact rfl
  · split at h <;> cases h
    obtain rfl := r.str
    exact ⟨by assumption, rfl⟩
  · cases h
    obtain ⟨a, vs, rfl, e, q⟩ := r.tup B
    exact .inr (.inl ⟨vs, e, by rw [q.emp]⟩)
  · cases h
    obtain ⟨a, vs, rfl, e, q⟩ := r.lst B
    exact .inl ⟨vs, SqL.of e, by rw [q.emp]⟩
section
variable {X : Cx} {O : List Nat} {a b c e : Expr} {rest : List Expr} {fa fb : Fe} {ta tb : Ft} {pos : Pos}
theorem pt_imp {t t' : TT} (h : PT X e t) (k : ∀ σ H Q, t' σ H Q → t σ H Q) : PT X e t' := ⟨fun pins s σ H Q I q => h.run pins s σ H Q I (k σ H Q q)⟩
theorem pw_imp {t t' : TT} (h : PW X e t) (k : ∀ σ H Q, t' σ H Q → t σ H Q) : PW X e t' := ⟨fun w pins s σ H Q I q => h.run w pins s σ H Q I (k σ H Q q)⟩
def rTruA (K : PySem.W.Frag) : V → Hp → (Bool → Hp → Prop) → Prop := fun x H Q => (∃ k, TruV K x H k ∧ Q k H) ∨ ∃ p kvs, x = .ref p ∧ Rd H p (.dK kvs) ∧ Q (!kvs.isEmpty) H
theorem tru_okA : TruR X (rTruA X.K) := by
  intro pins s σ H x v Q I rx h
  rcases h with h | ⟨p, kvs, rfl, e, q⟩
  · exact tru_ok pins s σ H x v Q I rx h
  · cases rx
    exact d_truth I e fun s' I' => ⟨H, I', q⟩
theorem tru_A {K : PySem.W.Frag} {ft : List Addr} {F H : Hp} {s : Sto} {v : V} {x : Dt} {b : Bool} (B : Bs K ft F H s) (r : RepB K ft F H v x) (h : truA s x = some b) {Q : Bool → Hp → Prop} (q : Q b H) : rTruA K v H Q := by
  unfold truA at h
  split at h
  · cases h
    obtain ⟨a, vs, rfl, e, z⟩ := r.dct B
    exact .inr ⟨a, vs, rfl, e, by rw [z.emp]; exact q⟩
  · exact .inl ⟨b, tru_V B r h, q⟩
theorem t_tru (ha : PE X a (tB X.K O fa)) (he : ∀ whole, isTrue a X.env whole = (do let v ← whole; standAt a.pos; holding [v] (truthy v)) := by intro _; rfl) : PT X a (tT X.K O (truF fa)) :=
  pt_imp (pt_truthR ha tru_okA he) fun σ H Q ⟨g, F, env, s, b, s', st, hf, k⟩ => by
    obtain ⟨x, q1, q2⟩ := truF_some hf
    exact ⟨g, F, env, s, x, s', st, q1, fun v F1 H1 x1 b1 r1 => tru_A b1 r1 q2 (k F1 H1 x1 b1)⟩
theorem tTest_t {K : PySem.W.Frag} {t : TE} {f : Fe} (h : ∀ σ H Q, tD K O f σ H Q → t σ H Q) (σ : L2.St) (H : Hp) (Q : Bool → Hp → Prop) (q : tT K O (asB f) σ H Q) : tTest t σ H Q := by
  obtain ⟨g, F, env, s, b, s', st, hf, k⟩ := q
  refine h σ H _ ⟨g, F, env, s, .bl b, s', st, asB_some hf, fun v F' H' x1 b1 r1 => ?_⟩
  cases r1
  exact ⟨b, rfl, k F' H' x1 b1⟩
theorem t_cmp {op : CmpOp} {r : R2} {gg : Sto → Dt → Dt → Option Dt} (ho : OpR X (compareOp op) r) (hg : OpD X.K r gg) (ha : PE X a (tB X.K O fa)) (hb : PE X b (tB X.K O fb))
    (hm : behindInMarks op b = false := by first | exact nobehind _ (by decide) (by decide) | rfl) : PT X (.Compare a [op] [b] pos) (tT X.K O (asB (bind2 fa fb gg))) := pt_imp (pt_cmpR ho ha hb hm) (tTest_t (tOp_d hg))
theorem t_eq (hu : X.A.units + 64 < cLine) (ha : PE X a (tB X.K O fa)) (hb : PE X b (tB X.K O fb)) : PT X (.Compare a [.Eq] [b] pos) (tT X.K O (asB (bind2 fa fb eqG))) := t_cmp (op_eqA hu) opd_eq ha hb
theorem t_ne (hu : X.A.units + 64 < cLine) (ha : PE X a (tB X.K O fa)) (hb : PE X b (tB X.K O fb)) : PT X (.Compare a [.NotEq] [b] pos) (tT X.K O (asB (bind2 fa fb neG))) := t_cmp (op_neA hu) opd_ne ha hb
theorem t_lt (ha : PE X a (tB X.K O fa)) (hb : PE X b (tB X.K O fb)) : PT X (.Compare a [.Lt] [b] pos) (tT X.K O (asB (bind2 fa fb ltG))) := t_cmp op_ltA opd_lt ha hb
theorem t_gt (ha : PE X a (tB X.K O fa)) (hb : PE X b (tB X.K O fb)) : PT X (.Compare a [.Gt] [b] pos) (tT X.K O (asB (bind2 fa fb gtG))) := t_cmp op_gtA opd_gt ha hb
theorem t_ge (ha : PE X a (tB X.K O fa)) (hb : PE X b (tB X.K O fb)) : PT X (.Compare a [.GtE] [b] pos) (tT X.K O (asB (bind2 fa fb geG))) := t_cmp op_geA opd_ge ha hb
theorem t_in (ha : PE X a (tB X.K O fa)) (hb : PE X b (tB X.K O fb)) (hm : behindInMarks .In b = false := by rfl) : PT X (.Compare a [.In] [b] pos) (tT X.K O (asB (bind2 fa fb inG))) := t_cmp op_inA opd_in ha hb hm
theorem t_notIn (ha : PE X a (tB X.K O fa)) (hb : PE X b (tB X.K O fb)) (hm : behindInMarks .NotIn b = false := by rfl) : PT X (.Compare a [.NotIn] [b] pos) (tT X.K O (asB (bind2 fa fb notInG))) := t_cmp op_notInA opd_notIn ha hb hm
def andT (f g : Ft) : Ft := fun env s => do
  let (b, s1) ← f env s
  if b then g env s1 else some (false, s1)
def orT (f g : Ft) : Ft := fun env s => do
  let (b, s1) ← f env s
  if b then some (true, s1) else g env s1
def notT (f : Ft) : Ft := fun env s => (f env s).map fun p => (!p.1, p.2)
theorem w_and1 (ha : PT X a (tT X.K O ta)) : PW X (.BoolOp .And [a] pos) (tT X.K O ta) := pw_and1 ha
theorem w_or1 (ha : PT X a (tT X.K O ta)) : PW X (.BoolOp .Or [a] pos) (tT X.K O ta) := pw_or1 ha
theorem w_and (ha : PT X a (tT X.K O ta)) (hb : PW X (.BoolOp .And (b :: rest) pos) (tT X.K O tb)) : PW X (.BoolOp .And (a :: b :: rest) pos) (tT X.K O (andT ta tb)) := pw_imp (pw_and ha hb) fun σ H Q ⟨g, F, env, s, z, s', st, hf, k⟩ => by
  unfold andT at hf
  cases q : ta env s with
  | none => rw [q] at hf; cases hf
  | some p =>
    obtain ⟨c, s1⟩ := p
    simp only [q, Option.bind_eq_bind, Option.bind_some] at hf
    refine ⟨g, F, env, s, c, s1, st, q, fun F1 H1 x1 b1 => ?_⟩
    cases c with
    | true =>
      rw [if_pos rfl] at hf ⊢
      exact ⟨g, F1, env, s1, z, s', st.step x1 b1, hf, fun F2 H2 x2 b2 => k F2 H2 (x1.trans x2 b1) b2⟩
    | false =>
      rw [if_neg Bool.false_ne_true] at hf ⊢
      cases hf
      exact k F1 H1 x1 b1
theorem w_or (ha : PT X a (tT X.K O ta)) (hb : PW X (.BoolOp .Or (b :: rest) pos) (tT X.K O tb)) : PW X (.BoolOp .Or (a :: b :: rest) pos) (tT X.K O (orT ta tb)) := pw_imp (pw_or ha hb) fun σ H Q ⟨g, F, env, s, z, s', st, hf, k⟩ => by
  unfold orT at hf
  cases q : ta env s with
  | none => rw [q] at hf; cases hf
  | some p =>
    obtain ⟨c, s1⟩ := p
    simp only [q, Option.bind_eq_bind, Option.bind_some] at hf
    refine ⟨g, F, env, s, c, s1, st, q, fun F1 H1 x1 b1 => ?_⟩
    cases c with
    | false =>
      rw [if_neg Bool.false_ne_true] at hf ⊢
      exact ⟨g, F1, env, s1, z, s', st.step x1 b1, hf, fun F2 H2 x2 b2 => k F2 H2 (x1.trans x2 b1) b2⟩
    | true =>
      rw [if_pos rfl] at hf ⊢
      cases hf
      exact k F1 H1 x1 b1
theorem t_bool {op : BoolOp} {vs : List Expr} {f : Ft} (h : PW X (.BoolOp op vs pos) (tT X.K O f)) : PT X (.BoolOp op vs pos) (tT X.K O f) := h.pt
def andV (f g : Fe) : Fe := fun env s => do
  let (x, s1) ← f env s
  let b ← truB s1 x
  if b then g env s1 else some (x, s1)
def orV (f g : Fe) : Fe := fun env s => do
  let (x, s1) ← f env s
  let b ← truB s1 x
  if b then some (x, s1) else g env s1
def ifV (c : Ft) (f g : Fe) : Fe := fun env s => do
  let (b, s1) ← c env s
  if b then f env s1 else g env s1
theorem if_some {c : Ft} {f g : Fe} {env : Env} {s s' : Sto} {z : Dt} (h : ifV c f g env s = some (z, s')) : ∃ b s1, c env s = some (b, s1) ∧ (if b = true then f env s1 else g env s1) = some (z, s') := by
  unfold ifV at h
  cases q : c env s with
  | none => rw [q] at h; cases h
  | some p =>
    obtain ⟨b, s1⟩ := p
    simp only [q, Option.bind_eq_bind, Option.bind_some] at h
    exact ⟨b, s1, rfl, h⟩
theorem d_if (hc : PT X c (tT X.K O ta)) (ha : PE X a (tD X.K O fa)) (hb : PE X b (tD X.K O fb)) : PE X (.IfExp c a b pos) (tD X.K O (ifV ta fa fb)) := pe_imp (pe_ifExp hc ha hb) fun σ H Q ⟨g, F, env, s, z, s', st, hf, k⟩ => by
  obtain ⟨b, s1, q, hf⟩ := if_some hf
  refine ⟨g, F, env, s, b, s1, st, q, fun F1 H1 x1 b1 => ?_⟩
  cases b with
  | true =>
    rw [if_pos rfl] at hf ⊢
    exact ⟨g, F1, env, s1, z, s', st.step x1 b1, hf, fun w F2 H2 x2 b2 r2 => k w F2 H2 (x1.trans x2 b1) b2 r2⟩
  | false =>
    rw [if_neg Bool.false_ne_true] at hf ⊢
    exact ⟨g, F1, env, s1, z, s', st.step x1 b1, hf, fun w F2 H2 x2 b2 r2 => k w F2 H2 (x1.trans x2 b1) b2 r2⟩
theorem n_if (hc : PT X c (tT X.K O ta)) (ha : PE X a (tN X.K O fa)) (hb : PE X b (tN X.K O fb)) : PE X (.IfExp c a b pos) (tN X.K O (ifV ta fa fb)) := pe_imp (pe_ifExp hc ha hb) fun σ H Q ⟨g, F, env, s, z, s', st, hf, k⟩ => by
  obtain ⟨b, s1, q, hf⟩ := if_some hf
  refine ⟨g, F, env, s, b, s1, st, q, fun F1 H1 x1 b1 => ?_⟩
  cases b with
  | true =>
    rw [if_pos rfl] at hf ⊢
    exact ⟨g, F1, env, s1, z, s', st.step x1 b1, hf, fun p o F2 H2 x2 b2 n2 n' e r2 => k p o F2 H2 (x1.trans x2 b1) b2 (x1.free b1 n2) n' e r2⟩
  | false =>
    rw [if_neg Bool.false_ne_true] at hf ⊢
    exact ⟨g, F1, env, s1, z, s', st.step x1 b1, hf, fun p o F2 H2 x2 b2 n2 n' e r2 => k p o F2 H2 (x1.trans x2 b1) b2 (x1.free b1 n2) n' e r2⟩
end

abbrev Fa := Env → Sto → Option (List Dt × Sto)
def tAB (K : PySem.W.Frag) (O : List Nat) (f : Fa) : TA := fun σ H Q => ∃ g F env s ds s', Stt K g O F H σ env s ∧ f env s = some (ds, s') ∧ ∀ vs F' H', Go g.ft F H F' H' → Bs K g.ft F' H' s' → Paired (RepB K g.ft F' H') vs ds → Q vs H'
def tAD (K : PySem.W.Frag) (O : List Nat) (f : Fa) : TA := fun σ H Q => ∃ g F env s ds s', Stt K g O F H σ env s ∧ f env s = some (ds, s') ∧ ∀ vs F' H', Go g.ft F H F' H' → Bs K g.ft F' H' s' → Reps K F' vs ds → Q vs H'
def aNil : Fa := fun _ s => some ([], s)
def aCons (f : Fe) (r : Fa) : Fa := fun env s => do
  let (x, s1) ← f env s
  let (xs, s2) ← r env s1
  some (x :: xs, s2)
theorem aCons_some {f : Fe} {r : Fa} {env : Env} {s s' : Sto} {ds : List Dt} (h : aCons f r env s = some (ds, s')) : ∃ x s1 xs, f env s = some (x, s1) ∧ r env s1 = some (xs, s') ∧ ds = x :: xs := by
  unfold aCons at h
  cases q : f env s with
  | none => rw [q] at h; cases h
  | some p =>
    obtain ⟨x, s1⟩ := p
    cases q2 : r env s1 with
    | none => simp [q, q2] at h
    | some p2 =>
      obtain ⟨xs, s2⟩ := p2
      simp [q, q2] at h
      obtain ⟨rfl, rfl⟩ := h
      exact ⟨x, s1, xs, rfl, q2, rfl⟩
section
variable {X : Cx} {O : List Nat} {e : Expr} {es : List Expr} {f : Fe} {r : Fa} {pos : Pos}
theorem pa_imp {t t' : TA} (h : PA X es t) (k : ∀ σ H Q, t' σ H Q → t σ H Q) : PA X es t' := ⟨fun pos pins s σ H Q I q => h.run pos pins s σ H Q I (k σ H Q q)⟩
theorem ab_nil : PA X [] (tAB X.K O aNil) := pa_imp pa_nil fun σ H Q ⟨g, F, env, s, ds, s', st, hf, k⟩ => by
  cases hf
  exact k [] F H Go.refl st.bs .nil
theorem ad_nil : PA X [] (tAD X.K O aNil) := pa_imp pa_nil fun σ H Q ⟨g, F, env, s, ds, s', st, hf, k⟩ => by
  cases hf
  exact k [] F H Go.refl st.bs .nil
theorem ab_cons (he : PE X e (tB X.K O f)) (hr : PA X es (tAB X.K O r)) (hs : starEach (e :: es) X.env = (false, eval e X.env) :: starEach es X.env := by rfl) : PA X (e :: es) (tAB X.K O (aCons f r)) :=
  pa_imp (pa_cons he hr hs) fun σ H Q ⟨g, F, env, s, ds, s', st, hf, k⟩ => by
    obtain ⟨x, s1, xs, q1, q2, rfl⟩ := aCons_some hf
    exact ⟨g, F, env, s, x, s1, st, q1, fun v F1 H1 x1 b1 r1 => ⟨g, F1, env, s1, xs, s', st.step x1 b1, q2, fun vs F2 H2 x2 b2 r2 => k (v :: vs) F2 H2 (x1.trans x2 b1) b2 (.cons (r1.step x2) r2)⟩⟩
theorem ad_cons (he : PE X e (tD X.K O f)) (hr : PA X es (tAD X.K O r)) (hs : starEach (e :: es) X.env = (false, eval e X.env) :: starEach es X.env := by rfl) : PA X (e :: es) (tAD X.K O (aCons f r)) :=
  pa_imp (pa_cons he hr hs) fun σ H Q ⟨g, F, env, s, ds, s', st, hf, k⟩ => by
    obtain ⟨x, s1, xs, q1, q2, rfl⟩ := aCons_some hf
    exact ⟨g, F, env, s, x, s1, st, q1, fun v F1 H1 x1 b1 r1 => ⟨g, F1, env, s1, xs, s', st.step x1 b1, q2, fun vs F2 H2 x2 b2 r2 => k (v :: vs) F2 H2 (x1.trans x2 b1) b2 (.cons (Rep.mono x2.sam _ _ r1) r2)⟩⟩
def bindA (r : Fa) (g : Sto → List Dt → Option Dt) : Fe := fun env s => do
  let (xs, s1) ← r env s
  let z ← g s1 xs
  some (z, s1)
theorem bindA_some {f : Fa} {g : Sto → List Dt → Option Dt} {env : Env} {s s' : Sto} {d : Dt} (h : bindA f g env s = some (d, s')) : ∃ x, f env s = some (x, s') ∧ g s' x = some d := by
  unfold bindA at h
  cases q : f env s with
  | none => rw [q] at h; cases h
  | some p =>
    obtain ⟨x, s1⟩ := p
    cases qg : g s1 x with
    | none => simp [q, qg] at h
    | some z =>
      simp [q, qg] at h
      obtain ⟨rfl, rfl⟩ := h
      exact ⟨x, rfl, qg⟩
def tupG (_ : Sto) (xs : List Dt) : Option Dt := if xs.length ≤ sizeLine then some (.tup xs) else none
def lstG (_ : Sto) (xs : List Dt) : Option Dt := if xs.length ≤ sizeLine then some (.lst xs) else none
theorem d_tup {x1} (h : PA X es (tAD X.K O r)) : PE X (.Tuple es x1 pos) (tD X.K O (bindA r tupG)) := pe_imp (pe_tupF h) fun σ H Q ⟨g, F, env, s, d, s', st, hf, k⟩ => by
  obtain ⟨xs, q1, q2⟩ := bindA_some hf
  unfold tupG at q2
  split at q2 <;> cases q2
  rename_i hl
  refine ⟨g, F, env, s, xs, s', st, q1, fun vs F1 H1 x1 b1 r1 => ⟨by rw [r1.length]; exact hl, fun p o np ho => ?_⟩⟩
  obtain ⟨x2, b2, r2⟩ := Go.layT b1 np ho r1
  exact k (.ref p) _ _ (x1.trans x2 b1) b2 r2
theorem n_lst (h : PA X es (tAD X.K O r)) : PE X (.List es pos) (tN X.K O (bindA r lstG)) := pe_imp (pe_lst h) fun σ H Q ⟨g, F, env, s, d, s', st, hf, k⟩ => by
  obtain ⟨xs, q1, q2⟩ := bindA_some hf
  unfold lstG at q2
  split at q2 <;> cases q2
  rename_i hl
  refine ⟨g, F, env, s, xs, s', st, q1, fun vs F1 H1 x1 b1 r1 => ⟨by rw [r1.length]; exact hl, fun p np => ?_⟩⟩
  obtain ⟨x2, b2, n2⟩ := Go.made (o := .lst vs) b1 np
  exact k p (.lst vs) F1 _ (x1.trans x2 b1) b2 (x1.free b1 np) n2 upd_same (.lst r1)
end

def CallD (K : PySem.W.Frag) (r : List V → Hp → VK → Prop) (g : Sto → List Dt → Option Dt) : Prop := ∀ (ft : List Addr) (F H : Hp) (s : Sto) (vs : List V) (xs : List Dt) (z : Dt) (Q : VK), Bs K ft F H s → Paired (RepB K ft F H) vs xs → g s xs = some z →
  (∀ u F' H', Go ft F H F' H' → Bs K ft F' H' s → Rep K F' u z → Q u H') → r vs H Q
def CallN (K : PySem.W.Frag) (r : List V → Hp → VK → Prop) (g : Sto → List Dt → Option Dt) : Prop := ∀ (ft : List Addr) (F H : Hp) (s : Sto) (vs : List V) (xs : List Dt) (z : Dt) (Q : VK), Bs K ft F H s → Paired (RepB K ft F H) vs xs → g s xs = some z →
  (∀ p o, H p = none → ObR K F o z → Q (.ref p) (upd H p o)) → r vs H Q
section
variable {X : Cx} {O : List Nat} {e : Expr} {es : List Expr} {fa : Fa} {pos p : Pos} {x : Str} {id T : String} {r : List V → Hp → VK → Prop} {gg : Sto → List Dt → Option Dt}
theorem tCB_d {K : PySem.W.Frag} (hg : CallD K r gg) (σ : L2.St) (H : Hp) (Q : VK) (h : tD K O (bindA fa gg) σ H Q) : tCB r (tAB K O fa) σ H Q := by
  obtain ⟨g, F, env, s, d, s', st, hf, k⟩ := h
  obtain ⟨xs, q1, q2⟩ := bindA_some hf
  exact ⟨g, F, env, s, xs, s', st, q1, fun vs F1 H1 x1 b1 r1 => hg g.ft F1 H1 s' vs xs d Q b1 r1 q2 fun u F2 H2 x2 b2 r2 => k u F2 H2 (x1.trans x2 b1) b2 r2⟩
theorem tCB_n {K : PySem.W.Frag} (hg : CallN K r gg) (σ : L2.St) (H : Hp) (Q : VK) (h : tN K O (bindA fa gg) σ H Q) : tCB r (tAB K O fa) σ H Q := by
  obtain ⟨g, F, env, s, d, s', st, hf, k⟩ := h
  obtain ⟨xs, q1, q2⟩ := bindA_some hf
  refine ⟨g, F, env, s, xs, s', st, q1, fun vs F1 H1 x1 b1 r1 => hg g.ft F1 H1 s' vs xs d Q b1 r1 q2 fun p o n q => ?_⟩
  obtain ⟨x2, b2, n2⟩ := Go.made (o := o) b1 n
  exact k p o F1 _ (x1.trans x2 b1) b2 (x1.free b1 n) n2 upd_same q
theorem d_callB (hc : CallR X (.builtin id) r) (hd : CallD X.K r gg) (hg : Gl X x) (hm : X.mg x = none) (hv : bootBuiltins x = some (.builtin id)) (ha : PA X (e :: es) (tAB X.K O fa)) (hn : x ≠ "__name__" := by decide)
    (hdb : (x == ("__debug__" : Str)) = false := by decide) (he : starEach (e :: es) X.env = (false, eval e X.env) :: starEach es X.env := by rfl) (hpl : (backTo pos (starEach es X.env)).any (·.1) = false := by rfl) : PE X (.Call (.Name x p) (e :: es) [] pos) (tD X.K O (bindA fa gg)) := pe_imp (pe_callB hc hg hm hv ha hn hdb he hpl) (tCB_d hd)
theorem d_callT (hc : CallR X (.type T) r) (hd : CallD X.K r gg) (hg : Gl X x) (hm : X.mg x = none) (hv : bootBuiltins x = some (.type T)) (ha : PA X (e :: es) (tAB X.K O fa)) (hn : x ≠ "__name__" := by decide)
    (hdb : (x == ("__debug__" : Str)) = false := by decide) (he : starEach (e :: es) X.env = (false, eval e X.env) :: starEach es X.env := by rfl) (hpl : (backTo pos (starEach es X.env)).any (·.1) = false := by rfl) : PE X (.Call (.Name x p) (e :: es) [] pos) (tD X.K O (bindA fa gg)) := pe_imp (pe_callTy hc hg hm hv ha hn hdb he hpl) (tCB_d hd)
theorem n_callB (hc : CallR X (.builtin id) r) (hd : CallN X.K r gg) (hg : Gl X x) (hm : X.mg x = none) (hv : bootBuiltins x = some (.builtin id)) (ha : PA X (e :: es) (tAB X.K O fa)) (hn : x ≠ "__name__" := by decide)
    (hdb : (x == ("__debug__" : Str)) = false := by decide) (he : starEach (e :: es) X.env = (false, eval e X.env) :: starEach es X.env := by rfl) (hpl : (backTo pos (starEach es X.env)).any (·.1) = false := by rfl) : PE X (.Call (.Name x p) (e :: es) [] pos) (tN X.K O (bindA fa gg)) := pe_imp (pe_callB hc hg hm hv ha hn hdb he hpl) (tCB_n hd)
theorem n_callT (hc : CallR X (.type T) r) (hd : CallN X.K r gg) (hg : Gl X x) (hm : X.mg x = none) (hv : bootBuiltins x = some (.type T)) (ha : PA X (e :: es) (tAB X.K O fa)) (hn : x ≠ "__name__" := by decide)
    (hdb : (x == ("__debug__" : Str)) = false := by decide) (he : starEach (e :: es) X.env = (false, eval e X.env) :: starEach es X.env := by rfl) (hpl : (backTo pos (starEach es X.env)).any (·.1) = false := by rfl) : PE X (.Call (.Name x p) (e :: es) [] pos) (tN X.K O (bindA fa gg)) := pe_imp (pe_callTy hc hg hm hv ha hn hdb he hpl) (tCB_n hd)
end
section
variable {K : PySem.W.Frag} {ft : List Addr} {F H : Hp}
theorem pair1 {vs : List V} {x : Dt} (h : Paired (RepB K ft F H) vs [x]) : ∃ v, vs = [v] ∧ RepB K ft F H v x := by
  cases h with
  | cons r t => cases t; exact ⟨_, rfl, r⟩
def lenG (_ : Sto) : List Dt → Option Dt
  | [.str x] => if x.length ≤ sizeLine then some (.int x.length) else none
  | [.lst xs] => some (.int xs.length)
  | [.tup xs] => some (.int xs.length)
  | [.dct xs] => some (.int xs.length)
  | _ => none
def rLenA (K : PySem.W.Frag) : List V → Hp → VK → Prop := fun xs H Q => (∃ x n, xs = [x] ∧ LenV K x H n ∧ Q (.int n) H) ∨ ∃ a kvs, xs = [V.ref a] ∧ Rd H a (.dK kvs) ∧ Q (.int kvs.length) H
theorem call_lenR {X : Cx} : CallR X (.builtin "len") (fun xs H Q => ∃ a kvs, xs = [V.ref a] ∧ Rd H a (.dK kvs) ∧ Q (.int kvs.length) H) := by
  intro pins s σ H xs us Q I r h
  obtain ⟨a, kvs, rfl, ha, q⟩ := h
  obtain ⟨u, rfl, ru⟩ := vals1 r
  cases ru
  exact d_len I ha fun t s' I' => ⟨.int kvs.length, H, I', ⟨t, rfl⟩, q⟩
theorem call_lenA {X : Cx} : CallR X (.builtin "len") (rLenA X.K) := CallR.or call_len call_lenR
theorem Repk.length : ∀ {vs : List (Key × V)} {ds : List (Key × Dt)}, Repk K F vs ds → vs.length = ds.length
  | [], [], _ => rfl
  | [], _ :: _, h => by cases h
  | _ :: _, [], h => by cases h
  | _ :: vs, _ :: ds, h => by
    cases h with
    | cons h1 h2 => rw [List.length_cons, List.length_cons, Repk.length h2]
theorem cd_len : CallD K (rLenA K) lenG := by
  intro ft F H s vs xs z Q b rx hg k
  unfold lenG at hg
  split at hg
  · split at hg <;> cases hg
    rename_i hl
    obtain ⟨v, rfl, r⟩ := pair1 rx
    obtain rfl := r.str
    exact .inl ⟨_, _, rfl, ⟨hl, rfl⟩, k _ F H Go.refl b (.int _)⟩
  · cases hg
    obtain ⟨v, rfl, r⟩ := pair1 rx
    obtain ⟨a, vs, rfl, e, q⟩ := r.lst b
    exact .inl ⟨_, _, rfl, .inl ⟨vs, SqL.of e, rfl⟩, by rw [q.length]; exact k _ F H Go.refl b (.int _)⟩
  · cases hg
    obtain ⟨v, rfl, r⟩ := pair1 rx
    obtain ⟨a, vs, rfl, e, q⟩ := r.tup b
    exact .inl ⟨_, _, rfl, .inr ⟨vs, e, rfl⟩, by rw [q.length]; exact k _ F H Go.refl b (.int _)⟩
  · cases hg
    obtain ⟨v, rfl, r⟩ := pair1 rx
    obtain ⟨a, vs, rfl, e, q⟩ := r.dct b
    exact .inr ⟨a, vs, rfl, e, by rw [q.length]; exact k _ F H Go.refl b (.int _)⟩
  · cases hg
def intG (_ : Sto) : List Dt → Option Dt
  | [.int i] => some (.int i)
  | [.str a] => match PySem.intText? a with
    | some n => if a.length ≤ 640 then some (.int n) else none
    | none => none
  | _ => none
def rIntA : List V → Hp → VK → Prop := fun xs H Q => ((∃ i, xs = [.int i] ∧ Q (.int i) H) ∨ ∃ k, xs = [.bl k] ∧ Q (.int (if k then 1 else 0)) H) ∨ ∃ a n, xs = [.str a] ∧ PySem.intText? a = some n ∧ a.length ≤ 640 ∧ Q (.int n) H
theorem call_intA {X : Cx} : CallR X (.type "int") rIntA := CallR.or call_int1 call_int_str
theorem cd_int : CallD K rIntA intG := by
  intro ft F H s vs xs z Q b rx hg k
  unfold intG at hg
  split at hg
  · cases hg
    obtain ⟨v, rfl, r⟩ := pair1 rx
    obtain rfl := r.int
    exact .inl (.inl ⟨_, rfl, k _ F H Go.refl b (.int _)⟩)
  · split at hg
    · rename_i q
      split at hg <;> cases hg
      obtain ⟨v, rfl, r⟩ := pair1 rx
      obtain rfl := r.str
      exact .inr ⟨_, _, rfl, q, by assumption, k _ F H Go.refl b (.int _)⟩
    · cases hg
  · cases hg
def bools : List Dt → Option (List Bool)
  | [] => some []
  | .bl b :: r => (bools r).map (b :: ·)
  | _ => none
theorem bools_map : ∀ {ds : List Dt} {bs : List Bool}, bools ds = some bs → ds = bs.map Dt.bl
  | [], _, h => by cases h; rfl
  | d :: r, bs, h => by
    cases d <;> simp only [bools] at h <;> try (cases h; done)
    rename_i b
    cases q : bools r with
    | none => rw [q] at h; cases h
    | some cs =>
      rw [q] at h
      cases h
      rw [bools_map q]
      rfl
def allG (_ : Sto) : List Dt → Option Dt
  | [.lst xs] => (bools xs).map fun bs => .bl (bs.all id)
  | _ => none
def anyG (_ : Sto) : List Dt → Option Dt
  | [.lst xs] => (bools xs).map fun bs => .bl (bs.any id)
  | _ => none
theorem cd_all : CallD K (rAll K) allG := by
  intro ft F H s vs xs z Q b rx hg k
  unfold allG at hg
  split at hg
  · rename_i ds
    cases q : bools ds with
    | none => rw [q] at hg; cases hg
    | some bs =>
      rw [q] at hg
      cases hg
      obtain ⟨v, rfl, r⟩ := pair1 rx
      obtain ⟨a, vs, rfl, e, rs⟩ := r.lst b
      rw [bools_map q] at rs
      rw [rs.of_bls] at e
      exact ⟨a, bs, rfl, SqL.of e, k _ F H Go.refl b (.bl _)⟩
  · cases hg
theorem cd_any : CallD K (rAny K) anyG := by
  intro ft F H s vs xs z Q b rx hg k
  unfold anyG at hg
  split at hg
  · rename_i ds
    cases q : bools ds with
    | none => rw [q] at hg; cases hg
    | some bs =>
      rw [q] at hg
      cases hg
      obtain ⟨v, rfl, r⟩ := pair1 rx
      obtain ⟨a, vs, rfl, e, rs⟩ := r.lst b
      rw [bools_map q] at rs
      rw [rs.of_bls] at e
      exact ⟨a, bs, rfl, SqL.of e, k _ F H Go.refl b (.bl _)⟩
  · cases hg
def toTupG (_ : Sto) : List Dt → Option Dt
  | [.lst xs] => some (.tup xs)
  | [.tup xs] => some (.tup xs)
  | _ => none
theorem cd_toTup : CallD K (rTupF K) toTupG := by
  intro ft F H s vs xs z Q b rx hg k
  unfold toTupG at hg
  split at hg
  · cases hg
    obtain ⟨v, rfl, r⟩ := pair1 rx
    obtain ⟨a, vs, rfl, e, q⟩ := r.lst b
    refine ⟨a, vs, rfl, .inl ⟨SqL.of e, fun l o nl ho => ?_⟩⟩
    obtain ⟨x1, b1, r1⟩ := Go.layT b nl ho q
    exact k (.ref l) _ _ x1 b1 r1
  · cases hg
    obtain ⟨v, rfl, r⟩ := pair1 rx
    obtain ⟨a, vs, rfl, e, q⟩ := r.tup b
    refine ⟨a, vs, rfl, .inr ⟨e, ?_⟩⟩
    rcases r with r | ⟨_, _, _, _, r, _⟩
    · exact k _ F H Go.refl b r
    · cases r
  · cases hg
def keyD : Key → Dt
  | .inl i => .int i
  | .inr x => .str x
theorem rep_key {F : Hp} (k : Key) : Rep K F (kV k) (keyD k) := by cases k <;> constructor
theorem reps_keys {F : Hp} : ∀ {vs : List (Key × V)} {ds : List (Key × Dt)}, Repk K F vs ds → Reps K F (vs.map fun kv => kV kv.1) (ds.map fun kv => keyD kv.1)
  | [], [], _ => .nil
  | [], _ :: _, h => by cases h
  | _ :: _, [], h => by cases h
  | (k, v) :: vs, (k', d) :: ds, h => by
    cases h with
    | cons h1 h2 => exact .cons (rep_key _) (reps_keys h2)
def toLstG (_ : Sto) : List Dt → Option Dt
  | [.lst xs] => some (.lst xs)
  | [.tup xs] => some (.lst xs)
  | [.dct xs] => some (.lst (xs.map fun kv => keyD kv.1))
  | _ => none
def rLstA (K : PySem.W.Frag) : List V → Hp → VK → Prop := fun xs H Q => (∃ p ys, xs = [.ref p] ∧ (SqL K H p ys ∨ SqT K H p ys) ∧ ∀ l, H l = none → Q (.ref l) (upd H l (.lst ys))) ∨
  ∃ (a : Addr) (kvs : List (Key × V)), xs = [.ref a] ∧ Rd H a (.dK kvs) ∧ ∀ p, H p = none → Q (.ref p) (upd H p (.lst (kvs.map fun kv => kV kv.1)))
theorem call_lstA {X : Cx} (hc : X.calm = true) : CallR X (.type "list") (rLstA X.K) := CallR.or call_list_of (call_listD hc)
theorem cn_toLst : CallN K (rLstA K) toLstG := by
  intro ft F H s vs xs z Q b rx hg k
  unfold toLstG at hg
  split at hg
  · cases hg
    obtain ⟨v, rfl, r⟩ := pair1 rx
    obtain ⟨a, vs, rfl, e, q⟩ := r.lst b
    exact .inl ⟨a, vs, rfl, .inl (SqL.of e), fun l nl => k l _ nl (.lst q)⟩
  · cases hg
    obtain ⟨v, rfl, r⟩ := pair1 rx
    obtain ⟨a, vs, rfl, e, q⟩ := r.tup b
    exact .inl ⟨a, vs, rfl, .inr e, fun l nl => k l _ nl (.lst q)⟩
  · cases hg
    obtain ⟨v, rfl, r⟩ := pair1 rx
    obtain ⟨a, vs, rfl, e, q⟩ := r.dct b
    exact .inr ⟨a, vs, rfl, e, fun l nl => k l _ nl (.lst (reps_keys q))⟩
  · cases hg
end
end DL

namespace DL
open PySem PySem.Spec PyProof.Rows L2

theorem lookup_mem : ∀ {l : List (Addr × Dt)} {a : Addr} {d : Dt}, l.lookup a = some d → (a, d) ∈ l
  | [], _, _, h => by simp at h
  | (b, e) :: l, a, d, h => by
    by_cases c : a = b
    · subst c
      rw [List.lookup_cons_self] at h
      cases h
      exact List.mem_cons_self
    · have c' : (a == b) = false := by simpa using c
      rw [List.lookup_cons, c'] at h
      exact List.mem_cons_of_mem _ (lookup_mem h)
def ixG (s : Sto) : Dt → Dt → Option Dt
  | .lst xs, .int i => atI xs i
  | .tup xs, .int i => atI xs i
  | .str z, .int i => if z.length ≤ sizeLine then (atI z.cps.toList i).map fun c => .str ⟨#[c]⟩ else none
  | .ref a, .int i => match s.lookup a with
    | some (.lst xs) => atI xs i
    | _ => none
  | _, _ => none
section
variable {K : PySem.W.Frag}
theorem Reps.at_ {F : Hp} {vs : List V} {ds : List Dt} {i : Int} {d : Dt} (r : Reps K F vs ds) (h : atI ds i = some d) : ∃ v, atI vs i = some v ∧ Rep K F v d := by
  unfold atI at h ⊢
  rw [r.length]
  cases q : ixN ds.length i with
  | none => rw [q] at h; cases h
  | some j =>
    rw [q] at h
    exact r.get h
theorem opd_ix : OpD K (rIx K) ixG := by
  intro ft F H s v w x y z Q b rx ry hg k
  unfold ixG at hg
  split at hg
  · obtain ⟨a, vs, rfl, e, r⟩ := rx.lst b
    obtain ⟨u, e1, r1⟩ := r.at_ hg
    exact .inl ⟨a, vs, _, u, rfl, ry.int, SqL.of e, e1, k u F H Go.refl b r1⟩
  · obtain ⟨a, vs, rfl, e, r⟩ := rx.tup b
    obtain ⟨u, e1, r1⟩ := r.at_ hg
    exact .inr (.inl ⟨a, vs, _, u, rfl, ry.int, e, e1, k u F H Go.refl b r1⟩)
  · split at hg
    · rename_i zz i hl
      cases q : atI zz.cps.toList i with
      | none => rw [q] at hg; cases hg
      | some c =>
        rw [q] at hg
        cases hg
        exact .inr (.inr ⟨zz, i, c, rx.str, ry.int, hl, q, k _ F H Go.refl b (.str _)⟩)
    · cases hg
  · rename_i a i
    split at hg
    · rename_i xs q
      obtain ⟨o, e, r⟩ := b.st _ _ (lookup_mem q)
      cases r with
      | lst r =>
        obtain ⟨u, e1, r1⟩ := r.at_ hg
        exact .inl ⟨a, _, _, u, rx.ref, ry.int, SqL.of e, e1, k u F H Go.refl b r1⟩
    · cases hg
  · cases hg
end
def keyOf : Dt → Option Key
  | .int i => some (.inl i)
  | .str x => some (.inr x)
  | _ => none
def valD (ks : List (Key × Dt)) (k : Key) : Option Dt := (ks.find? fun kv => decide (kv.1 = k)).map (·.2)
def putD (ks : List (Key × Dt)) (k : Key) (d : Dt) : List (Key × Dt) := if (ks.any fun kv => decide (kv.1 = k)) = true then ks.map (fun kv => if kv.1 = k then (kv.1, d) else kv) else ks ++ [(k, d)]
def dctOf (s : Sto) : Dt → Option (List (Key × Dt))
  | .dct ks => some ks
  | .ref a => match s.lookup a with
    | some (.dct ks) => some ks
    | _ => none
  | _ => none
def dgetG (s : Sto) (x y : Dt) : Option Dt := do
  let ks ← dctOf s x
  let k ← keyOf y
  valD ks k
def dinB (s : Sto) (y x : Dt) : Option Bool := do
  let ks ← dctOf s x
  let k ← keyOf y
  some (valD ks k).isSome
def dinG (s : Sto) (y x : Dt) : Option Dt := (dinB s y x).map Dt.bl
def dnotinG (s : Sto) (y x : Dt) : Option Dt := (dinB s y x).map fun b => Dt.bl (!b)
section
variable {K : PySem.W.Frag}
theorem keyOf_V {ft : List Addr} {F H : Hp} {v : V} {y : Dt} {k : Key} (r : RepB K ft F H v y) (h : keyOf y = some k) : v = kV k := by
  cases y <;> simp only [keyOf] at h <;> try (cases h; done)
  · cases h; exact r.int
  · cases h; exact r.str
theorem dget_rd {H : Hp} {a : Addr} {kvs : List (Key × V)} {k : Key} (e : Rd H a (.dK kvs)) : DGet H a (kV k) (valV kvs k) := .inl ⟨kvs, k, e, rfl, rfl⟩
theorem dctOf_V {ft : List Addr} {F H : Hp} {s : Sto} {v : V} {x : Dt} {ks : List (Key × Dt)} (b : Bs K ft F H s) (r : RepB K ft F H v x) (h : dctOf s x = some ks) : ∃ a vs, v = .ref a ∧ Rd H a (.dK vs) ∧ Repk K F vs ks := by
  unfold dctOf at h
  split at h
  · cases h
    exact r.dct b
  · split at h
    · rename_i q
      cases h
      obtain ⟨o, e, r'⟩ := b.st _ _ (lookup_mem q)
      cases r' with
      | dct r' => exact ⟨_, _, r.ref, .inl e, r'⟩
    · cases h
  · cases h
theorem Repk.val {F : Hp} : ∀ {vs : List (Key × V)} {ds : List (Key × Dt)} (k : Key), Repk K F vs ds → (∀ d, valD ds k = some d → ∃ v, valV vs k = some v ∧ Rep K F v d) ∧ (valV vs k).isSome = (valD ds k).isSome
  | [], [], k, _ => ⟨fun d h => by simp [valD] at h, rfl⟩
  | [], _ :: _, _, h => by cases h
  | _ :: _, [], _, h => by cases h
  | (j, v) :: vs, (j', d) :: ds, k, h => by
    cases h with
    | cons h1 h2 =>
      by_cases c : j = k
      · subst c
        refine ⟨fun d' e => ⟨v, valV_pos rfl, ?_⟩, ?_⟩
        · simp [valD, List.find?_cons] at e
          subst e
          exact h1
        · rw [valV_pos rfl]
          simp [valD, List.find?_cons]
      · obtain ⟨i1, i2⟩ := Repk.val k h2
        have e2 : valD ((j, d) :: ds) k = valD ds k := by simp [valD, List.find?_cons, c]
        rw [e2, valV_neg c]
        exact ⟨i1, i2⟩
theorem Repk.put {F : Hp} {v : V} {d : Dt} (k : Key) (r : Rep K F v d) {vs : List (Key × V)} {ds : List (Key × Dt)} (h : Repk K F vs ds) : Repk K F (putK vs k v) (putD ds k d) := by
  have hany : ∀ {vs : List (Key × V)} {ds : List (Key × Dt)}, Repk K F vs ds → (vs.any fun kv => decide (kv.1 = k)) = (ds.any fun kv => decide (kv.1 = k)) := by
    intro vs ds h
    induction ds generalizing vs with
    | nil => cases h; rfl
    | cons e ds ih =>
      cases h with
      | cons h1 h2 => rw [List.any_cons, List.any_cons, ih h2]
  have hmap : ∀ {vs : List (Key × V)} {ds : List (Key × Dt)}, Repk K F vs ds → Repk K F (vs.map fun kv => if kv.1 = k then (kv.1, v) else kv) (ds.map fun kv => if kv.1 = k then (kv.1, d) else kv) := by
    intro vs ds h
    induction ds generalizing vs with
    | nil => cases h; exact .nil
    | cons e ds ih =>
      cases h with
      | cons h1 h2 =>
        rename_i j v0 vs0 d0
        simp only [List.map_cons]
        by_cases c : j = k
        · rw [if_pos c, if_pos c]; exact .cons r (ih h2)
        · rw [if_neg c, if_neg c]; exact .cons h1 (ih h2)
  have happ : ∀ {vs : List (Key × V)} {ds : List (Key × Dt)}, Repk K F vs ds → Repk K F (vs ++ [(k, v)]) (ds ++ [(k, d)]) := by
    intro vs ds h
    induction ds generalizing vs with
    | nil => cases h; exact .cons r .nil
    | cons e ds ih =>
      cases h with
      | cons h1 h2 => exact .cons h1 (ih h2)
  unfold putK putD
  rw [hany h]
  split
  · exact hmap h
  · exact happ h
variable {X : Cx} {O : List Nat} {a i o : Expr} {fa fb : Fe} {pos : Pos}
theorem d_ix (ha : PE X a (tB X.K O fa)) (hb : PE X i (tB X.K O fb)) (hs : PlainIx i := by intro _ _; rfl) : PE X (.Subscript a i pos) (tD X.K O (bind2 fa fb ixG)) := pe_imp (pe_ix ix_seq ha hb hs) (tOp_d opd_ix)
theorem bind2_some {fa fb : Fe} {gg : Sto → Dt → Dt → Option Dt} {env : Env} {s s' : Sto} {d : Dt} (hf : bind2 fa fb gg env s = some (d, s')) : ∃ x s1 y, fa env s = some (x, s1) ∧ fb env s1 = some (y, s') ∧ gg s' x y = some d := by
  unfold bind2 at hf
  cases qa : fa env s with
  | none => rw [qa] at hf; cases hf
  | some pa =>
    obtain ⟨x, s1⟩ := pa
    rw [qa] at hf
    cases qb : fb env s1 with
    | none => simp [qb] at hf
    | some pb =>
      obtain ⟨y, s2⟩ := pb
      cases qg : gg s2 x y with
      | none => simp [qb, qg] at hf
      | some z =>
        simp [qb, qg] at hf
        obtain ⟨rfl, rfl⟩ := hf
        exact ⟨x, s1, y, rfl, qb, qg⟩
theorem d_dget (hu : X.A.units + 1 < cLine) (ha : PE X o (tB X.K O fa)) (hb : PE X i (tB X.K O fb)) (hs : NoSl i := by intro _ _; rfl) : PE X (.Subscript o i pos) (tD X.K O (bind2 fa fb dgetG)) := pe_imp (pe_dget hu ha hb hs) fun σ H Q ⟨g, F, env, s, d, s', st, hf, k⟩ => by
  obtain ⟨x, s1, y, q1, q2, q3⟩ := bind2_some hf
  refine ⟨g, F, env, s, x, s1, st, q1, fun v F1 H1 x1 b1 r1 => ⟨g, F1, env, s1, y, s', st.step x1 b1, q2, fun w F2 H2 x2 b2 r2 => ?_⟩⟩
  unfold dgetG at q3
  cases qd : dctOf s' x with
  | none => rw [qd] at q3; cases q3
  | some ks =>
    cases qk : keyOf y with
    | none => simp [qd, qk] at q3
    | some key =>
      simp only [qd, qk, Option.bind_eq_bind, Option.bind_some] at q3
      obtain ⟨a, vs, rfl, e, r⟩ := dctOf_V b2 (r1.step x2) qd
      obtain ⟨u, e1, r1'⟩ := (r.val key).1 d q3
      obtain rfl := keyOf_V r2 qk
      exact ⟨a, u, rfl, by rw [← e1]; exact dget_rd e, k u F2 H2 (x1.trans x2 b1) b2 r1'⟩
theorem tDIn_d {K : PySem.W.Frag} (n : Bool) (σ : L2.St) (H : Hp) (Q : VK) (h : tD K O (bind2 fb fa fun s y x => (dinB s y x).map fun b => Dt.bl (if n then !b else b)) σ H Q) : (if n then tDNotIn (tB K O fb) (tB K O fa) σ H Q else tDIn (tB K O fb) (tB K O fa) σ H Q) := by
  obtain ⟨g, F, env, s, d, s', st, hf, k⟩ := h
  obtain ⟨y, s1, x, q1, q2, q3⟩ := bind2_some hf
  cases qb : dinB s' y x with
  | none => simp [qb] at q3
  | some c =>
    simp only [qb, Option.map_some, Option.some.injEq] at q3
    subst q3
    unfold dinB at qb
    cases qd : dctOf s' x with
    | none => rw [qd] at qb; cases qb
    | some ks =>
      cases qk : keyOf y with
      | none => simp [qd, qk] at qb
      | some key =>
        simp only [qd, qk, Option.bind_eq_bind, Option.bind_some, Option.some.injEq] at qb
        subst qb
        have main : tB K O fb σ H fun y' H1 => tB K O fa σ H1 fun x' H2 => ∃ a o, x' = .ref a ∧ DGet H2 a y' o ∧ Q (.bl (if n then !o.isSome else o.isSome)) H2 :=
          ⟨g, F, env, s, y, s1, st, q1, fun w F1 H1 x1 b1 r1 => ⟨g, F1, env, s1, x, s', st.step x1 b1, q2, fun v F2 H2 x2 b2 r2 => by
            obtain ⟨a, vs, rfl, e, r⟩ := dctOf_V b2 r2 qd
            obtain rfl := keyOf_V r1 qk
            exact ⟨a, _, rfl, dget_rd e, by rw [(r.val key).2]; exact k _ F2 H2 (x1.trans x2 b1) b2 (.bl _)⟩⟩⟩
        cases n with
        | true => exact main
        | false => exact main
theorem d_din (hu : X.A.units + 1 < cLine) (hb : PE X i (tB X.K O fb)) (ha : PE X o (tB X.K O fa)) (hm : behindInMarks .In o = false := by rfl) : PE X (.Compare i [.In] [o] pos) (tD X.K O (bind2 fb fa dinG)) := pe_imp (pe_cmp (pc_din hu hb ha) hm) (tDIn_d false)
theorem t_din (hu : X.A.units + 1 < cLine) (hb : PE X i (tB X.K O fb)) (ha : PE X o (tB X.K O fa)) (hm : behindInMarks .In o = false := by rfl) : PT X (.Compare i [.In] [o] pos) (tT X.K O (asB (bind2 fb fa dinG))) := pt_imp (pt_cmp (pc_din hu hb ha) hm) (tTest_t (tDIn_d false))
theorem t_dnotin (hu : X.A.units + 1 < cLine) (hb : PE X i (tB X.K O fb)) (ha : PE X o (tB X.K O fa)) (hm : behindInMarks .NotIn o = false := by rfl) : PT X (.Compare i [.NotIn] [o] pos) (tT X.K O (asB (bind2 fb fa dnotinG))) := pt_imp (pt_cmp (pc_dnotin hu hb ha) hm) (tTest_t (tDIn_d true))
end

abbrev Fo := Env → Sto → Option (Option Int × Sto)
def tO (K : PySem.W.Frag) (O : List Nat) (f : Fo) : TO := fun σ H Q => ∃ g F env s o s', Stt K g O F H σ env s ∧ f env s = some (o, s') ∧ ∀ F' H', Go g.ft F H F' H' → Bs K g.ft F' H' s' → Q o H'
def oNone : Fo := fun _ s => some (none, s)
def oSome (f : Fe) : Fo := fun env s => match f env s with
  | some (.int i, s') => some (some i, s')
  | _ => none
def cutD {α : Type} (xs : List α) (lo hi : Option Int) : List α := (xs.drop (HT.sIx xs.length 0 lo)).take (HT.sIx xs.length xs.length hi - HT.sIx xs.length 0 lo)
def sliceG (_ : Sto) (x : Dt) (lo hi : Option Int) : Option Dt := match x with
  | .str z => if z.length ≤ sizeLine then some (.str (cutS z lo hi)) else none
  | .tup xs => some (.tup (cutD xs lo hi))
  | .lst xs => some (.lst (cutD xs lo hi))
  | .scr ns => some (.lst ((cutD ns lo hi).map .int))
  | _ => none
def bindS (f : Fe) (l h : Fo) (g : Sto → Dt → Option Int → Option Int → Option Dt) : Fe := fun env s => do
  let (x, s1) ← f env s
  let (lo, s2) ← l env s1
  let (hi, s3) ← h env s2
  let z ← g s3 x lo hi
  some (z, s3)
theorem bindS_some {f : Fe} {l h : Fo} {g : Sto → Dt → Option Int → Option Int → Option Dt} {env : Env} {s s' : Sto} {d : Dt} (hf : bindS f l h g env s = some (d, s')) :
    ∃ x s1 lo s2 hi, f env s = some (x, s1) ∧ l env s1 = some (lo, s2) ∧ h env s2 = some (hi, s') ∧ g s' x lo hi = some d := by
  unfold bindS at hf
  cases qa : f env s with
  | none => rw [qa] at hf; cases hf
  | some pa =>
    obtain ⟨x, s1⟩ := pa
    rw [qa] at hf
    cases qb : l env s1 with
    | none => simp [qb] at hf
    | some pb =>
      obtain ⟨lo, s2⟩ := pb
      cases qc : h env s2 with
      | none => simp [qb, qc] at hf
      | some pc =>
        obtain ⟨hi, s3⟩ := pc
        cases qg : g s3 x lo hi with
        | none => simp [qb, qc, qg] at hf
        | some z =>
          simp [qb, qc, qg] at hf
          obtain ⟨rfl, rfl⟩ := hf
          exact ⟨x, s1, lo, s2, hi, rfl, qb, qc, qg⟩
section
variable {X : Cx} {O : List Nat} {e : Expr} {lo hi : Option Expr} {f : Fe} {fl fh : Fo} {pos p2 : Pos}
theorem po_imp {t t' : TO} {x : Option Expr} (h : PO X x t) (k : ∀ σ H Q, t' σ H Q → t σ H Q) : PO X x t' := ⟨fun pins s σ H Q I q => h.run pins s σ H Q I (k σ H Q q)⟩
theorem o_none : PO X none (tO X.K O oNone) := po_imp po_none fun σ H Q ⟨g, F, env, s, o, s', st, hf, k⟩ => by
  cases hf
  exact k F H Go.refl st.bs
theorem o_some (he : PE X e (tB X.K O f)) : PO X (some e) (tO X.K O (oSome f)) := po_imp (po_some he) fun σ H Q ⟨g, F, env, s, o, s', st, hf, k⟩ => by
  unfold oSome at hf
  split at hf
  · rename_i i s1 q
    cases hf
    exact ⟨g, F, env, s, _, _, st, q, fun v F1 H1 x1 b1 r1 => ⟨i, r1.int, k F1 H1 x1 b1⟩⟩
  · cases hf
def rSlAll (K : PySem.W.Frag) : V → Option Int → Option Int → Hp → VK → Prop := fun x lo hi H Q => rSlS x lo hi H Q ∨ rSlF K x lo hi H Q ∨ rSlL K x lo hi H Q
theorem sl_all : SlR X (rSlAll X.K) := SlR.or sl_str (SlR.or sl_tupF sl_list)
theorem Reps.cut {K : PySem.W.Frag} {F : Hp} {vs : List V} {ds : List Dt} (r : Reps K F vs ds) (lo hi : Option Int) : Reps K F (cutV vs lo hi) (cutD ds lo hi) := by
  unfold cutV cutD
  rw [r.length]
  exact (r.drop _).take _
theorem cut_map {α β : Type} (f : α → β) (xs : List α) (lo hi : Option Int) : cutD (xs.map f) lo hi = (cutD xs lo hi).map f := by
  unfold cutD
  rw [List.length_map, List.map_take, List.map_drop]
theorem d_slice (he : PE X e (tB X.K O f)) (hl : PO X lo (tO X.K O fl)) (hh : PO X hi (tO X.K O fh)) : PE X (.Subscript e (.Slice lo hi none p2) pos) (tD X.K O (bindS f fl fh sliceG)) := pe_imp (pe_slice sl_all he hl hh) fun σ H Q ⟨g, F, env, s, d, s', st, hf, k⟩ => by
  obtain ⟨x, s1, lo, s2, hi, q1, q2, q3, q4⟩ := bindS_some hf
  refine ⟨g, F, env, s, x, s1, st, q1, fun v F1 H1 x1 b1 r1 => ⟨g, F1, env, s1, lo, s2, st.step x1 b1, q2, fun F2 H2 x2 b2 => ⟨g, F2, env, s2, hi, s', (st.step x1 b1).step x2 b2, q3, fun F3 H3 x3 b3 => ?_⟩⟩⟩
  have r := (r1.step x2).step x3
  have go := (x1.trans x2 b1).trans x3 b2
  have kl : ∀ vs ds, Reps X.K F3 vs ds → ∀ p, H3 p = none → d = .lst ds → Q (.ref p) (upd H3 p (.lst vs)) := fun vs ds rs p np e => by
    subst e
    obtain ⟨x4, b4⟩ := Go.lay (o := .lst vs) b3 np
    exact k (.ref p) _ _ (go.trans x4 b3) b4 ((ObR.lst rs).rep (Go.made (o := .lst vs) b3 np).2.2)
  cases x <;> simp only [sliceG] at q4 <;> try (cases q4; done)
  · split at q4 <;> cases q4
    exact .inl ⟨_, r.str, by assumption, k _ F3 H3 go b3 (.str _)⟩
  · cases q4
    rename_i xs0
    obtain ⟨a, vs, rfl, e, q⟩ := r.tup b3
    refine .inr (.inl ⟨a, vs, rfl, e, fun hw => ?_, fun _ p o np ho => ?_⟩)
    · have e1 : cutD xs0 lo hi = xs0 := by
        unfold cutD
        rw [← q.length, hw.1, hw.2, List.drop_zero, Nat.sub_zero, q.length, List.take_length]
      rw [e1] at k
      rcases r with r | ⟨_, _, _, _, r, _⟩
      · exact k _ F3 H3 go b3 r
      · cases r
    · obtain ⟨x4, b4, r4⟩ := Go.layT b3 np ho (q.cut lo hi)
      exact k (.ref p) _ _ (go.trans x4 b3) b4 r4
  · cases q4
    obtain ⟨a, vs, rfl, e, q⟩ := r.lst b3
    exact .inr (.inr ⟨a, vs, rfl, SqL.of e, fun p np => kl _ _ (q.cut lo hi) p np rfl⟩)
  · cases q4
    obtain ⟨a, rfl, e⟩ := r.scr b3
    refine .inr (.inr ⟨a, _, rfl, e, fun p np => kl _ _ ?_ p np rfl⟩)
    rw [← cut_map]
    exact (Reps.ints _).cut lo hi
end

def strsOf : List Dt → Option (List Str)
  | [] => some []
  | .str x :: r => (strsOf r).map (x :: ·)
  | _ => none
theorem strs_map : ∀ {ds : List Dt} {bs : List Str}, strsOf ds = some bs → ds = bs.map Dt.str
  | [], _, h => by cases h; rfl
  | d :: r, bs, h => by
    cases d <;> simp only [strsOf] at h <;> try (cases h; done)
    rename_i b
    cases q : strsOf r with
    | none => rw [q] at h; cases h
    | some cs =>
      rw [q] at h
      cases h
      rw [strs_map q]
      rfl
def joinG (_ : Sto) : Dt → Dt → Option Dt
  | .str a, .lst xs => match strsOf xs with
    | some ys => if (ys.map (·.length)).sum + ys.length * a.length ≤ 16777216 then some (.str (Txt.join a ys)) else none
    | none => none
  | _, _ => none
def splitG (_ : Sto) : Dt → Dt → Option Dt
  | .str a, .str b => if (b.length == 0) = false ∧ a.length + 2 ≤ sizeLine then some (.lst ((Txt.split a b).map .str)) else none
  | _, _ => none
section
variable {X : Cx} {O : List Nat} {o e : Expr} {fa fb : Fe} {apos cpos : Pos}
def toStrOnly (f : Fe) : Fe := fun env s => match f env s with
  | some (.str z, s') => some (.str z, s')
  | _ => none
theorem toStr_some {f : Fe} {env : Env} {s s' : Sto} {d : Dt} (h : toStrOnly f env s = some (d, s')) : ∃ z, d = .str z ∧ f env s = some (.str z, s') := by
  unfold toStrOnly at h
  split at h
  · rename_i q; cases h; exact ⟨_, rfl, q⟩
  · cases h
theorem d_join (ha : PE X o (tB X.K O fa)) (hb : PE X e (tB X.K O fb))
    (hbase : attributeBase o "join" X.env (eval o X.env) = eval o X.env := by rfl)
    (hfew : ((backTo cpos (starEach [e] X.env)).all (fun x => !x.1) && (backToKw cpos (keywordEach [] X.env)).all (fun x => x.1.isSome)
      && decide ([e].length + ([] : List Keyword).length + (if ([] : List Keyword).isEmpty then 0 else 1) < 30)) = true := by rfl)
    (hline : (apos.endLine == cpos.line) = true := by rfl) (hs : starEach [e] X.env = (false, eval e X.env) :: starEach [] X.env := by rfl) (hplain : (backTo cpos (starEach [] X.env)).any (·.1) = false := by rfl) :
    PE X (.Call (.Attribute o "join" apos) [e] [] cpos) (tD X.K O (bind2 (toStrOnly fa) fb joinG)) :=
  pe_imp (pe_bm PySem.F.plainAttrs_str PySem.F.slot_str_join PySem.F.type_str_join mt_join ha (pa_cons hb pa_nil hs) hbase hfew hline hs hplain) fun σ H Q ⟨g, F, env, s, d, s', st, hf, k⟩ => by
  obtain ⟨x, s1, y, q1, q2, q3⟩ := bind2_some hf
  obtain ⟨z, rfl, qz⟩ := toStr_some q1
  refine ⟨g, F, env, s, _, s1, st, qz, fun v F1 H1 x1 b1 r1 => ?_⟩
  obtain rfl := r1.str
  refine ⟨rfl, g, F1, env, s1, y, s', st.step x1 b1, q2, fun w F2 H2 x2 b2 r2 => ?_⟩
  cases y <;> simp only [joinG] at q3 <;> try (cases q3; done)
  split at q3
  · rename_i ys qs
    split at q3 <;> cases q3
    rename_i hl
    obtain ⟨a, vs, rfl, e, q⟩ := r2.lst b2
    rw [strs_map qs] at q
    rw [q.of_strs] at e
    exact ⟨_, a, ys, rfl, rfl, .inl (SqL.of e), hl, k _ F2 H2 (x1.trans x2 b1) b2 (.str _)⟩
  · cases q3
theorem n_split (ha : PE X o (tB X.K O fa)) (hb : PE X e (tB X.K O fb))
    (hbase : attributeBase o "split" X.env (eval o X.env) = eval o X.env := by rfl)
    (hfew : ((backTo cpos (starEach [e] X.env)).all (fun x => !x.1) && (backToKw cpos (keywordEach [] X.env)).all (fun x => x.1.isSome)
      && decide ([e].length + ([] : List Keyword).length + (if ([] : List Keyword).isEmpty then 0 else 1) < 30)) = true := by rfl)
    (hline : (apos.endLine == cpos.line) = true := by rfl) (hs : starEach [e] X.env = (false, eval e X.env) :: starEach [] X.env := by rfl) (hplain : (backTo cpos (starEach [] X.env)).any (·.1) = false := by rfl) :
    PE X (.Call (.Attribute o "split" apos) [e] [] cpos) (tN X.K O (bind2 (toStrOnly fa) fb splitG)) :=
  pe_imp (pe_bm PySem.F.plainAttrs_str PySem.F.slot_str_split PySem.F.type_str_split mt_split ha (pa_cons hb pa_nil hs) hbase hfew hline hs hplain) fun σ H Q ⟨g, F, env, s, d, s', st, hf, k⟩ => by
  obtain ⟨x, s1, y, q1, q2, q3⟩ := bind2_some hf
  obtain ⟨z, rfl, qz⟩ := toStr_some q1
  refine ⟨g, F, env, s, _, s1, st, qz, fun v F1 H1 x1 b1 r1 => ?_⟩
  obtain rfl := r1.str
  refine ⟨rfl, g, F1, env, s1, y, s', st.step x1 b1, q2, fun w F2 H2 x2 b2 r2 => ?_⟩
  cases y <;> simp only [splitG] at q3 <;> try (cases q3; done)
  split at q3 <;> cases q3
  rename_i hl
  obtain rfl := r2.str
  refine ⟨_, _, rfl, rfl, hl.1, hl.2, fun p np => ?_⟩
  obtain ⟨x4, b4, n4⟩ := Go.made (o := .lst ((Txt.split z _).map V.str)) b2 np
  exact k p _ _ _ ((x1.trans x2 b1).trans x4 b2) b4 ((x1.trans x2 b1).free b2 np) n4 upd_same (.lst (Reps.strs _))
end
end DL

namespace DL
open PySem PySem.Spec PyProof.Rows L2

section
variable {K : PySem.W.Frag} {g : Gd} {O O' : List Nat} {F H : Hp} {σ : L2.St} {env : Env} {s : Sto}
theorem Stt.mem (h : Stt K g O F H σ env s) (e : ∀ i, i ∈ O' ↔ i ∈ O) : Stt K g O' F H σ env s :=
  ⟨h.bs, ⟨h.sl.len, fun i d hi => h.sl.pu i d fun z => hi ((e i).mpr z), fun i hi => h.sl.ow i ((e i).mp hi), fun i j p hi hj => h.sl.di i j p ((e i).mp hi) ((e j).mp hj)⟩, h.go⟩
theorem Stt.frost1 {i : Nat} (h : Stt K g (i :: O') F H σ env s) (hi : i ∉ O') {φ : Hp → Prop} (k : ∀ F' H', Same F F' → Stt K g O' F' H' σ env s → Lk φ H') : Lk φ H := by
  obtain ⟨p, o, d, e1, e2, e3, r, n, nf, nh⟩ := h.sl.ow i List.mem_cons_self
  have fin : ∀ (o' : HO) (H' : Hp), Go g.ft g.f0 g.he (upd F p o') H' → Bs K g.ft (upd F p o') H' s → Rep K (upd F p o') (.ref p) d → (∀ q, q ≠ p → H' q = H q) → Lk φ H' := fun o' H' x1 b1 rp hq => by
    have sF : Same F (upd F p o') := fun c u e => by rw [upd_ne (ne_of_none e n)]; exact e
    refine k (upd F p o') H' sF ⟨b1, ⟨h.sl.len, fun j d' hj e => ?_, fun j hj => ?_, fun a b q ha hb => h.sl.di a b q (List.mem_cons_of_mem _ ha) (List.mem_cons_of_mem _ hb)⟩, x1⟩
    · by_cases c : j = i
      · subst c
        rw [e2] at e; cases e
        exact ⟨_, e1, rp⟩
      · obtain ⟨v, e4, r4⟩ := h.sl.pu j d' (fun z => (List.mem_cons.mp z).elim c hj) e
        exact ⟨v, e4, Rep.mono sF _ _ r4⟩
    · obtain ⟨p', o2, d', f1, f2, f3, r', n', nf', nh'⟩ := h.sl.ow j (List.mem_cons_of_mem _ hj)
      have np : p' ≠ p := fun z => by
        subst z
        have := h.sl.di i j p' List.mem_cons_self (List.mem_cons_of_mem _ hj) e1 f1
        subst this
        exact hi hj
      exact ⟨p', o2, d', f1, f2, by rw [hq _ np]; exact f3, r'.mono sF, by rw [upd_ne np]; exact n', nf', nh'⟩
  cases r with
  | @lst vs ds q =>
    obtain ⟨x1, b1⟩ := h.go.frost h.bs nh n e3 nf
    exact fin _ H x1 b1 (ObR.rep (.lst q) n) fun _ _ => rfl
  | @dct vs ds q =>
    refine .lock e3 trivial fun od => ?_
    obtain ⟨x1, b1⟩ := h.go.frostL (o' := .frz od (.dK vs)) h.bs nh n e3 nf
    exact fin _ _ x1 b1 (ObR.repL (.dct q) n) fun q hq => upd_ne hq
theorem Stt.frosts {φ : Hp → Prop} : ∀ (L : List Nat) {F H : Hp}, Stt K g (L ++ O') F H σ env s → (∀ F' H', Same F F' → Stt K g O' F' H' σ env s → φ H') → Lk φ H
  | [], F, H, h, k => .done (k F H (Same.refl _) h)
  | i :: L, F, H, h, k => by
    by_cases c : i ∈ L ++ O'
    · exact Stt.frosts L (h.mem (O' := L ++ O') fun j => ⟨fun z => List.mem_cons_of_mem _ z, fun z => (List.mem_cons.mp z).elim (fun e => e ▸ c) fun z => z⟩) k
    · exact Stt.frost1 (O' := L ++ O') h c fun F1 H1 e1 h1 => Stt.frosts L h1 fun F2 H2 e2 h2 => k F2 H2 (e1.trans e2) h2
theorem Stt.weak {φ : Hp → Prop} (h : Stt K g O F H σ env s) (e : ∀ i, i ∈ O' → i ∈ O) (k : ∀ F' H', Same F F' → Stt K g O' F' H' σ env s → φ H') : Lk φ H :=
  Stt.frosts O (h.mem fun i => ⟨fun z => (List.mem_append.mp z).elim (fun z => z) fun z => e i z, fun z => List.mem_append_left _ z⟩) k
theorem Stt.setD {i : Nat} {v : V} {d : Dt} (h : Stt K g O F H σ env s) (r : Rep K F v d) (e : ∀ j, j ∈ O' → j ∈ O ∧ j ≠ i) (e' : ∀ j, j ∈ O → j ≠ i → j ∈ O') : Stt K g O' F H (σ.set i (some v)) (env.set i (some d)) s := by
  refine ⟨h.bs, ⟨by rw [List.length_set, List.length_set]; exact h.sl.len, fun j d' hj q => ?_, fun j hj => ?_, fun a b p ha hb qa qb => ?_⟩, h.go⟩
  · by_cases c : j = i
    · subst c
      have hl : j < env.length := by
        have := (List.getElem?_eq_some_iff.mp q).1
        rwa [List.length_set] at this
      rw [List.getElem?_set_self hl] at q
      cases q
      exact ⟨v, List.getElem?_set_self (by rw [h.sl.len]; exact hl), r⟩
    · rw [List.getElem?_set_ne (Ne.symm c)] at q
      obtain ⟨u, e1, r1⟩ := h.sl.pu j d' (fun z => hj (e' j z c)) q
      exact ⟨u, by rw [List.getElem?_set_ne (Ne.symm c)]; exact e1, r1⟩
  · obtain ⟨hO, c⟩ := e j hj
    rw [List.getElem?_set_ne (Ne.symm c), List.getElem?_set_ne (Ne.symm c)]
    exact h.sl.ow j hO
  · obtain ⟨hA, ca⟩ := e a ha
    obtain ⟨hB, cb⟩ := e b hb
    rw [List.getElem?_set_ne (Ne.symm ca)] at qa
    rw [List.getElem?_set_ne (Ne.symm cb)] at qb
    exact h.sl.di a b p hA hB qa qb
theorem Stt.setN {i : Nat} {p : Addr} {o : HO} {d : Dt} (h : Stt K g O F H σ env s) (hi : i < env.length) (eo : H p = some o) (r : ObR K F o d) (n : F p = none) (nf : p ∉ g.ft) (nh : g.he p = none) (hd : ∀ j, j ∈ O → j ≠ i → σ[j]? ≠ some (some (.ref p)))
    (e : ∀ j, j ∈ O' → j = i ∨ j ∈ O) (e' : ∀ j, j ∈ O → j ∈ O') (e2 : i ∈ O') : Stt K g O' F H (σ.set i (some (.ref p))) (env.set i (some d)) s := by
  refine ⟨h.bs, ⟨by rw [List.length_set, List.length_set]; exact h.sl.len, fun j d' hj q => ?_, fun j hj => ?_, fun a b q ha hb qa qb => ?_⟩, h.go⟩
  · have c : j ≠ i := fun z => hj (z ▸ e2)
    rw [List.getElem?_set_ne (Ne.symm c)] at q
    obtain ⟨u, e1, r1⟩ := h.sl.pu j d' (fun z => hj (e' j z)) q
    exact ⟨u, by rw [List.getElem?_set_ne (Ne.symm c)]; exact e1, r1⟩
  · by_cases c : j = i
    · subst c
      exact ⟨p, o, d, List.getElem?_set_self (by rw [h.sl.len]; exact hi), List.getElem?_set_self hi, eo, r, n, nf, nh⟩
    · rw [List.getElem?_set_ne (Ne.symm c), List.getElem?_set_ne (Ne.symm c)]
      exact h.sl.ow j ((e j hj).elim (fun z => absurd z c) fun z => z)
  · have key : ∀ j, j ∈ O' → (σ.set i (some (.ref p)))[j]? = some (some (.ref q)) → (j = i ∧ q = p) ∨ (j ≠ i ∧ j ∈ O ∧ σ[j]? = some (some (.ref q))) := fun j hj z => by
      by_cases c : j = i
      · subst c
        rw [List.getElem?_set_self (by rw [h.sl.len]; exact hi)] at z
        cases z
        exact .inl ⟨rfl, rfl⟩
      · rw [List.getElem?_set_ne (Ne.symm c)] at z
        exact .inr ⟨c, (e j hj).elim (fun z => absurd z c) fun z => z, z⟩
    rcases key a ha qa with ⟨rfl, rfl⟩ | ⟨ca, hA, za⟩
    · rcases key b hb qb with ⟨rfl, _⟩ | ⟨cb, hB, zb⟩
      · rfl
      · exact absurd zb (hd b hB cb)
    · rcases key b hb qb with ⟨rfl, rfl⟩ | ⟨cb, hB, zb⟩
      · exact absurd za (hd a hA ca)
      · exact h.sl.di a b q hA hB za zb
theorem Stt.change {i : Nat} {p : Addr} {o o' : HO} {d : Dt} (h : Stt K g O F H σ env s) (hi : i ∈ O) (es : σ[i]? = some (some (.ref p))) (eo : H p = some o) (r : ObR K F o' d) : Stt K g O F (upd H p o') σ (env.set i (some d)) s := by
  obtain ⟨p', o1, d1, f1, f2, f3, r', n', nf', nh'⟩ := h.sl.ow i hi
  rw [es] at f1
  cases f1
  have hl : i < env.length := (List.getElem?_eq_some_iff.mp f2).1
  refine ⟨⟨fun c u e => ?_, h.bs.ad, h.bs.nd, fun a d' hm => ?_, h.bs.fr⟩, ⟨by rw [List.length_set]; exact h.sl.len, fun j d' hj q => ?_, fun j hj => ?_, h.sl.di⟩, ⟨fun c u e nc => ?_, h.go.sam, h.go.new⟩⟩
  · rw [upd_ne (ne_of_none e n')]; exact h.bs.sub c u e
  · obtain ⟨ob, e, rr⟩ := h.bs.st a d' hm
    have na : a ≠ p := fun z => nf' (by rw [← z, ← h.bs.ad]; exact List.mem_map_of_mem hm)
    exact ⟨ob, by rw [upd_ne na]; exact e, rr⟩
  · have c : j ≠ i := fun z => hj (z ▸ hi)
    rw [List.getElem?_set_ne (Ne.symm c)] at q
    exact h.sl.pu j d' hj q
  · by_cases c : j = i
    · subst c
      exact ⟨p, o', d, es, List.getElem?_set_self hl, upd_same, r, n', nf', nh'⟩
    · obtain ⟨p2, o2, d2, g1, g2, g3, r2, n2, nf2, nh2⟩ := h.sl.ow j hj
      have np : p2 ≠ p := fun z => by
        subst z
        exact c (h.sl.di j i p2 hj hi g1 es)
      exact ⟨p2, o2, d2, g1, by rw [List.getElem?_set_ne (Ne.symm c)]; exact g2, by rw [upd_ne np]; exact g3, r2, n2, nf2, nh2⟩
  · have nc' : c ≠ p := fun z => by subst z; rw [nh'] at e; cases e
    rw [upd_ne nc']; exact h.go.ext c u e nc
theorem Bs.put {ft : List Addr} {a : Addr} {o' : HO} {d : Dt} (b : Bs K ft F H s) (ha : a ∈ ft) (r : ObS K F o' d) : Bs K ft F (upd H a o') (s.map fun q => if q.1 = a then (a, d) else q) := by
  have e1 : (s.map fun q => if q.1 = a then (a, d) else q).map (·.1) = s.map (·.1) := by
    rw [List.map_map]
    refine List.map_congr_left fun q _ => ?_
    show (if q.1 = a then (a, d) else q).1 = q.1
    split
    · rename_i c; exact c.symm
    · rfl
  refine ⟨fun c u e => ?_, by rw [e1]; exact b.ad, b.nd, fun c d' hm => ?_, b.fr⟩
  · rw [upd_ne (fun z => by subst z; rw [b.fr c ha] at e; cases e)]; exact b.sub c u e
  · obtain ⟨q, hq, e⟩ := List.mem_map.mp hm
    by_cases c' : q.1 = a
    · rw [if_pos c'] at e
      cases e
      exact ⟨o', upd_same, r⟩
    · rw [if_neg c'] at e
      subst e
      obtain ⟨ob, e, rr⟩ := b.st _ _ hq
      exact ⟨ob, by rw [upd_ne c']; exact e, rr⟩
theorem Stt.put {a : Addr} {o' : HO} {d : Dt} (h : Stt K g O F H σ env s) (ha : a ∈ g.ft) (r : ObS K F o' d) : Stt K g O F (upd H a o') σ env (s.map fun q => if q.1 = a then (a, d) else q) := by
  refine ⟨h.bs.put ha r, ⟨h.sl.len, h.sl.pu, fun j hj => ?_, h.sl.di⟩, ⟨fun c u e nc => ?_, h.go.sam, h.go.new⟩⟩
  · obtain ⟨p, o, d', e1, e2, e3, rr, n, nf, nh⟩ := h.sl.ow j hj
    exact ⟨p, o, d', e1, e2, by rw [upd_ne (fun (z : p = a) => nf (z ▸ ha))]; exact e3, rr, n, nf, nh⟩
  · rw [upd_ne (fun (z : c = a) => nc (z ▸ ha))]; exact h.go.ext c u e nc
end

inductive Out where
  | nx (env : Env) | rt (d : Dt) | bk (env : Env) | ct (env : Env)
abbrev Fs := Env → Sto → Option (Out × Sto)
def post (K : PySem.W.Frag) (g : Gd) (L O' : List Nat) (D : Ends) (F : Hp) (s' : Sto) : Out → Prop
  | .nx env' => ∀ σ' H' F', Same F F' → Stt K g O' F' H' σ' env' s' → D.nx σ' H'
  | .rt d => ∀ v H' F', Bs K g.ft F' H' s' → Go g.ft g.f0 g.he F' H' → Rep K F' v d → D.rt v H'
  | .bk env' => ∀ σ' H' F', Same F F' → Stt K g L F' H' σ' env' s' → D.bk σ' H'
  | .ct env' => ∀ σ' H' F', Same F F' → Stt K g L F' H' σ' env' s' → D.ct σ' H'
theorem post.mono {K : PySem.W.Frag} {g : Gd} {L O' : List Nat} {D : Ends} {F F1 : Hp} {s' : Sto} {o : Out} (e : Same F F1) (h : post K g L O' D F s' o) : post K g L O' D F1 s' o := by
  cases o with
  | nx env' => exact fun σ' H' F' e' st => h σ' H' F' (e.trans e') st
  | rt d => exact h
  | bk env' => exact fun σ' H' F' e' st => h σ' H' F' (e.trans e') st
  | ct env' => exact fun σ' H' F' e' st => h σ' H' F' (e.trans e') st
def tS (K : PySem.W.Frag) (L O O' : List Nat) (f : Fs) : TS := fun D σ H => ∃ g F env s out s', Stt K g O F H σ env s ∧ f env s = some (out, s') ∧ post K g L O' D F s' out
section
variable {X : Cx} {L O O' O'' : List Nat} {e : Expr} {st : Stmt} {sts : List Stmt} {f : Fe} {F1 F2 : Fs} {pos : Pos}
theorem ps_imp {t t' : TS} (h : PS X st t) (k : ∀ D σ H, t' D σ H → t D σ H) : PS X st t' := ⟨fun pins s σ H D I q => h.run pins s σ H D I (k D σ H q)⟩
theorem pss_imp {t t' : TS} (h : PSs X sts t) (k : ∀ D σ H, t' D σ H → t D σ H) : PSs X sts t' := ⟨fun pins s σ H D I q => h.run pins s σ H D I (k D σ H q)⟩
theorem ps_lkin {t : TS} (h : PS X st t) : PS X st (fun D σ H => Lk (t D σ) H) := ⟨fun pins s σ H D I l => by
  obtain ⟨H1, I1, q⟩ := l.inv I
  exact h.run pins s σ H1 D I1 q⟩
theorem pss_lkout {t : TS} (h : PSs X sts t) : PSs X sts (fun D σ H => t ⟨fun σ' H' => Lk (D.nx σ') H', D.rt, D.bk, D.ct⟩ σ H) := by
  refine ⟨fun pins s σ H D I hw => thn (h.run pins s σ H _ I hw) fun f s1 q => ?_⟩
  cases f with
  | next =>
    obtain ⟨σ', H', I2, q⟩ := q
    obtain ⟨H2, I3, q2⟩ := q.inv I2
    exact ⟨σ', H2, I3, q2⟩
  | brk => exact q
  | cont => exact q
  | ret v => exact q
theorem ps_lkout {t : TS} (h : PS X st t) : PS X st (fun D σ H => t ⟨fun σ' H' => Lk (D.nx σ') H', D.rt, D.bk, D.ct⟩ σ H) := by
  refine ⟨fun pins s σ H D I hw => thn (h.run pins s σ H _ I hw) fun f s1 q => ?_⟩
  cases f with
  | next =>
    obtain ⟨σ', H', I2, q⟩ := q
    obtain ⟨H2, I3, q2⟩ := q.inv I2
    exact ⟨σ', H2, I3, q2⟩
  | brk => exact q
  | cont => exact q
  | ret v => exact q
theorem s_weak (h : PS X st (tS X.K L O O' F1)) (e : ∀ i, i ∈ O → i ∈ O'' := by decide) : PS X st (tS X.K L O'' O' F1) := ps_imp (ps_lkin h) fun D σ H ⟨g, F, env, s, out, s', st, hf, k⟩ =>
  st.weak e fun F' H' sm st' => ⟨g, F', env, s, out, s', st', hf, k.mono sm⟩
theorem ss_end (h : PSs X sts (tS X.K L O O' F1)) (e : ∀ i, i ∈ O'' → i ∈ O' := by decide) : PSs X sts (tS X.K L O O'' F1) := pss_imp (pss_lkout h) fun D σ H ⟨g, F, env, s, out, s', st, hf, k⟩ => by
  refine ⟨g, F, env, s, out, s', st, hf, ?_⟩
  cases out with
  | nx env' => exact fun σ' H' F' e' st' => st'.weak e fun F2 H2 sm st2 => k σ' H2 F2 (e'.trans sm) st2
  | rt d => exact k
  | bk env' => exact k
  | ct env' => exact k
def seqS (a b : Fs) : Fs := fun env s => match a env s with
  | some (.nx env', s') => b env' s'
  | r => r
def skipS : Fs := fun env s => some (.nx env, s)
theorem ss_nil : PSs X [] (tS X.K L O O skipS) := pss_imp pss_nil fun D σ H ⟨g, F, env, s, out, s', st, hf, k⟩ => by
  cases hf
  exact k σ H F (Same.refl _) st
theorem ss_one (h : PS X st (tS X.K L O O' F1)) : PSs X [st] (tS X.K L O O' F1) := pss_one h
theorem ss_cons (h : PS X st (tS X.K L O O' F1)) (h' : PSs X sts (tS X.K L O' O'' F2)) : PSs X (st :: sts) (tS X.K L O O'' (seqS F1 F2)) := pss_imp (pss_cons h h') fun D σ H ⟨g, F, env, s, out, s', st, hf, k⟩ => by
  unfold seqS at hf
  cases q : F1 env s with
  | none => rw [q] at hf; cases hf
  | some p =>
    obtain ⟨o1, s1⟩ := p
    rw [q] at hf
    refine ⟨g, F, env, s, o1, s1, st, q, ?_⟩
    cases o1 with
    | nx env' => exact fun σ' H' F' e' st' => ⟨g, F', env', s1, out, s', st', hf, k.mono e'⟩
    | rt d => cases hf; exact k
    | bk env' => cases hf; exact k
    | ct env' => cases hf; exact k
def neverS : Fs := fun _ _ => none
theorem s_never : PS X st (tS X.K L O O' neverS) := ps_imp ps_never fun D σ H ⟨g, F, env, s, out, s', st, hf, k⟩ => by cases hf
def retS (f : Fe) : Fs := fun env s => (f env s).map fun p => (.rt p.1, p.2)
theorem s_ret (he : PE X e (tD X.K O f)) : PS X (.Return (some e) pos) (tS X.K L O O' (retS f)) := ps_imp (ps_ret he) fun D σ H ⟨g, F, env, s, out, s', st, hf, k⟩ => by
  unfold retS at hf
  cases q : f env s with
  | none => rw [q] at hf; cases hf
  | some p =>
    obtain ⟨d, s1⟩ := p
    rw [q] at hf
    cases hf
    exact ⟨g, F, env, s, d, _, st, q, fun v F' H' x b r => k v H' F' b (st.go.trans x st.bs) r⟩
theorem s_retO (he : PE X e (tD X.K [] f)) : PS X (.Return (some e) pos) (tS X.K L O O' (retS f)) := s_weak (s_ret he) (fun i z => absurd z (List.not_mem_nil))
def dropS (f : Fe) : Fs := fun env s => (f env s).map fun p => (.nx env, p.2)
theorem s_expr (he : PE X e (tB X.K O f)) (hs : swapsWith e none pos.line X.env = pure false := by rfl) : PS X (.Expr e pos) (tS X.K L O O (dropS f)) := ps_imp (ps_expr he hs) fun D σ H ⟨g, F, env, s, out, s', st, hf, k⟩ => by
  unfold dropS at hf
  cases q : f env s with
  | none => rw [q] at hf; cases hf
  | some p =>
    obtain ⟨d, s1⟩ := p
    rw [q] at hf
    cases hf
    exact ⟨g, F, env, s, d, _, st, q, fun v F' H' x b r => k σ H' F' x.sam (st.step x b)⟩
def ifS (c : Ft) (a b : Fs) : Fs := fun env s => match c env s with
  | some (t, s') => if t then a env s' else b env s'
  | none => none
theorem s_if {c : Expr} {A B : List Stmt} {fc : Ft} (hc : PT X c (tT X.K O fc)) (ha : PSs X A (tS X.K L O O' F1)) (hb : PSs X B (tS X.K L O O' F2)) : PS X (.If c A B pos) (tS X.K L O O' (ifS fc F1 F2)) := ps_imp (ps_if hc ha hb) fun D σ H ⟨g, F, env, s, out, s', st, hf, k⟩ => by
  unfold ifS at hf
  cases q : fc env s with
  | none => rw [q] at hf; cases hf
  | some p =>
    obtain ⟨b, s1⟩ := p
    rw [q] at hf
    refine ⟨g, F, env, s, b, s1, st, q, fun F' H' x bb => ?_⟩
    cases b with
    | true => exact ⟨g, F', env, s1, out, s', st.step x bb, hf, k.mono x.sam⟩
    | false => exact ⟨g, F', env, s1, out, s', st.step x bb, hf, k.mono x.sam⟩
def setS (i : Nat) (f : Fe) : Fs := fun env s => (f env s).map fun p => (.nx (env.set i (some p.1)), p.2)
def setNS (i : Nat) (f : Fe) : Fs := fun env s => if i < env.length then (f env s).map fun p => (.nx (env.set i (some p.1)), p.2) else none
theorem asg_imp {tg : Expr} {te te' : TE} {gg : TG} (h : PS X (.Assign [tg] e pos) (tAsg te gg)) (k : ∀ σ H Q, te' σ H Q → te σ H Q) : PS X (.Assign [tg] e pos) (tAsg te' gg) := ps_imp h fun D σ H q => k σ H _ q
theorem s_set {i : Nat} {x : Str} {pos' : Pos} (h : PS X (.Assign [.Name x pos'] e pos) (tAsg (tD X.K O f) (gName i)))
    (h1 : ∀ j, j ∈ O' → j ∈ O ∧ j ≠ i := by decide) (h2 : ∀ j, j ∈ O → j ≠ i → j ∈ O' := by decide) : PS X (.Assign [.Name x pos'] e pos) (tS X.K L O O' (setS i f)) := ps_imp h fun D σ H ⟨g, F, env, s, out, s', st, hf, k⟩ => by
  unfold setS at hf
  cases q : f env s with
  | none => rw [q] at hf; cases hf
  | some p =>
    obtain ⟨d, s1⟩ := p
    rw [q] at hf
    cases hf
    exact ⟨g, F, env, s, d, _, st, q, fun v F' H' x b r => k _ H' F' x.sam ((st.step x b).setD r h1 h2)⟩
theorem s_setN {i : Nat} {x : Str} {pos' : Pos} (h : PS X (.Assign [.Name x pos'] e pos) (tAsg (tN X.K O f) (gName i)))
    (h1 : ∀ j, j ∈ O' → j = i ∨ j ∈ O := by decide) (h2 : ∀ j, j ∈ O → j ∈ O' := by decide) (h3 : i ∈ O' := by decide) : PS X (.Assign [.Name x pos'] e pos) (tS X.K L O O' (setNS i f)) := ps_imp h fun D σ H ⟨g, F, env, s, out, s', st, hf, k⟩ => by
  unfold setNS at hf
  split at hf
  · rename_i hl
    cases q : f env s with
    | none => rw [q] at hf; cases hf
    | some p =>
      obtain ⟨d, s1⟩ := p
      rw [q] at hf
      cases hf
      refine ⟨g, F, env, s, d, _, st, q, fun p o F' H' x b n n' eo r => k _ H' F' x.sam ((st.step x b).setN hl eo r n' (st.bs.nofree n) ?_ (fun j hj _ ej => ?_) h1 h2 h3)⟩
      · exact st.go.free st.bs n
      · obtain ⟨p2, o2, d2, g1, g2, g3, _⟩ := st.sl.ow j hj
        rw [ej] at g1
        cases g1
        rw [n] at g3; cases g3
  · cases hf
end
end DL

namespace DL
open PySem PySem.Spec PyProof.Rows L2

abbrev Tg := Env → Dt → Option Env
def tG (K : PySem.W.Frag) (O : List Nat) (st : Tg) : TG := fun v σ H Q => ∃ g F env s d env', Stt K g O F H σ env s ∧ Rep K F v d ∧ st env d = some env' ∧ ∀ σ', Stt K g O F H σ' env' s → (∀ j, j ∈ O → σ'[j]? = σ[j]?) → Q σ' H
def tgN (i : Nat) : Tg := fun env d => some (env.set i (some d))
def tgP (a b : Tg) : Tg := fun env d => match d with
  | .tup [x, y] => do
    let e1 ← a env x
    b e1 y
  | _ => none
section
variable {X : Cx} {O : List Nat} {pos : Pos}
theorem pg_imp {e : Expr} {t t' : TG} (h : PG X e t) (k : ∀ v σ H Q, t' v σ H Q → t v σ H Q) : PG X e t' := ⟨fun pins s σ H v u Q I r q => h.run pins s σ H v u Q I r (k v σ H Q q)⟩
theorem g_name {i : Nat} {x : Str} (h : PG X (.Name x pos) (gName i)) (hi : i ∉ O := by decide) : PG X (.Name x pos) (tG X.K O (tgN i)) := pg_imp h fun v σ H Q ⟨g, F, env, s, d, env', st, r, hs, k⟩ => by
  cases hs
  exact k _ (st.setD r (fun j hj => ⟨hj, fun z => hi (z ▸ hj)⟩) fun j hj _ => hj) fun j hj => List.getElem?_set_ne fun (z : i = j) => hi (z ▸ hj)
theorem g_pair {e1 e2 : Expr} {k0 : Nat} {a b : Tg} (hc : X.calm = true) (hn : (assignEach [e1, e2] X.env).length = 2 := by rfl) (hst : (assignEach [e1, e2] X.env).findIdx? (·.1) = none := by rfl)
    (hp : PGs X [e1, e2] (gCons (tG X.K O a) (gCons (tG X.K O b) gNil))) :
    PG X (.Tuple [e1, e2] k0 pos) (tG X.K O (tgP a b)) := pg_imp (pg_tup hc hp hn hst) fun v σ H Q ⟨g, F, env, s, d, env', st, r, hs, k⟩ => by
  unfold tgP at hs
  split at hs
  · rename_i x y
    cases r with
    | tup h1 hp h2 =>
      cases h2 with
      | cons r1 t1 =>
        cases t1 with
        | cons r2 t2 =>
          cases t2
          cases q1 : a env x with
          | none => simp [q1] at hs
          | some e1 =>
            simp only [q1, Option.bind_eq_bind, Option.bind_some] at hs
            exact ⟨_, _, rfl, sqT_same st.bs.sub h1, rfl, _, _, rfl, g, F, env, s, x, e1, st, r1, q1, fun σ' st' eo => ⟨_, _, rfl, g, F, e1, s, y, env', st', r2, hs, fun σ2 st2 eo2 => ⟨rfl, k σ2 st2 fun j hj => (eo2 j hj).trans (eo j hj)⟩⟩⟩
  · cases hs
end

abbrev Fi := Env → Sto → Option (List Dt × Sto)
def WalkJ (K : PySem.W.Frag) (ft : List Addr) (F1 : Hp) (J : It) (ds : List Dt) : Prop := ∀ F H s i, Same F1 F → Bs K ft F H s → (ds.length ≤ i → J.stop i H) ∧
  ∀ d, ds[i]? = some d → J.go i H ∧ ∀ x H3, J.yld i H x H3 → ∃ F3, Go ft F H F3 H3 ∧ Bs K ft F3 H3 s ∧ Rep K F3 x d
def tI (K : PySem.W.Frag) (O : List Nat) (f : Fi) : TI := fun σ H R => ∃ g F env s ds s', Stt K g O F H σ env s ∧ f env s = some (ds, s') ∧ ∀ J F' H', Go g.ft F H F' H' → Bs K g.ft F' H' s' → WalkJ K g.ft F' J ds → R J H'
def seqOf : Dt → Option (List Dt)
  | .lst xs => some xs
  | .tup xs => some xs
  | .str z => some (z.cps.toList.map fun c => .str ⟨#[c]⟩)
  | .scr ns => some (ns.map .int)
  | .dct ks => some (ks.map fun kv => keyD kv.1)
  | _ => none
def seqF (f : Fe) : Fi := fun env s => do
  let (x, s1) ← f env s
  let xs ← seqOf x
  some (xs, s1)
section
variable {X : Cx} {O : List Nat} {tg e : Expr} {f : Fe} {pos p : Pos}
theorem pi_imp {t t' : TI} (h : PI X tg e t) (k : ∀ σ H Q, t' σ H Q → t σ H Q) : PI X tg e t' := ⟨fun pins s σ H Q I q => h.run pins s σ H Q I (k σ H Q q)⟩
theorem pi_or {t t' : TI} (h : PI X tg e t) (h' : PI X tg e t') : PI X tg e (fun σ H R => t σ H R ∨ t' σ H R) := ⟨fun pins s σ H Q I q => q.elim (h.run pins s σ H Q I) (h'.run pins s σ H Q I)⟩
theorem walk_list {K : PySem.W.Frag} {ft : List Addr} {F1 : Hp} {a : Addr} {vs : List V} {ds : List Dt} (h : ∀ F H, Same F1 F → Same F H → SqL K H a vs) (r : Reps K F1 vs ds) : WalkJ K ft F1 (Itl K a) ds := fun F H s i e b => by
  have q := h F H e b.sub
  refine ⟨fun hl => ⟨vs, q, by rw [r.length]; exact hl⟩, fun d hd => ?_⟩
  obtain ⟨v, e1, r1⟩ := r.get hd
  refine ⟨⟨vs, v, q, e1⟩, fun x H3 y => ?_⟩
  obtain ⟨rfl, y⟩ := y
  have e2 := y vs q
  rw [e1] at e2
  cases e2
  exact ⟨F, Go.refl, b, Rep.mono e _ _ r1⟩
theorem walk_tup {K : PySem.W.Frag} {ft : List Addr} {F1 : Hp} {a : Addr} {vs : List V} {ds : List Dt} (h : SqT K F1 a vs) (r : Reps K F1 vs ds) : WalkJ K ft F1 (Itt K a) ds := fun F H s i e b => by
  have q : SqT K H a vs := sqT_same b.sub (sqT_same e h)
  refine ⟨fun hl => ⟨vs, q, by rw [r.length]; exact hl⟩, fun d hd => ?_⟩
  obtain ⟨v, e1, r1⟩ := r.get hd
  refine ⟨⟨vs, v, q, e1⟩, fun x H3 y => ?_⟩
  obtain ⟨rfl, y⟩ := y
  have e2 := y vs q
  rw [e1] at e2
  cases e2
  exact ⟨F, Go.refl, b, Rep.mono e _ _ r1⟩
theorem walk_str {K : PySem.W.Frag} {ft : List Addr} {F1 : Hp} (z : Str) : WalkJ K ft F1 (Its z) (z.cps.toList.map fun c => .str ⟨#[c]⟩) := fun F H s i e b => by
  refine ⟨fun hl => by rw [List.length_map, Array.length_toList] at hl; exact hl, fun d hd => ?_⟩
  rw [List.getElem?_map, Array.getElem?_toList] at hd
  cases q : z.cps[i]? with
  | none => rw [q] at hd; cases hd
  | some c =>
    rw [q] at hd
    cases hd
    refine ⟨(Array.getElem?_eq_some_iff.mp q).1, fun x H3 y => ?_⟩
    obtain ⟨rfl, c', e1, rfl⟩ := y
    rw [q] at e1
    cases e1
    exact ⟨F, Go.refl, b, .str _⟩
theorem walk_rng {K : PySem.W.Frag} {ft : List Addr} {F1 : Hp} (lo : Int) (n : Nat) : WalkJ K ft F1 (Itr lo n) ((List.range n).map fun i => .int (lo + (i : Nat))) := fun F H s i e b => by
  refine ⟨fun hl => by rw [List.length_map, List.length_range] at hl; exact hl, fun d hd => ?_⟩
  rw [List.getElem?_map] at hd
  by_cases hi : i < n
  · rw [List.getElem?_range hi] at hd
    cases hd
    refine ⟨hi, fun x H3 y => ?_⟩
    obtain ⟨rfl, rfl⟩ := y
    exact ⟨F, Go.refl, b, .int _⟩
  · rw [List.getElem?_eq_none (by rw [List.length_range]; omega)] at hd
    cases hd
theorem Repk.get {K : PySem.W.Frag} {F : Hp} : ∀ {vs : List (Key × V)} {ds : List (Key × Dt)} {i : Nat} {kd : Key × Dt}, Repk K F vs ds → ds[i]? = some kd → ∃ v, vs[i]? = some (kd.1, v) ∧ Rep K F v kd.2
  | [], [], _, _, _, e => by simp at e
  | [], _ :: _, _, _, h, _ => by cases h
  | _ :: _, [], _, _, h, _ => by cases h
  | (k, v) :: vs, (_, d) :: ds, 0, kd, h, e => by
    cases h with
    | cons h1 h2 =>
      have e' : (k, d) = kd := by simpa using e
      subst e'
      exact ⟨v, rfl, h1⟩
  | _ :: vs, _ :: ds, i + 1, kd, h, e => by
    cases h with
    | cons h1 h2 =>
      obtain ⟨u, e1, r⟩ := Repk.get (i := i) h2 (by simpa using e)
      exact ⟨u, by simpa using e1, r⟩
theorem walk_keys {K : PySem.W.Frag} {ft : List Addr} {F1 : Hp} {p : Addr} {od : Obj} {kvs : List (Key × V)} {ks : List (Key × Dt)} (hp : F1 p = some (.frz od (.dK kvs))) (r : Repk K F1 kvs ks) : WalkJ K ft F1 (Itk p od kvs) (ks.map fun kv => keyD kv.1) := fun F H s i e b => by
  have ep : H p = some (.frz od (.dK kvs)) := b.sub p _ (e p _ hp)
  have hl := r.length
  refine ⟨fun h => ⟨ep, by rw [List.length_map] at h; omega⟩, fun d hd => ?_⟩
  rw [List.getElem?_map] at hd
  cases q : ks[i]? with
  | none => rw [q] at hd; cases hd
  | some kd =>
    rw [q] at hd
    cases hd
    obtain ⟨v, e1, r1⟩ := r.get q
    have hlt : i < kvs.length := (List.getElem?_eq_some_iff.mp e1).1
    refine ⟨⟨ep, hlt⟩, fun x H3 ⟨e3, k2, v2, f1, f2⟩ => ?_⟩
    subst e3
    rw [e1] at f1; cases f1
    subst f2
    exact ⟨F, Go.refl, b, rep_key _⟩
theorem i_seq (he : PE X e (tD X.K O f)) (hl : PI X tg e (iList X.K (tD X.K O f))) (ht : PI X tg e (iTup X.K (tD X.K O f))) (hs : PI X tg e (iStr (tD X.K O f))) (hk : PI X tg e (iKeys (tD X.K O f))) : PI X tg e (tI X.K O (seqF f)) := pi_imp (pi_or hl (pi_or ht (pi_or hs hk))) fun σ H R ⟨g, F, env, s, ds, s', st, hf, k⟩ => by
  unfold seqF at hf
  cases q : f env s with
  | none => rw [q] at hf; cases hf
  | some p =>
    obtain ⟨x, s1⟩ := p
    cases q2 : seqOf x with
    | none => simp [q, q2] at hf
    | some xs =>
      simp [q, q2] at hf
      obtain ⟨rfl, rfl⟩ := hf
      cases x <;> simp only [seqOf] at q2 <;> try (cases q2; done)
      · cases q2
        refine .inr (.inr (.inl ⟨g, F, env, s, _, s1, st, q, fun v F' H' x b r => ?_⟩))
        cases r
        exact ⟨_, rfl, k _ F' H' x b (walk_str _)⟩
      · cases q2
        refine .inr (.inl ⟨g, F, env, s, _, s1, st, q, fun v F' H' x b r => ?_⟩)
        cases r with
        | tup h1 hp h2 => exact ⟨_, rfl, ⟨_, sqT_same b.sub h1⟩, k _ F' H' x b (walk_tup h1 h2)⟩
      · cases q2
        refine .inl ⟨g, F, env, s, _, s1, st, q, fun v F' H' x b r => ?_⟩
        cases r with
        | lst h1 h2 => exact ⟨_, rfl, ⟨_, SqL.of (b.sub _ _ h1)⟩, k _ F' H' x b (walk_list (fun F2 H2 e1 e2 => SqL.of (e2 _ _ (e1 _ _ h1))) h2)⟩
      · cases q2
        refine .inr (.inr (.inr ⟨g, F, env, s, _, s1, st, q, fun v F' H' x b r => ?_⟩))
        cases r with
        | dct h1 h2 => exact ⟨_, _, rfl, .inl ⟨_, b.sub _ _ h1, k _ F' H' x b (walk_keys h1 h2)⟩⟩
      · cases q2
        refine .inl ⟨g, F, env, s, _, s1, st, q, fun v F' H' x b r => ?_⟩
        cases r with
        | scr h1 => exact ⟨_, rfl, ⟨_, b.sub.seq h1⟩, k _ F' H' x b (walk_list (fun F2 H2 e1 e2 => e2.seq (e1.seq h1)) (Reps.ints _))⟩
def rngF1 (f : Fe) : Fi := fun env s => match f env s with
  | some (.int j, s') => if -(2 ^ 62) ≤ j ∧ j < 2 ^ 62 then some ((List.range j.toNat).map fun i => .int (0 + (i : Nat)), s') else none
  | _ => none
theorem i_range1 {a : Expr} (hg : Gl X "range") (hm : X.mg "range" = none) (ha : PE X a (tB X.K O f)) (hs : starEach [a] X.env = [(false, eval a X.env)] := by rfl) : PI X tg (.Call (.Name "range" p) [a] [] pos) (tI X.K O (rngF1 f)) :=
  pi_imp (pi_range1 hg hm (pa_cons ha pa_nil (by rw [hs]; rfl)) hs) fun σ H R ⟨g, F, env, s, ds, s', st, hf, k⟩ => by
    unfold rngF1 at hf
    split at hf
    · rename_i j s1 q
      split at hf <;> cases hf
      rename_i c
      exact ⟨g, F, env, s, _, _, st, q, fun v F' H' x b r => ⟨j, by rw [r.int], c.1, c.2, k _ F' H' x b (walk_rng 0 _)⟩⟩
    · cases hf
end

def loopF (st : Tg) (F : Fs) : List Dt → Env → Sto → Option (Out × Sto)
  | [], env, s => some (.nx env, s)
  | d :: ds, env, s => match st env d with
    | none => none
    | some e1 => match F e1 s with
      | some (.nx e2, s2) => loopF st F ds e2 s2
      | some (.ct e2, s2) => loopF st F ds e2 s2
      | some (.bk e2, s2) => some (.nx e2, s2)
      | some (.rt d, s2) => some (.rt d, s2)
      | none => none
def forF (fi : Fi) (st : Tg) (F : Fs) : Fs := fun env s => match fi env s with
  | some (ds, s1) => loopF st F ds env s1
  | none => none
section
variable {X : Cx} {L O : List Nat} {tg iter c : Expr} {body : List Stmt} {fi : Fi} {t : Tg} {F : Fs} {pos : Pos}
theorem s_for (hp : PassesOwn (model X.prog X.w) X.A X.env X.xe) (hc : X.calm = true) (hi : PI X tg iter (tI X.K O fi)) (hg : PG X tg (tG X.K O t)) (hb : PSs X body (tS X.K O O O F))
    (hs : ∀ x, foldedSetIterable iter X.env x = pure x := by intro _; rfl) : PS X (.For tg iter body [] pos) (tS X.K L O O (forF fi t F)) := ps_imp (ps_for hp hc hi hg hb hs) fun D σ H ⟨g, F0, env, s, out, s', st, hf, k⟩ => by
  unfold forF at hf
  split at hf
  · rename_i ds s1 q
    refine ⟨g, F0, env, s, ds, s1, st, q, fun J F1 H1 x1 b1 wk => ?_⟩
    refine ⟨fun i m σ2 H2 => m = ds.length - i ∧ ∃ F2 env2 s2, Stt X.K g O F2 H2 σ2 env2 s2 ∧ Same F1 F2 ∧ loopF t F (ds.drop i) env2 s2 = some (out, s'), ⟨_, rfl, F1, env, s1, st.step x1 b1, Same.refl _, hf⟩, ?_⟩
    rintro i m σ2 H2 ⟨rfl, F2, env2, s2, st2, sm, hl⟩
    obtain ⟨w1, w2⟩ := wk F2 H2 s2 i sm st2.bs
    cases qd : ds[i]? with
    | none =>
      have hge : ds.length ≤ i := List.getElem?_eq_none_iff.mp qd
      rw [List.drop_eq_nil_of_le hge] at hl
      unfold loopF at hl
      cases hl
      exact .inl ⟨w1 hge, k σ2 H2 F2 (x1.sam.trans sm) st2⟩
    | some d =>
      have hlt : i < ds.length := (List.getElem?_eq_some_iff.mp qd).1
      have ed : ds.drop i = d :: ds.drop (i + 1) := by
        rw [List.drop_eq_getElem_cons hlt]
        have := (List.getElem?_eq_some_iff.mp qd).2
        rw [this]
      rw [ed] at hl
      unfold loopF at hl
      obtain ⟨g1, g2⟩ := w2 d qd
      refine .inr ⟨g1, fun σ3 H3 => ∃ F3 env3 s3, Stt X.K g O F3 H3 σ3 env3 s3 ∧ Same F1 F3 ∧ loopF t F (ds.drop (i + 1)) env3 s3 = some (out, s'), fun σ3 H3 ⟨F3, env3, s3, st3, sm3, hl3⟩ => ⟨ds.length - (i + 1), by omega, rfl, F3, env3, s3, st3, sm3, hl3⟩, fun x H3 y => ?_⟩
      obtain ⟨F3, x3, b3, r3⟩ := g2 x H3 y
      have st3 := st2.step x3 b3
      split at hl
      · cases hl
      · rename_i e1 q1
        refine ⟨g, F3, env2, s2, d, e1, st3, r3, q1, fun σ4 st4 _ => ?_⟩
        split at hl
        · rename_i e2 s5 q5
          exact ⟨g, F3, e1, s2, .nx e2, s5, st4, q5, fun σ6 H6 F6 e6 st6 => ⟨F6, e2, s5, st6, (sm.trans x3.sam).trans e6, hl⟩⟩
        · rename_i e2 s5 q5
          exact ⟨g, F3, e1, s2, .ct e2, s5, st4, q5, fun σ6 H6 F6 e6 st6 => ⟨F6, e2, s5, st6, (sm.trans x3.sam).trans e6, hl⟩⟩
        · rename_i e2 s5 q5
          cases hl
          exact ⟨g, F3, e1, s2, .bk e2, _, st4, q5, fun σ6 H6 F6 e6 st6 => k σ6 H6 F6 (((x1.sam.trans sm).trans x3.sam).trans e6) st6⟩
        · rename_i d5 s5 q5
          cases hl
          exact ⟨g, F3, e1, s2, .rt d5, _, st4, q5, k⟩
        · cases hl
  · cases hf
end
end DL

namespace DL
open PySem PySem.Spec PyProof.Rows L2

def whileL (c : Ft) (F : Fs) : Nat → Env → Sto → Option (Out × Sto)
  | 0, _, _ => none
  | n + 1, env, s => match c env s with
    | some (true, s1) => match F env s1 with
      | some (.nx e, s2) => whileL c F n e s2
      | some (.ct e, s2) => whileL c F n e s2
      | some (.bk e, s2) => some (.nx e, s2)
      | some (.rt d, s2) => some (.rt d, s2)
      | none => none
    | some (false, s1) => some (.nx env, s1)
    | none => none
def whileS (c : Ft) (F : Fs) (fuel : Nat) : Fs := fun env s => whileL c F fuel env s
section
variable {X : Cx} {L O : List Nat} {c : Expr} {body : List Stmt} {fc : Ft} {F : Fs} {pos : Pos}
theorem s_while (fuel : Nat) (hp : PassesOwn (model X.prog X.w) X.A X.env X.xe) (hc : PT X c (tT X.K O fc)) (hb : PSs X body (tS X.K O O O F)) : PS X (.While c body [] pos) (tS X.K L O O (whileS fc F fuel)) := ps_imp (ps_while hp hc hb) fun D σ H ⟨g, F0, env, s, out, s', st, hf, k⟩ => by
  refine ⟨fun n σ2 H2 => ∃ F2 env2 s2, Stt X.K g O F2 H2 σ2 env2 s2 ∧ Same F0 F2 ∧ whileL fc F n env2 s2 = some (out, s'), ⟨fuel, F0, env, s, st, Same.refl _, hf⟩, ?_⟩
  rintro n σ2 H2 ⟨F2, env2, s2, st2, sm, hl⟩
  cases n with
  | zero => cases hl
  | succ n =>
    unfold whileL at hl
    split at hl
    · rename_i s3 q
      refine ⟨g, F2, env2, s2, true, s3, st2, q, fun F3 H3 x3 b3 => ?_⟩
      refine iteT ⟨fun σ4 H4 => ∃ F4 env4 s4, Stt X.K g O F4 H4 σ4 env4 s4 ∧ Same F0 F4 ∧ whileL fc F n env4 s4 = some (out, s'), fun σ4 H4 h4 => ⟨n, Nat.lt_succ_self n, h4⟩, ?_⟩
      have st3 := st2.step x3 b3
      split at hl
      · rename_i e2 s5 q5
        exact ⟨g, F3, env2, s3, .nx e2, s5, st3, q5, fun σ6 H6 F6 e6 st6 => ⟨F6, e2, s5, st6, (sm.trans x3.sam).trans e6, hl⟩⟩
      · rename_i e2 s5 q5
        exact ⟨g, F3, env2, s3, .ct e2, s5, st3, q5, fun σ6 H6 F6 e6 st6 => ⟨F6, e2, s5, st6, (sm.trans x3.sam).trans e6, hl⟩⟩
      · rename_i e2 s5 q5
        cases hl
        exact ⟨g, F3, env2, s3, .bk e2, _, st3, q5, fun σ6 H6 F6 e6 st6 => k σ6 H6 F6 ((sm.trans x3.sam).trans e6) st6⟩
      · rename_i d5 s5 q5
        cases hl
        exact ⟨g, F3, env2, s3, .rt d5, _, st3, q5, k⟩
      · cases hl
    · rename_i s3 q
      cases hl
      refine ⟨g, F2, env2, s2, false, _, st2, q, fun F3 H3 x3 b3 => ?_⟩
      refine iteF ?_
      exact k σ2 H3 F3 (sm.trans x3.sam) (st2.step x3 b3)
    · cases hl
end

def wipeE (env : Env) : List Nat → Env
  | [] => env
  | v :: vs => (wipeE env vs).set v none
theorem Stt.wipe {K : PySem.W.Frag} {g : Gd} {O : List Nat} {F H : Hp} {σ : L2.St} {env : Env} {s : Sto} (h : Stt K g O F H σ env s) : ∀ (vs : List Nat), (∀ i, i ∈ vs → i ∉ O) → Stt K g O F H (L2.wipe σ vs) (wipeE env vs) s
  | [], _ => h
  | v :: vs, e => by
    have ih := Stt.wipe h vs fun i hi => e i (List.mem_cons_of_mem _ hi)
    have hv := e v List.mem_cons_self
    refine ⟨ih.bs, ⟨?_, fun i d hi q => ?_, fun i hi => ?_, fun a b p ha hb qa qb => ?_⟩, ih.go⟩
    · show ((L2.wipe σ vs).set v none).length = ((wipeE env vs).set v none).length
      rw [List.length_set, List.length_set]; exact ih.sl.len
    · have q' : ((wipeE env vs).set v none)[i]? = some (some d) := q
      have c : v ≠ i := fun z => by
        subst z
        by_cases hl : v < (wipeE env vs).length
        · rw [List.getElem?_set_self hl] at q'; cases q'
        · rw [List.getElem?_eq_none (by rw [List.length_set]; omega)] at q'; cases q'
      rw [List.getElem?_set_ne c] at q'
      obtain ⟨u, e1, r⟩ := ih.sl.pu i d hi q'
      exact ⟨u, by show ((L2.wipe σ vs).set v none)[i]? = _; rw [List.getElem?_set_ne c]; exact e1, r⟩
    · have c : v ≠ i := fun z => hv (z ▸ hi)
      obtain ⟨p, o, d, e1, e2, r⟩ := ih.sl.ow i hi
      exact ⟨p, o, d, by show ((L2.wipe σ vs).set v none)[i]? = _; rw [List.getElem?_set_ne c]; exact e1, by show ((wipeE env vs).set v none)[i]? = _; rw [List.getElem?_set_ne c]; exact e2, r⟩
    · have ca : v ≠ a := fun z => hv (z ▸ ha)
      have cb : v ≠ b := fun z => hv (z ▸ hb)
      have qa' : ((L2.wipe σ vs).set v none)[a]? = some (some (.ref p)) := qa
      have qb' : ((L2.wipe σ vs).set v none)[b]? = some (some (.ref p)) := qb
      rw [List.getElem?_set_ne ca] at qa'
      rw [List.getElem?_set_ne cb] at qb'
      exact ih.sl.di a b p ha hb qa' qb'
theorem Stt.apart {K : PySem.W.Frag} {g : Gd} {O : List Nat} {F H : Hp} {σ : L2.St} {env : Env} {s : Sto} {D : Addr} {o : HO} (h : Stt K g O F H σ env s) (n : F D = none) (nf : D ∉ g.ft) (nh : g.he D = none) (no : ∀ j, j ∈ O → σ[j]? ≠ some (some (.ref D))) : Stt K g O F (upd H D o) σ env s := by
  refine ⟨⟨fun c u e => by rw [upd_ne (ne_of_none e n)]; exact h.bs.sub c u e, h.bs.ad, h.bs.nd, fun a d hm => ?_, h.bs.fr⟩, ⟨h.sl.len, h.sl.pu, fun j hj => ?_, h.sl.di⟩, ⟨fun c u e nc => by rw [upd_ne (ne_of_none e nh)]; exact h.go.ext c u e nc, h.go.sam, h.go.new⟩⟩
  · obtain ⟨ob, e, r⟩ := h.bs.st a d hm
    exact ⟨ob, by rw [upd_ne (fun (z : a = D) => nf (by rw [← z, ← h.bs.ad]; exact List.mem_map_of_mem hm))]; exact e, r⟩
  · obtain ⟨p, o', d, e1, e2, e3, r⟩ := h.sl.ow j hj
    exact ⟨p, o', d, e1, e2, by rw [upd_ne (fun (z : p = D) => no j hj (z ▸ e1))]; exact e3, r⟩
def yesT : Ft := fun _ s => some (true, s)
def lcL (st : Tg) (tt : Ft) (te : Fe) (w : Env) : List Dt → Sto → Option (List Dt × Sto)
  | [], s => some ([], s)
  | d :: ds, s => match st w d with
    | none => none
    | some e1 => match tt e1 s with
      | some (true, s1) => match te e1 s1 with
        | some (y, s2) => match lcL st tt te w ds s2 with
          | some (r, s3) => some (y :: r, s3)
          | none => none
        | none => none
      | some (false, s1) => lcL st tt te w ds s1
      | none => none
def lcF (fi : Fi) (st : Tg) (tt : Ft) (te : Fe) (vs : List Nat) : Fe := fun env s => match fi env s with
  | some (ds, s1) => match lcL st tt te (wipeE env vs) ds s1 with
    | some (ys, s2) => if ys.length ≤ sizeLine then some (.lst ys, s2) else none
    | none => none
  | none => none
theorem yes_t {K : PySem.W.Frag} {O : List Nat} (σ : L2.St) (H : Hp) (Q : Bool → Hp → Prop) (h : tT K O yesT σ H Q) : tYes σ H Q := by
  obtain ⟨g, F, env, s, b, s', st, hf, k⟩ := h
  cases hf
  exact k F H Go.refl st.bs
def Only (vs : List Nat) (st : Tg) : Prop := ∀ (env env' : Env) (d : Dt), st env d = some env' → wipeE env' vs = wipeE env vs
section
variable {K : PySem.W.Frag} {O : List Nat} {fi : Fi} {st : Tg} {tt : Ft} {te : Fe} {vs : List Nat}
theorem lc_n {gT : TG} {t1 : TT} (hv : ∀ i, i ∈ vs → i ∉ O) (hT : ∀ v σ H Q, tG K O st v σ H Q → gT v σ H Q) (hw : ∀ v σ H Q, gT v (L2.wipe σ vs) H Q → gT v (L2.wipe σ vs) H fun σ' H' => L2.wipe σ' vs = L2.wipe σ vs ∧ Q σ' H') (hY : ∀ σ H Q, tT K O tt σ H Q → t1 σ H Q)
    (σ : L2.St) (H : Hp) (Q : VK) (h : tN K O (lcF fi st tt te vs) σ H Q) : tLc (tI K O fi) gT t1 (tD K O te) vs σ H Q := by
  obtain ⟨g, F, env, s, d, s', stt, hf, k⟩ := h
  unfold lcF at hf
  split at hf
  · rename_i ds s1 q
    split at hf
    · rename_i ys s2 ql
      split at hf <;> cases hf
      rename_i hz
      refine ⟨g, F, env, s, ds, s1, stt, q, fun J F1 H1 x1 b1 wk D nD => ?_⟩
      have st1 := stt.step x1 b1
      have stw := Stt.wipe st1 vs hv
      have nF1 : F1 D = none := (Go.made (o := .lst []) b1 nD).2.2
      have nft : D ∉ g.ft := b1.nofree nD
      have nH : H D = none := x1.free b1 nD
      have nhe : g.he D = none := st1.go.free st1.bs nD
      have nO : ∀ j, j ∈ O → (L2.wipe σ vs)[j]? ≠ some (some (.ref D)) := fun j hj e => by
        obtain ⟨p, o, d', e1, _, e3, _⟩ := stw.sl.ow j hj
        rw [e] at e1; cases e1
        rw [nD] at e3; cases e3
      refine ⟨fun i m H2 => m = ds.length - i ∧ ∃ F2 s3 acc accD rest, Stt K g O F2 H2 (L2.wipe σ vs) (wipeE env vs) s3 ∧ Go g.ft F H F2 H2 ∧ Same F1 F2 ∧ F2 D = none ∧ H2 D = some (.lst acc) ∧ Reps K F2 acc accD ∧ lcL st tt te (wipeE env vs) (ds.drop i) s3 = some (rest, s') ∧ accD ++ rest = ys,
        ⟨_, rfl, F1, s1, [], [], ys, stw.apart nF1 nft nhe nO, ?_, Same.refl _, nF1, upd_same, .nil, ql, rfl⟩, ?_⟩
      · exact x1.trans ⟨fun c u e _ => by rw [upd_ne (ne_of_none e nD)]; exact e, Same.refl _, fun c u e => .inl e⟩ b1
      rintro i m H2 ⟨rfl, F2, s3, acc, accD, rest, st2, go2, sm2, n2, e2, r2, hl, ha⟩
      obtain ⟨w1, w2⟩ := wk F2 H2 s3 i sm2 st2.bs
      cases qd : ds[i]? with
      | none =>
        have hge : ds.length ≤ i := List.getElem?_eq_none_iff.mp qd
        rw [List.drop_eq_nil_of_le hge] at hl
        unfold lcL at hl
        cases hl
        rw [List.append_nil] at ha
        subst ha
        exact .inl ⟨w1 hge, k D _ F2 H2 go2 st2.bs nH n2 e2 (.lst r2)⟩
      | some d =>
        have hlt : i < ds.length := (List.getElem?_eq_some_iff.mp qd).1
        have ed : ds.drop i = d :: ds.drop (i + 1) := by
          rw [List.drop_eq_getElem_cons hlt]
          have := (List.getElem?_eq_some_iff.mp qd).2
          rw [this]
        rw [ed] at hl
        unfold lcL at hl
        obtain ⟨g1, g2⟩ := w2 d qd
        refine .inr ⟨g1, fun H3 => ∃ F3 s4 acc3 accD3 rest3, Stt K g O F3 H3 (L2.wipe σ vs) (wipeE env vs) s4 ∧ Go g.ft F H F3 H3 ∧ Same F1 F3 ∧ F3 D = none ∧ H3 D = some (.lst acc3) ∧ Reps K F3 acc3 accD3 ∧ lcL st tt te (wipeE env vs) (ds.drop (i + 1)) s4 = some (rest3, s') ∧ accD3 ++ rest3 = ys,
          fun H3 h3 => ⟨ds.length - (i + 1), by omega, rfl, h3⟩, fun x H3 y => ?_⟩
        obtain ⟨F3, x3, b3, r3⟩ := g2 x H3 y
        have st3 := st2.step x3 b3
        split at hl
        · cases hl
        · rename_i en q1
          refine hw _ _ _ _ (hT _ _ _ _ ⟨g, F3, wipeE env vs, s3, d, en, st3, r3, q1, fun σ4 st4 _ => ?_⟩)
          have n3 : F3 D = none := by
            cases z : F3 D with
            | none => rfl
            | some u =>
              rcases x3.new D u z with z1 | z1
              · rw [n2] at z1; cases z1
              · rw [e2] at z1; cases z1
          have e3 : H3 D = some (.lst acc) := x3.ext D _ e2 nft
          have go3 : Go g.ft F H F3 H3 := go2.trans x3 st2.bs
          split at hl
          · rename_i s5 q5
            refine hY _ _ _ ⟨g, F3, en, s3, true, s5, st4, q5, fun F5 H5 x5 b5 => ?_⟩
            refine iteT ?_
            split at hl
            · rename_i yv s6 q6
              split at hl
              · rename_i rr s7 q7
                cases hl
                refine ⟨g, F5, en, s5, yv, s6, st4.step x5 b5, q6, fun v F6 H6 x6 b6 r6 => ?_⟩
                have x56 := x5.trans x6 b5
                have e6 : H6 D = some (.lst acc) := x56.ext D _ e3 nft
                have n6 : F6 D = none := by
                  cases z : F6 D with
                  | none => rfl
                  | some u =>
                    rcases x56.new D u z with z1 | z1
                    · rw [n3] at z1; cases z1
                    · rw [e3] at z1; cases z1
                have st6 := st3.step x56 b6
                have nO6 : ∀ j, j ∈ O → (L2.wipe σ vs)[j]? ≠ some (some (.ref D)) := nO
                have lz : acc.length < sizeLine := by
                  rw [r2.length]
                  have : (accD ++ yv :: rr).length ≤ sizeLine := by rw [ha]; exact hz
                  rw [List.length_append, List.length_cons] at this
                  omega
                refine ⟨acc, e6, lz, F6, s6, acc ++ [v], accD ++ [yv], rr, st6.apart n6 nft nhe nO6, ?_, (sm2.trans x3.sam).trans x56.sam, n6, upd_same, ?_, q7, by rw [← ha, List.append_assoc]; rfl⟩
                · have go6 : Go g.ft F H F6 H6 := go3.trans x56 st3.bs
                  exact ⟨fun c u e nc => by rw [upd_ne (ne_of_none e nH)]; exact go6.ext c u e nc, go6.sam, go6.new⟩
                · exact (Reps.mono (x3.sam.trans x56.sam) _ _ r2).snoc r6
              · cases hl
            · cases hl
          · rename_i s5 q5
            refine hY _ _ _ ⟨g, F3, en, s3, false, s5, st4, q5, fun F5 H5 x5 b5 => ?_⟩
            refine iteF ?_
            have e5 : H5 D = some (.lst acc) := x5.ext D _ e3 nft
            have n5 : F5 D = none := by
              cases z : F5 D with
              | none => rfl
              | some u =>
                rcases x5.new D u z with z1 | z1
                · rw [n3] at z1; cases z1
                · rw [e3] at z1; cases z1
            exact ⟨F5, s5, acc, accD, rest, st3.step x5 b5, go3.trans x5 st3.bs, (sm2.trans x3.sam).trans x5.sam, n5, e5, Reps.mono (x3.sam.trans x5.sam) _ _ r2, hl, ha⟩
          · cases hl
    · cases hf
  · cases hf
end
theorem wipe_get (σ : L2.St) (k : Nat) : ∀ vs : List Nat, (L2.wipe σ vs)[k]? = if k ∈ vs then (if k < σ.length then some none else none) else σ[k]?
  | [] => by simp [L2.wipe]
  | v :: vs => by
    show ((L2.wipe σ vs).set v none)[k]? = _
    by_cases c : v = k
    · subst c
      rw [if_pos List.mem_cons_self]
      by_cases hl : v < σ.length
      · rw [if_pos hl, List.getElem?_set_self (by rw [wipe_length]; exact hl)]
      · rw [if_neg hl, List.getElem?_eq_none (by rw [List.length_set, wipe_length]; omega)]
    · rw [List.getElem?_set_ne c, wipe_get σ k vs]
      have : k ∈ v :: vs ↔ k ∈ vs := by simp [Ne.symm c]
      simp only [this]
theorem wipe_set (σ : L2.St) {i : Nat} {vs : List Nat} (x : Option V) (h : i ∈ vs) {τ : L2.St} (e : L2.wipe τ vs = L2.wipe σ vs) : L2.wipe (τ.set i x) vs = L2.wipe σ vs := by
  rw [← e]
  refine List.ext_getElem? fun k => ?_
  rw [wipe_get, wipe_get, List.length_set]
  split
  · rfl
  · rename_i c
    rw [List.getElem?_set_ne (fun (z : i = k) => c (z ▸ h))]
theorem wipe_wipe (σ : L2.St) (vs : List Nat) : L2.wipe (L2.wipe σ vs) vs = L2.wipe σ vs := by
  refine List.ext_getElem? fun k => ?_
  rw [wipe_get, wipe_get, wipe_length]
  split <;> rfl
section
variable {X : Cx} {O : List Nat} {elt tg iter kx vx c : Expr} {ifs : List Expr} {scope : Scope} {own : List (Str × Nat)} {pos : Pos} {fi : Fi} {tt : Ft} {te tk : Fe}
theorem ts_nil : PTs X [] (tT X.K O yesT) := ⟨fun pins s σ H Q I h => pts_nil.run pins s σ H Q I (yes_t σ H Q h)⟩
theorem ts_one (h : PT X c (tT X.K O tt)) : PTs X [c] (tT X.K O tt) := pts_one h
theorem nameT {K : PySem.W.Frag} {i : Nat} (hi : i ∉ O) (v : V) (σ : L2.St) (H : Hp) (Q : L2.St → Hp → Prop) (h : tG K O (tgN i) v σ H Q) : gName i v σ H Q := by
  obtain ⟨g, F, env, s, d, env', st, r, hs, k⟩ := h
  cases hs
  exact k _ (st.setD r (fun j hj => ⟨hj, fun z => hi (z ▸ hj)⟩) fun j hj _ => hj) fun j hj => List.getElem?_set_ne fun (z : i = j) => hi (z ▸ hj)
theorem n_lc {i : Nat} (hc : X.calm = true) (hN : X.N.Nodup) (hi : PI X tg iter (tI X.K O fi)) (ok : BlkOk X.N X.env.scope scope own)
    (hg : ∀ (s : Shared) (H : Hp) (C : Addr) (cl : List (Str × Addr)) (fp : List Addr), PG (X.blk s H scope (compEnvC scope cl C X.env) fp) tg (gName i))
    (ht : ∀ (s : Shared) (H : Hp) (C : Addr) (cl : List (Str × Addr)) (fp : List Addr), PTs (X.blk s H scope (compEnvC scope cl C X.env) fp) ifs (tT X.K O tt))
    (he : ∀ (s : Shared) (H : Hp) (C : Addr) (cl : List (Str × Addr)) (fp : List Addr), PE (X.blk s H scope (compEnvC scope cl C X.env) fp) elt (tD X.K O te))
    (hv : ∀ j, j ∈ own.map (·.2) → j ∉ O := by decide) (hm : i ∈ own.map (·.2) := by decide) (hs : ∀ x, foldedSetIterable iter X.env x = pure x := by intro _; rfl) :
    PE X (.ListComp elt [⟨tg, iter, ifs, 0⟩] scope pos) (tN X.K O (lcF fi (tgN i) tt te (own.map (·.2)))) :=
  pe_imp (pe_lc hc hN hi ok hg ht he hs) (lc_n hv (nameT (hv i hm)) (fun v σ H Q h => ⟨wipe_set _ _ hm (wipe_wipe _ _), h⟩) fun _ _ _ h => h)
theorem pairT {K : PySem.W.Frag} {i j : Nat} (hi : i ∉ O) (hj : j ∉ O) (v : V) (σ : L2.St) (H : Hp) (Q : L2.St → Hp → Prop) (h : tG K O (tgP (tgN i) (tgN j)) v σ H Q) : gTup K 2 (gCons (gName i) (gCons (gName j) gNil)) v σ H Q := by
  obtain ⟨g, F, env, s, d, env', st, r, hs, k⟩ := h
  unfold tgP at hs
  split at hs
  · rename_i x y
    cases r with
    | tup h1 hp h2 =>
      cases h2 with
      | cons r1 t1 =>
        cases t1 with
        | cons r2 t2 =>
          cases t2
          simp [tgN] at hs
          subst hs
          have st1 := st.setD (O' := O) (i := i) r1 (fun a ha => ⟨ha, fun (z : a = i) => hi (z ▸ ha)⟩) fun a ha _ => ha
          have st2 := st1.setD (O' := O) (i := j) r2 (fun a ha => ⟨ha, fun (z : a = j) => hj (z ▸ ha)⟩) fun a ha _ => ha
          exact ⟨_, _, rfl, sqT_same st.bs.sub h1, rfl, _, _, rfl, _, _, rfl, rfl, k _ st2 fun a ha => (List.getElem?_set_ne fun (z : j = a) => hj (z ▸ ha)).trans (List.getElem?_set_ne fun (z : i = a) => hi (z ▸ ha))⟩
  · cases hs
theorem n_lcP {i j : Nat} (hc : X.calm = true) (hN : X.N.Nodup) (hi : PI X tg iter (tI X.K O fi)) (ok : BlkOk X.N X.env.scope scope own)
    (hg : ∀ (s : Shared) (H : Hp) (C : Addr) (cl : List (Str × Addr)) (fp : List Addr), PG (X.blk s H scope (compEnvC scope cl C X.env) fp) tg (gTup X.K 2 (gCons (gName i) (gCons (gName j) gNil))))
    (ht : ∀ (s : Shared) (H : Hp) (C : Addr) (cl : List (Str × Addr)) (fp : List Addr), PTs (X.blk s H scope (compEnvC scope cl C X.env) fp) ifs (tT X.K O tt))
    (he : ∀ (s : Shared) (H : Hp) (C : Addr) (cl : List (Str × Addr)) (fp : List Addr), PE (X.blk s H scope (compEnvC scope cl C X.env) fp) elt (tD X.K O te))
    (hv : ∀ j, j ∈ own.map (·.2) → j ∉ O := by decide) (hm : i ∈ own.map (·.2) := by decide) (hm2 : j ∈ own.map (·.2) := by decide) (hs : ∀ x, foldedSetIterable iter X.env x = pure x := by intro _; rfl) :
    PE X (.ListComp elt [⟨tg, iter, ifs, 0⟩] scope pos) (tN X.K O (lcF fi (tgP (tgN i) (tgN j)) tt te (own.map (·.2)))) :=
  pe_imp (pe_lc hc hN hi ok hg ht he hs) (lc_n hv (pairT (hv i hm) (hv j hm2)) (fun v σ H Q ⟨a, xs, e1, e2, e3, v1, r1, e4, v2, r2, e5, e6, q⟩ => ⟨a, xs, e1, e2, e3, v1, r1, e4, v2, r2, e5, e6, wipe_set _ _ hm2 (wipe_set _ _ hm (wipe_wipe _ _)), q⟩) fun _ _ _ h => h)
end
end DL

namespace DL
open PySem PySem.Spec PyProof.Rows L2

def lc2I (st : Tg) (tt : Ft) (te : Fe) (e : Env) : List Dt → Sto → Option (List Dt × Sto)
  | [], s => some ([], s)
  | d :: ds, s => match st e d with
    | none => none
    | some e1 => match tt e1 s with
      | some (true, s1) => match te e1 s1 with
        | some (y, s2) => match lc2I st tt te e ds s2 with
          | some (r, s3) => some (y :: r, s3)
          | none => none
        | none => none
      | some (false, s1) => lc2I st tt te e ds s1
      | none => none
def lc2L (st : Tg) (fi1 : Fi) (st1 : Tg) (tt1 : Ft) (te : Fe) (vs1 : List Nat) (w : Env) : List Dt → Sto → Option (List Dt × Sto)
  | [], s => some ([], s)
  | d :: ds, s => match st w d with
    | none => none
    | some e1 => match fi1 e1 s with
      | some (ds1, s1) => match lc2I st1 tt1 te (wipeE e1 vs1) ds1 s1 with
        | some (ys, s2) => match lc2L st fi1 st1 tt1 te vs1 w ds s2 with
          | some (r, s3) => some (ys ++ r, s3)
          | none => none
        | none => none
      | none => none
def lc2F (fi : Fi) (st : Tg) (fi1 : Fi) (st1 : Tg) (tt1 : Ft) (te : Fe) (vs vs1 : List Nat) : Fe := fun env s => match fi env s with
  | some (ds, s1) => match lc2L st fi1 st1 tt1 te vs1 (wipeE env vs) ds s1 with
    | some (ys, s2) => if ys.length ≤ sizeLine then some (.lst ys, s2) else none
    | none => none
  | none => none
section
variable {K : PySem.W.Frag} {O : List Nat} {fi fi1 : Fi} {st st1 : Tg} {tt1 : Ft} {te : Fe} {vs vs1 : List Nat}
theorem keepsD {ft : List Addr} {F H F' H' : Hp} {D : Addr} {o : HO} (x : Go ft F H F' H') (n : F D = none) (e : H D = some o) : F' D = none := by
  cases z : F' D with
  | none => rfl
  | some u =>
    rcases x.new D u z with z1 | z1
    · rw [n] at z1; cases z1
    · rw [e] at z1; cases z1
theorem lc2_n {gT gT1 : TG} (hv : ∀ i, i ∈ vs → i ∉ O) (hv1 : ∀ i, i ∈ vs1 → i ∈ vs) (hT : ∀ v σ H Q, tG K O st v σ H Q → gT v σ H Q) (hw : ∀ v σ H Q, gT v (L2.wipe σ vs) H Q → gT v (L2.wipe σ vs) H fun σ' H' => L2.wipe σ' vs = L2.wipe σ vs ∧ Q σ' H')
    (hT1 : ∀ v σ H Q, tG K O st1 v σ H Q → gT1 v σ H Q) (hw1 : ∀ v σ H Q, gT1 v (L2.wipe σ vs1) H Q → gT1 v (L2.wipe σ vs1) H fun σ' H' => L2.wipe σ' vs1 = L2.wipe σ vs1 ∧ Q σ' H')
    (σ : L2.St) (H : Hp) (Q : VK) (h : tN K O (lc2F fi st fi1 st1 tt1 te vs vs1) σ H Q) : tLc2 (tI K O fi) gT tYes (tI K O fi1) gT1 (tT K O tt1) (tD K O te) vs vs1 σ H Q := by
  obtain ⟨g, F, env, s, d, s', stt, hf, k⟩ := h
  unfold lc2F at hf
  split at hf
  · rename_i ds s1 q
    split at hf
    · rename_i ys s2 ql
      split at hf <;> cases hf
      rename_i hz
      refine ⟨g, F, env, s, ds, s1, stt, q, fun J F1 H1 x1 b1 wk D nD => ?_⟩
      have st0 := stt.step x1 b1
      have stw := Stt.wipe st0 vs hv
      have nF1 : F1 D = none := (Go.made (o := .lst []) b1 nD).2.2
      have nft : D ∉ g.ft := b1.nofree nD
      have nH : H D = none := x1.free b1 nD
      have nhe : g.he D = none := st0.go.free st0.bs nD
      have nO0 : ∀ j, j ∈ O → σ[j]? ≠ some (some (.ref D)) := fun j hj e => by
        obtain ⟨p, o, d', e1, _, e3, _⟩ := st0.sl.ow j hj
        rw [e] at e1; cases e1
        rw [nD] at e3; cases e3
      have nO : ∀ j, j ∈ O → (L2.wipe σ vs)[j]? ≠ some (some (.ref D)) := fun j hj e => by
        rw [wipe_get, if_neg (fun z => hv j z hj)] at e
        exact nO0 j hj e
      refine ⟨fun i m H2 => m = ds.length - i ∧ ∃ F2 s3 acc accD rest, Stt K g O F2 H2 (L2.wipe σ vs) (wipeE env vs) s3 ∧ Go g.ft F H F2 H2 ∧ Same F1 F2 ∧ F2 D = none ∧ H2 D = some (.lst acc) ∧ Reps K F2 acc accD ∧ lc2L st fi1 st1 tt1 te vs1 (wipeE env vs) (ds.drop i) s3 = some (rest, s') ∧ accD ++ rest = ys,
        ⟨_, rfl, F1, s1, [], [], ys, stw.apart nF1 nft nhe nO, ?_, Same.refl _, nF1, upd_same, .nil, ql, rfl⟩, ?_⟩
      · exact x1.trans ⟨fun c u e _ => by rw [upd_ne (ne_of_none e nD)]; exact e, Same.refl _, fun c u e => .inl e⟩ b1
      rintro i m H2 ⟨rfl, F2, s3, acc, accD, rest, st2, go2, sm2, n2, e2, r2, hl, ha⟩
      obtain ⟨w1, w2⟩ := wk F2 H2 s3 i sm2 st2.bs
      cases qd : ds[i]? with
      | none =>
        have hge : ds.length ≤ i := List.getElem?_eq_none_iff.mp qd
        rw [List.drop_eq_nil_of_le hge] at hl
        unfold lc2L at hl
        cases hl
        rw [List.append_nil] at ha
        subst ha
        exact .inl ⟨w1 hge, k D _ F2 H2 go2 st2.bs nH n2 e2 (.lst r2)⟩
      | some d =>
        have hlt : i < ds.length := (List.getElem?_eq_some_iff.mp qd).1
        have ed : ds.drop i = d :: ds.drop (i + 1) := by
          rw [List.drop_eq_getElem_cons hlt]
          have := (List.getElem?_eq_some_iff.mp qd).2
          rw [this]
        rw [ed] at hl
        unfold lc2L at hl
        obtain ⟨g1, g2⟩ := w2 d qd
        refine .inr ⟨g1, fun H3 => ∃ F3 s4 acc3 accD3 rest3, Stt K g O F3 H3 (L2.wipe σ vs) (wipeE env vs) s4 ∧ Go g.ft F H F3 H3 ∧ Same F1 F3 ∧ F3 D = none ∧ H3 D = some (.lst acc3) ∧ Reps K F3 acc3 accD3 ∧ lc2L st fi1 st1 tt1 te vs1 (wipeE env vs) (ds.drop (i + 1)) s4 = some (rest3, s') ∧ accD3 ++ rest3 = ys,
          fun H3 h3 => ⟨ds.length - (i + 1), by omega, rfl, h3⟩, fun x H3 y => ?_⟩
        obtain ⟨F3, x3, b3, r3⟩ := g2 x H3 y
        have st3 := st2.step x3 b3
        split at hl
        · cases hl
        · rename_i en q1
          refine hw _ _ _ _ (hT _ _ _ _ ⟨g, F3, wipeE env vs, s3, d, en, st3, r3, q1, fun σ4 st4 eo4 => ?_⟩)
          refine yes_t _ _ _ ⟨g, F3, en, s3, true, s3, st4, rfl, fun F4 H4 x4 b4 => ?_⟩
          refine iteT ?_
          have n3 : F3 D = none := keepsD x3 n2 e2
          have e3 : H3 D = some (.lst acc) := x3.ext D _ e2 nft
          have go3 : Go g.ft F H F3 H3 := go2.trans x3 st2.bs
          have st4' := st4.step x4 b4
          have st3' := st3.step x4 b4
          have n4 : F4 D = none := keepsD x4 n3 e3
          have e4 : H4 D = some (.lst acc) := x4.ext D _ e3 nft
          have go4 : Go g.ft F H F4 H4 := go3.trans x4 st3.bs
          split at hl
          · rename_i ds1 s5 q5
            split at hl
            · rename_i yi s6 q6
              split at hl
              · rename_i rr s7 q7
                cases hl
                refine ⟨g, F4, en, s3, ds1, s5, st4', q5, fun J1 F5 H5 x5 b5 wk1 => ?_⟩
                have hv1' : ∀ i, i ∈ vs1 → i ∉ O := fun i hi => hv i (hv1 i hi)
                have stw1 := Stt.wipe (st4'.step x5 b5) vs1 hv1'
                have stz := st3'.step x5 b5
                have e5 : H5 D = some (.lst acc) := x5.ext D _ e4 nft
                have n5 : F5 D = none := keepsD x5 n4 e4
                have go5 : Go g.ft F H F5 H5 := go4.trans x5 st3'.bs
                have nO4 : ∀ j, j ∈ O → (L2.wipe σ4 vs1)[j]? ≠ some (some (.ref D)) := fun j hj e => by
                  rw [wipe_get, if_neg (fun z => hv1' j z hj), eo4 j hj] at e
                  exact nO j hj e
                refine ⟨fun a b H6 => b = ds1.length - a ∧ ∃ F6 s8 acc6 accD6 rest6, Stt K g O F6 H6 (L2.wipe σ4 vs1) (wipeE en vs1) s8 ∧ Stt K g O F6 H6 (L2.wipe σ vs) (wipeE env vs) s8 ∧ Go g.ft F H F6 H6 ∧ Same F5 F6 ∧ F6 D = none ∧ H6 D = some (.lst acc6) ∧ Reps K F6 acc6 accD6 ∧
                    lc2I st1 tt1 te (wipeE en vs1) (ds1.drop a) s8 = some (rest6, s6) ∧ accD6 ++ rest6 = accD ++ yi, ⟨_, rfl, F5, s5, acc, accD, yi, stw1, stz, go5, Same.refl _, n5, e5, Reps.mono ((x3.sam.trans x4.sam).trans x5.sam) _ _ r2, q6, rfl⟩, ?_⟩
                rintro a b H6 ⟨rfl, F6, s8, acc6, accD6, rest6, st6, sz6, go6, sm6, n6, e6, r6, hl6, ha6⟩
                obtain ⟨w3, w4⟩ := wk1 F6 H6 s8 a sm6 st6.bs
                cases qe : ds1[a]? with
                | none =>
                  have hge : ds1.length ≤ a := List.getElem?_eq_none_iff.mp qe
                  rw [List.drop_eq_nil_of_le hge] at hl6
                  unfold lc2I at hl6
                  cases hl6
                  rw [List.append_nil] at ha6
                  subst ha6
                  exact .inl ⟨w3 hge, F6, s6, acc6, _, rr, sz6, go6, ((sm2.trans x3.sam).trans (x4.sam.trans x5.sam)).trans sm6, n6, e6, r6, q7, by rw [List.append_assoc]; exact ha⟩
                | some d1 =>
                  have hlt1 : a < ds1.length := (List.getElem?_eq_some_iff.mp qe).1
                  have ed1 : ds1.drop a = d1 :: ds1.drop (a + 1) := by
                    rw [List.drop_eq_getElem_cons hlt1]
                    have := (List.getElem?_eq_some_iff.mp qe).2
                    rw [this]
                  rw [ed1] at hl6
                  unfold lc2I at hl6
                  obtain ⟨g3, g4⟩ := w4 d1 qe
                  refine .inr ⟨g3, fun H7 => ∃ F7 s9 acc7 accD7 rest7, Stt K g O F7 H7 (L2.wipe σ4 vs1) (wipeE en vs1) s9 ∧ Stt K g O F7 H7 (L2.wipe σ vs) (wipeE env vs) s9 ∧ Go g.ft F H F7 H7 ∧ Same F5 F7 ∧ F7 D = none ∧ H7 D = some (.lst acc7) ∧ Reps K F7 acc7 accD7 ∧
                    lc2I st1 tt1 te (wipeE en vs1) (ds1.drop (a + 1)) s9 = some (rest7, s6) ∧ accD7 ++ rest7 = accD ++ yi, fun H7 h7 => ⟨ds1.length - (a + 1), by omega, rfl, h7⟩, fun x7 H7 y7 => ?_⟩
                  obtain ⟨F7, x7', b7, r7⟩ := g4 x7 H7 y7
                  have st7 := st6.step x7' b7
                  have sz7 := sz6.step x7' b7
                  have n7 : F7 D = none := keepsD x7' n6 e6
                  have e7 : H7 D = some (.lst acc6) := x7'.ext D _ e6 nft
                  have go7 : Go g.ft F H F7 H7 := go6.trans x7' st6.bs
                  split at hl6
                  · cases hl6
                  · rename_i en1 q8
                    refine hw1 _ _ _ _ (hT1 _ _ _ _ ⟨g, F7, wipeE en vs1, s8, d1, en1, st7, r7, q8, fun σ8 st8 _ => ?_⟩)
                    split at hl6
                    · rename_i s10 q10
                      refine ⟨g, F7, en1, s8, true, s10, st8, q10, fun F9 H9 x9 b9 => ?_⟩
                      refine iteT ?_
                      split at hl6
                      · rename_i yv s11 q11
                        split at hl6
                        · rename_i r12 s12 q12
                          cases hl6
                          refine ⟨g, F9, en1, s10, yv, s11, st8.step x9 b9, q11, fun v F10 H10 x10 b10 r10 => ?_⟩
                          have x910 := x9.trans x10 b9
                          have e10 : H10 D = some (.lst acc6) := x910.ext D _ e7 nft
                          have n10 : F10 D = none := keepsD x910 n7 e7
                          have lz : acc6.length < sizeLine := by
                            rw [r6.length]
                            have z1 : (accD6 ++ yv :: r12).length ≤ sizeLine := by
                              rw [ha6]
                              have z2 : (accD ++ (yi ++ rr)).length ≤ sizeLine := by rw [ha]; exact hz
                              rw [List.length_append, List.length_append] at z2
                              rw [List.length_append]
                              omega
                            rw [List.length_append, List.length_cons] at z1
                            omega
                          refine ⟨acc6, e10, lz, F10, s11, acc6 ++ [v], accD6 ++ [yv], r12, (st7.step x910 b10).apart n10 nft nhe nO4, (sz7.step x910 b10).apart n10 nft nhe nO, ?_, (sm6.trans x7'.sam).trans x910.sam, n10, upd_same, ?_, q12, by rw [← ha6, List.append_assoc]; rfl⟩
                          · have go10 : Go g.ft F H F10 H10 := go7.trans x910 st7.bs
                            exact ⟨fun c u e nc => by rw [upd_ne (ne_of_none e nH)]; exact go10.ext c u e nc, go10.sam, go10.new⟩
                          · exact (Reps.mono (x7'.sam.trans x910.sam) _ _ r6).snoc r10
                        · cases hl6
                      · cases hl6
                    · rename_i s10 q10
                      refine ⟨g, F7, en1, s8, false, s10, st8, q10, fun F9 H9 x9 b9 => ?_⟩
                      refine iteF ?_
                      exact ⟨F9, s10, acc6, accD6, rest6, st7.step x9 b9, sz7.step x9 b9, go7.trans x9 st7.bs, (sm6.trans x7'.sam).trans x9.sam, keepsD x9 n7 e7, x9.ext D _ e7 nft, Reps.mono (x7'.sam.trans x9.sam) _ _ r6, hl6, ha6⟩
                    · cases hl6
              · cases hl
            · cases hl
          · cases hl
    · cases hf
  · cases hf
end
end DL

namespace DL
open PySem PySem.Spec PyProof.Rows L2

section
variable {X : Cx} {O : List Nat} {elt tg iter tg1 iter1 : Expr} {ifs1 : List Expr} {scope : Scope} {own : List (Str × Nat)} {pos : Pos} {fi fi1 : Fi} {tt1 : Ft} {te : Fe}
theorem n_lc2 {i i1 : Nat} (hc : X.calm = true) (hN : X.N.Nodup) (hi : PI X tg iter (tI X.K O fi)) (ok : BlkOk X.N X.env.scope scope own)
    (hg : ∀ (s : Shared) (H : Hp) (C : Addr) (cl : List (Str × Addr)) (fp : List Addr), PG (X.blk s H scope (compEnvC scope cl C X.env) fp) tg (gName i))
    (hi1 : ∀ (s : Shared) (H : Hp) (C : Addr) (cl : List (Str × Addr)) (fp : List Addr), PI (X.blk s H scope (compEnvC scope cl C X.env) fp) tg1 iter1 (tI X.K O fi1))
    (hg1 : ∀ (s : Shared) (H : Hp) (C : Addr) (cl : List (Str × Addr)) (fp : List Addr), PG (X.blk s H scope (compEnvC scope cl C X.env) fp) tg1 (gName i1))
    (ht1 : ∀ (s : Shared) (H : Hp) (C : Addr) (cl : List (Str × Addr)) (fp : List Addr), PTs (X.blk s H scope (compEnvC scope cl C X.env) fp) ifs1 (tT X.K O tt1))
    (he : ∀ (s : Shared) (H : Hp) (C : Addr) (cl : List (Str × Addr)) (fp : List Addr), PE (X.blk s H scope (compEnvC scope cl C X.env) fp) elt (tD X.K O te))
    (hv : ∀ j, j ∈ own.map (·.2) → j ∉ O := by decide) (hm : i ∈ own.map (·.2) := by decide) (hm1 : i1 ∈ own.map (·.2) := by decide)
    (hs : ∀ x, foldedSetIterable iter X.env x = pure x := by intro _; rfl) (hs1 : ∀ env x, foldedSetIterable iter1 env x = pure x := by intro _ _; rfl) :
    PE X (.ListComp elt [⟨tg, iter, [], 0⟩, ⟨tg1, iter1, ifs1, 0⟩] scope pos) (tN X.K O (lc2F fi (tgN i) fi1 (tgN i1) tt1 te (own.map (·.2)) [i1])) :=
  pe_imp (pe_lc2 (vs1 := [i1]) hc hN hi ok (fun j hj => by rw [List.mem_singleton.mp hj]; exact hm1) hg (fun _ _ _ _ _ => pts_nil) hi1 hg1 ht1 he hs hs1)
    (lc2_n hv (fun j hj => by rw [List.mem_singleton.mp hj]; exact hm1) (nameT (hv i hm)) (fun v σ H Q h => ⟨wipe_set _ _ hm (wipe_wipe _ _), h⟩) (nameT (hv i1 hm1)) (fun v σ H Q h => ⟨wipe_set _ _ List.mem_cons_self (wipe_wipe _ _), h⟩))
end

def lstAt (env : Env) (i : Nat) : Option (List Dt) := match env[i]? with
  | some (some (.lst ds)) => some ds
  | _ => none
def dctAt (env : Env) (i : Nat) : Option (List (Key × Dt)) := match env[i]? with
  | some (some (.dct ds)) => some ds
  | _ => none
theorem lstAt_some {env : Env} {i : Nat} {ds : List Dt} (h : lstAt env i = some ds) : env[i]? = some (some (.lst ds)) := by
  unfold lstAt at h
  split at h
  · rename_i q; cases h; exact q
  · cases h
theorem dctAt_some {env : Env} {i : Nat} {ds : List (Key × Dt)} (h : dctAt env i = some ds) : env[i]? = some (some (.dct ds)) := by
  unfold dctAt at h
  split at h
  · rename_i q; cases h; exact q
  · cases h
def appS (i : Nat) (f : Fe) : Fs := fun env s => match f env s, lstAt env i with
  | some (d, s'), some ds => if ds.length < sizeLine then some (.nx (env.set i (some (.lst (ds ++ [d])))), s') else none
  | _, _ => none
def dputS (i : Nat) (fk fv : Fe) : Fs := fun env s => match fv env s with
  | some (v, s1) => match fk env s1, dctAt env i with
    | some (k, s2), some ks => match keyOf k with
      | some key => if ks.length < sizeLine then some (.nx (env.set i (some (.dct (putD ks key v)))), s2) else none
      | none => none
    | _, _ => none
  | none => none
def hputS (i : Nat) (fk fv : Fe) : Fs := fun env s => match fv env s with
  | some (v, s1) => match fk env s1, env[i]? with
    | some (k, s2), some (some (.ref a)) => match keyOf k, s2.lookup a with
      | some key, some (.dct ks) => if ks.length < sizeLine then some (.nx env, s2.map fun q => if q.1 = a then (a, .dct (putD ks key v)) else q) else none
      | _, _ => none
    | _, _ => none
  | none => none
section
variable {X : Cx} {L O : List Nat} {call e : Expr} {i j : Nat} {f fk fv : Fe} {pos : Pos}
theorem s_app (h : PE X call (tBM X.K "list" rAppend (tVar i) (tCons (tD X.K O f) tNil))) (hi : i ∈ O := by decide) (hs : swapsWith call none pos.line X.env = pure false := by rfl) : PS X (.Expr call pos) (tS X.K L O O (appS i f)) := ps_imp (ps_expr h hs) fun D σ H ⟨g, F, env, s, out, s', st, hf, k⟩ => by
  unfold appS at hf
  split at hf
  · rename_i d s1 ds q1 q2
    split at hf <;> cases hf
    rename_i hl
    obtain ⟨p, o, d0, e1, e2, e3, r, n, nf, nh⟩ := st.sl.ow i hi
    rw [lstAt_some q2] at e2
    cases e2
    cases r with
    | lst r =>
      rename_i vs
      refine ⟨.ref p, e1, .inl ⟨rfl, vs, SqL.of e3⟩, g, F, env, s, d, _, st, q1, fun v F1 H1 x1 b1 r1 => ?_⟩
      have st1 := st.step x1 b1
      have e4 : H1 p = some (.lst vs) := x1.ext p _ e3 nf
      refine ⟨p, vs, v, rfl, rfl, e4, by rw [r.length]; exact hl, ?_⟩
      exact k σ _ F1 x1.sam (st1.change hi e1 e4 (.lst ((Reps.mono x1.sam _ _ r).snoc r1)))
  · cases hf
theorem s_dput {o : Expr} {ix : Expr} {pos' : Pos} (h : PS X (.Assign [.Subscript o ix pos'] e pos) (sDPut (tVar i) (tB X.K O fk) (tD X.K O fv))) (hi : i ∈ O := by decide) : PS X (.Assign [.Subscript o ix pos'] e pos) (tS X.K L O O (dputS i fk fv)) := ps_imp h fun D σ H ⟨g, F, env, s, out, s', st, hf, k⟩ => by
  unfold dputS at hf
  split at hf
  · rename_i v s1 q1
    split at hf
    · rename_i kd s2 ks q2 q3
      split at hf
      · rename_i key q4
        split at hf <;> cases hf
        rename_i hl
        refine ⟨g, F, env, s, v, s1, st, q1, fun u F1 H1 x1 b1 r1 => ?_⟩
        have st1 := st.step x1 b1
        obtain ⟨p, o, d0, e1, e2, e3, r, n, nf, nh⟩ := st1.sl.ow i hi
        rw [dctAt_some q3] at e2
        cases e2
        cases r with
        | dct r =>
          rename_i vs
          refine ⟨.ref p, e1, g, F1, env, s1, kd, _, st1, q2, fun w F2 H2 x2 b2 r2 => ?_⟩
          have st2 := st1.step x2 b2
          have e4 : H2 p = some (.dK vs) := x2.ext p _ e3 nf
          obtain rfl := keyOf_V r2 q4
          refine ⟨p, _, rfl, DPut.k e4 (by rw [r.length]; exact hl), ?_⟩
          exact k σ _ F2 (x1.sam.trans x2.sam) (st2.change hi e1 e4 (.dct (Repk.put key (Rep.mono x2.sam _ _ r1) (Repk.mono x2.sam _ _ r))))
      · cases hf
    · cases hf
  · cases hf
theorem lookup_ft {K : PySem.W.Frag} {ft : List Addr} {F H : Hp} {s : Sto} {a : Addr} {d : Dt} (b : Bs K ft F H s) (h : s.lookup a = some d) : a ∈ ft := by
  rw [← b.ad]
  exact List.mem_map_of_mem (lookup_mem h)
theorem s_hput {o : Expr} {ix : Expr} {pos' : Pos} (h : PS X (.Assign [.Subscript o ix pos'] e pos) (sDPut (tVar i) (tB X.K O fk) (tD X.K O fv))) (hi : i ∉ O := by decide) : PS X (.Assign [.Subscript o ix pos'] e pos) (tS X.K L O O (hputS i fk fv)) := ps_imp h fun D σ H ⟨g, F, env, s, out, s', st, hf, k⟩ => by
  unfold hputS at hf
  split at hf
  · rename_i v s1 q1
    split at hf
    · rename_i kd s2 a q2 q3
      split at hf
      · rename_i key ks q4 q5
        split at hf <;> cases hf
        rename_i hl
        refine ⟨g, F, env, s, v, s1, st, q1, fun u F1 H1 x1 b1 r1 => ?_⟩
        have st1 := st.step x1 b1
        obtain ⟨va, e1, ra⟩ := st1.sl.pu i _ hi q3
        cases ra
        refine ⟨.ref a, e1, g, F1, env, s1, kd, s2, st1, q2, fun w F2 H2 x2 b2 r2 => ?_⟩
        have st2 := st1.step x2 b2
        obtain ⟨ob, e4, r4⟩ := b2.st _ _ (lookup_mem q5)
        cases r4 with
        | dct r4 =>
          obtain rfl := keyOf_V r2 q4
          refine ⟨a, _, rfl, DPut.k e4 (by rw [r4.length]; exact hl), ?_⟩
          exact k σ _ F2 (x1.sam.trans x2.sam) (st2.put (lookup_ft b2 q5) (.dct (Repk.put key (Rep.mono x2.sam _ _ r1) r4)))
      · cases hf
    · cases hf
  · cases hf
end

def tX (m : Bool) (K : PySem.W.Frag) (O : List Nat) (f : Fe) : TE := if m then tN K O f else tD K O f
def ownX (m : Bool) (O : List Nat) (i : Nat) : List Nat := if m then i :: O else O.filter fun j => decide (j ≠ i)
def Hand (K : PySem.W.Frag) (g : Gd) (O : List Nat) (F H : Hp) (σ : L2.St) (m : Bool) (v : V) (d : Dt) : Prop := if m then ∃ p o, v = .ref p ∧ H p = some o ∧ ObR K F o d ∧ F p = none ∧ p ∉ g.ft ∧ g.he p = none ∧ ∀ j, j ∈ O → σ[j]? ≠ some (some (.ref p)) else Rep K F v d
theorem Stt.setX {K : PySem.W.Frag} {g : Gd} {O : List Nat} {F H : Hp} {σ : L2.St} {env : Env} {s : Sto} {i : Nat} {m : Bool} {v : V} {d : Dt} (h : Stt K g O F H σ env s) (r : Hand K g O F H σ m v d) (hl : i < env.length) : Stt K g (ownX m O i) F H (σ.set i (some v)) (env.set i (some d)) s := by
  cases m with
  | false =>
    refine h.setD (show Rep K F v d from r) (fun j hj => ?_) fun j hj c => ?_
    · have := List.mem_filter.mp (show j ∈ O.filter fun j => decide (j ≠ i) from hj)
      exact ⟨this.1, of_decide_eq_true this.2⟩
    · exact List.mem_filter.mpr ⟨hj, decide_eq_true c⟩
  | true =>
    obtain ⟨p, o, rfl, e, r, n, nf, nh, no⟩ := (show ∃ p o, v = .ref p ∧ H p = some o ∧ ObR K F o d ∧ F p = none ∧ p ∉ g.ft ∧ g.he p = none ∧ ∀ j, j ∈ O → σ[j]? ≠ some (some (.ref p)) from r)
    exact h.setN hl e r n nf nh (fun j hj _ => no j hj) (fun j hj => List.mem_cons.mp hj) (fun j hj => List.mem_cons_of_mem _ hj) List.mem_cons_self
theorem Hand.step {K : PySem.W.Frag} {g : Gd} {O : List Nat} {F H F' H' : Hp} {σ : L2.St} {m : Bool} {v : V} {d : Dt} (h : Hand K g O F H σ m v d) (x : Go g.ft F H F' H') : Hand K g O F' H' σ m v d := by
  cases m with
  | false => exact Rep.mono x.sam _ _ (show Rep K F v d from h)
  | true =>
    obtain ⟨p, o, rfl, e, r, n, nf, nh, no⟩ := (show ∃ p o, v = .ref p ∧ H p = some o ∧ ObR K F o d ∧ F p = none ∧ p ∉ g.ft ∧ g.he p = none ∧ ∀ j, j ∈ O → σ[j]? ≠ some (some (.ref p)) from h)
    exact ⟨p, o, rfl, x.ext p o e nf, r.mono x.sam, keepsD x n e, nf, nh, no⟩
theorem tX_hand {K : PySem.W.Frag} {g : Gd} {O : List Nat} {F H : Hp} {σ : L2.St} {env : Env} {s s' : Sto} {m : Bool} {f : Fe} {d : Dt} {Q : VK} (st : Stt K g O F H σ env s) (hf : f env s = some (d, s'))
    (k : ∀ v F' H', Go g.ft F H F' H' → Bs K g.ft F' H' s' → Hand K g O F' H' σ m v d → (m = true → ∃ p, v = .ref p ∧ H p = none) → Q v H') : tX m K O f σ H Q := by
  cases m with
  | false => exact ⟨g, F, env, s, d, s', st, hf, fun v F' H' x b r => k v F' H' x b r fun z => nomatch z⟩
  | true =>
    refine ⟨g, F, env, s, d, s', st, hf, fun p o F' H' x b n n' e r => k (.ref p) F' H' x b ⟨p, o, rfl, e, r, n', st.bs.nofree n, st.go.free st.bs n, fun j hj ej => ?_⟩ fun _ => ⟨p, rfl, n⟩⟩
    obtain ⟨p2, o2, d2, g1, _, g3, _⟩ := st.sl.ow j hj
    rw [ej] at g1; cases g1
    rw [n] at g3; cases g3
theorem Hand.beside {K : PySem.W.Frag} {g : Gd} {O : List Nat} {F H : Hp} {σ : L2.St} {m m' : Bool} {v w : V} {e : Dt} {i : Nat} (h : Hand K g O F H σ m w e) (hne : m = true → m' = true → v ≠ w) (hi : i < σ.length) :
    Hand K g (ownX m' O i) F H (σ.set i (some v)) m w e := by
  cases m with
  | false => exact h
  | true =>
    obtain ⟨p, o, rfl, eo, r, n, nf, nh, no⟩ := (show ∃ p o, w = .ref p ∧ H p = some o ∧ ObR K F o e ∧ F p = none ∧ p ∉ g.ft ∧ g.he p = none ∧ ∀ j, j ∈ O → σ[j]? ≠ some (some (.ref p)) from h)
    refine ⟨p, o, rfl, eo, r, n, nf, nh, fun j hj ej => ?_⟩
    cases m' with
    | false =>
      have hj' := List.mem_filter.mp (show j ∈ O.filter fun j => decide (j ≠ i) from hj)
      have c : j ≠ i := of_decide_eq_true hj'.2
      rw [List.getElem?_set_ne (Ne.symm c)] at ej
      exact no j hj'.1 ej
    | true =>
      by_cases c : j = i
      · subst c
        rw [List.getElem?_set_self hi] at ej
        cases ej
        exact hne rfl rfl rfl
      · rw [List.getElem?_set_ne (Ne.symm c)] at ej
        exact no j ((List.mem_cons.mp hj).elim (fun z => absurd z c) fun z => z) ej
def par2S (i j : Nat) (f1 f2 : Fe) : Fs := fun env s => if i < env.length ∧ j < env.length then match f1 env s with
  | some (x, s1) => match f2 env s1 with
    | some (y, s2) => some (.nx ((env.set i (some x)).set j (some y)), s2)
    | none => none
  | none => none
  else none
theorem s_par2 {X : Cx} {L O : List Nat} {st : Stmt} {i j : Nat} {f1 f2 : Fe} (m1 m2 : Bool) (h : PS X st (tPar i j (tCons (tX m1 X.K O f1) (tCons (tX m2 X.K O f2) tNil)))) (O' : List Nat)
    (h1 : ∀ a, a ∈ O' → a ∈ ownX m2 (ownX m1 O i) j := by decide) : PS X st (tS X.K L O O' (par2S i j f1 f2)) := ps_imp (ps_lkout h) fun D σ H ⟨g, F, env, s, out, s', stt, hf, k⟩ => by
  unfold par2S at hf
  split at hf
  · rename_i hl
    split at hf
    · rename_i x s1 q1
      split at hf
      · rename_i y s2 q2
        cases hf
        refine tX_hand stt q1 fun v F1 H1 x1 b1 r1 z1 => ?_
        have st1 := stt.step x1 b1
        refine tX_hand st1 q2 fun w F2 H2 x2 b2 r2 z2 => ⟨v, w, rfl, ?_⟩
        have st2 := st1.step x2 b2
        have r1' := r1.step x2
        have a1 := st2.setX r1' hl.1
        have hi : i < σ.length := by rw [stt.sl.len]; exact hl.1
        have r2' : Hand X.K g (ownX m1 O i) F2 H2 (σ.set i (some v)) m2 w y := r2.beside (fun e2 e1 => by
          obtain ⟨p2, rfl, n2⟩ := z2 e2
          subst e1
          obtain ⟨p1, o1, rfl, e1, _⟩ := (show ∃ p o, v = .ref p ∧ H1 p = some o ∧ ObR X.K F1 o x ∧ F1 p = none ∧ p ∉ g.ft ∧ g.he p = none ∧ ∀ j, j ∈ O → σ[j]? ≠ some (some (.ref p)) from r1)
          intro z
          cases z
          rw [n2] at e1; cases e1) hi
        have a2 := a1.setX r2' (by rw [List.length_set]; exact hl.2)
        exact a2.weak h1 fun F3 H3 sm st3 => k _ H3 F3 ((x1.sam.trans x2.sam).trans sm) st3
      · cases hf
    · cases hf
  · cases hf
def unpS (i j : Nat) (f : Fe) : Fs := fun env s => match f env s with
  | some (.lst [x, y], s') => some (.nx ((env.set i (some x)).set j (some y)), s')
  | some (.tup [x, y], s') => some (.nx ((env.set i (some x)).set j (some y)), s')
  | _ => none
section
variable {X : Cx} {L O O' : List Nat} {e : Expr} {tg : Expr} {i j : Nat} {f : Fe} {pos : Pos}
theorem ps_or {st : Stmt} {t t' : TS} (h : PS X st t) (h' : PS X st t') : PS X st (fun D σ H => t D σ H ∨ t' D σ H) := ⟨fun pins s σ H D I q => q.elim (h.run pins s σ H D I) (h'.run pins s σ H D I)⟩
theorem s_unp (h : PS X (.Assign [tg] e pos) (tAsg (tD X.K O f) (gUnl X.K 2 (gCons (gName i) (gCons (gName j) gNil))))) (h' : PS X (.Assign [tg] e pos) (tAsg (tD X.K O f) (gTup X.K 2 (gCons (gName i) (gCons (gName j) gNil)))))
    (h1 : ∀ a, a ∈ O' → a ∈ O ∧ a ≠ i ∧ a ≠ j := by decide) : PS X (.Assign [tg] e pos) (tS X.K L O O' (unpS i j f)) := ps_imp (ps_lkout (ps_or h h')) fun D σ H ⟨g, F, env, s, out, s', st, hf, k⟩ => by
  have key : ∀ F1 H1 x y v w, Go g.ft F H F1 H1 → Bs X.K g.ft F1 H1 s' → Rep X.K F1 v x → Rep X.K F1 w y → out = .nx ((env.set i (some x)).set j (some y)) → Lk (D.nx ((σ.set i (some v)).set j (some w))) H1 := fun F1 H1 x y v w x1 b1 r1 r2 eo => by
    subst eo
    have st1 := st.step x1 b1
    have a1 := st1.setD (O' := O.filter fun a => decide (a ≠ i)) r1 (fun a ha => by
      have := List.mem_filter.mp ha
      exact ⟨this.1, of_decide_eq_true this.2⟩) fun a ha c => List.mem_filter.mpr ⟨ha, decide_eq_true c⟩
    have a2 := a1.setD (O' := (O.filter fun a => decide (a ≠ i)).filter fun a => decide (a ≠ j)) r2 (fun a ha => by
      have := List.mem_filter.mp ha
      exact ⟨this.1, of_decide_eq_true this.2⟩) fun a ha c => List.mem_filter.mpr ⟨ha, decide_eq_true c⟩
    exact a2.weak (O' := O') (fun a ha => by
      obtain ⟨z1, z2, z3⟩ := h1 a ha
      exact List.mem_filter.mpr ⟨List.mem_filter.mpr ⟨z1, decide_eq_true z2⟩, decide_eq_true z3⟩) fun F3 H3 sm st3 => k _ H3 F3 (x1.sam.trans sm) st3
  unfold unpS at hf
  split at hf
  · rename_i x y s1 q
    cases hf
    refine .inl ⟨g, F, env, s, _, _, st, q, fun v F1 H1 x1 b1 r1 => ?_⟩
    cases r1 with
    | lst e1 rs =>
      cases rs with
      | cons r1 t1 =>
        cases t1 with
        | cons r2 t2 =>
          cases t2
          exact ⟨_, _, rfl, SqL.of (b1.sub _ _ e1), rfl, _, _, rfl, _, _, rfl, rfl, key F1 H1 x y _ _ x1 b1 r1 r2 rfl⟩
  · rename_i x y s1 q
    cases hf
    refine .inr ⟨g, F, env, s, _, _, st, q, fun v F1 H1 x1 b1 r1 => ?_⟩
    cases r1 with
    | tup e1 hp rs =>
      cases rs with
      | cons r1 t1 =>
        cases t1 with
        | cons r2 t2 =>
          cases t2
          exact ⟨_, _, rfl, sqT_same b1.sub e1, rfl, _, _, rfl, _, _, rfl, rfl, key F1 H1 x y _ _ x1 b1 r1 r2 rfl⟩
  · cases hf
end
end DL

namespace DL
open PySem PySem.Spec PyProof.Rows L2

structure FnG (P : Program) (w : World) (K : PySem.W.Frag) (mg : Str → Option Value) (base : Heap) (k : Nat) (f : Addr) (fd : FuncData) (ps : List Str) (sp : Sp) : Prop where
  len : ∀ vs H Q E, sp vs H Q E → vs.length = ps.length
  run : ∀ (A : Around) (outer : List PySem.Env) (s : Shared) (H : Hp) (args : Args) (us : List Value) (vs : List V) (Q : VK) (E : XK), Room k A → A.guards = some [] →
    Env0 P w K mg base A outer s H → BindsTo s fd args (ps.zip us) → Vals vs us → sp vs H Q E → codeAny (model P w) A (.call (.ref f) args) (CR CX0 outer P w H s Q E) s
section
variable {P : Program} {w : World} {K : PySem.W.Frag} {mg : Str → Option Value} {base : Heap}
theorem fnG_of {k : Nat} {f : Addr} {name qual : Str} {params : Arguments} {body : List Stmt} {scope : Scope} {dV kV doc pm cdv ct oc : Value} {an od : Option Addr} {osl : Array (Option Value)} {N ps : List Str} {sp : Sp}
    (lk : K.lookup f = some ⟨oc, od, .func (PySem.W.fnOf name qual params body scope dV kV doc pm an cdv ct), osl⟩) (hcode : PySem.W.codeIn K cdv qual = true) (S : FnScope N ps scope) (hlen : ∀ vs H Q E, sp vs H Q E → vs.length = ps.length)
    (hb : ∀ (A : Around) (outer : List PySem.Env) (s : Shared) (H : Hp) (vs : List V) (Q : VK) (E : XK), Room k (A.deeper (envOfC qual scope s.heap.objs.size f cdv)) → A.guards = some [] → sp vs H Q E →
      ∃ t, PSs (cxOf CX0 P w K mg base N qual scope f cdv A outer s H E) body t ∧ t { nx := fun _ H' => Q .non H', rt := Q } (L2.start N vs) H) :
    FnG P w K mg base (k + 1) f (PySem.W.fnOf name qual params body scope dV kV doc pm an cdv ct) ps sp where
  len := hlen
  run := by
    intro A outer s H args us vs Q E room gds env bnd rel want
    have old : ∀ b o, base.get? b = some o → s.heap.get? b = some o := fun b o z => (env.bs b o z).1
    have inK : K.In s.heap := env.mod.kin.keeps old
    have noLim : s.heap.NoLimit := env.mod.nolimit.keeps old
    refine codeAny_call_function room.depth (inK _ _ lk) rfl S.co S.gen rfl (PySem.W.codeRec_of inK hcode) (bnd _ _ _ _ ?_)
    refine wpAny_newFunctionEnv_cells S.kind (fun ⟨n, v⟩ hy => ?_) fun env' he s1 made => ?_
    · rcases S.par n (List.of_mem_zip hy).1 with q | q
      · exact .inl q
      · exact .inr ⟨q, PySem.W.cellsFrom_some _ _ _ (.inl q)⟩
    · subst he
      refine ⟨noLim.keeps made.toInCall.keep, codeAny_func ?_⟩
      obtain ⟨t, ht, hq⟩ := hb A outer s H vs Q E (room.deeper _) gds want
      have I := inv_start (CX := CX0) (E := E) S room.hd env (hlen _ _ _ _ want) rel made
      refine wpAny_mono (ht.run [] s1 (L2.start N vs) H _ I hq) ?_ fun _ _ z => z
      intro fl s' hs
      cases fl with
      | ret u =>
        obtain ⟨v, σ', H', J, rv, q⟩ := hs
        exact ⟨v, H', J.os, J.bare, J.base, J.hok, rv, q⟩
      | next =>
        obtain ⟨σ', H', J, q⟩ := hs
        exact ⟨.non, H', J.os, J.bare, J.base, J.hok, rfl, q⟩
      | brk => exact hs.elim fun _ z => z.elim fun _ z => z.2.elim
      | cont => exact hs.elim fun _ z => z.elim fun _ z => z.2.elim
theorem okG {x qual : Str} {st : Stmt} {f : Addr} {fd : FuncData} {N ps : List Str} {k : Nat} {sp : Sp} (F : L2.Fun K x qual st f fd) (S : FnScope N ps (defScope st)) (hlen : ∀ vs H Q E, sp vs H Q E → vs.length = ps.length)
    (hb : ∀ (cdv : Value) (A : Around) (outer : List PySem.Env) (s : Shared) (H : Hp) (vs : List V) (Q : VK) (E : XK), Room k (A.deeper (envOfC qual (defScope st) s.heap.objs.size f cdv)) → A.guards = some [] → sp vs H Q E →
      ∃ t, PSs (cxOf CX0 P w K mg base N qual (defScope st) f cdv A outer s H E).nox (defBody st) t ∧ t { nx := fun _ H' => Q .non H', rt := Q } (L2.start N vs) H) : FnG P w K mg base (k + 1) f fd ps sp := by
  obtain ⟨oc, od, kV, doc, pm, an, cdv, ct, osl, rfl, lk, hc⟩ := F.ex
  exact fnG_of lk hc S hlen fun A outer s H vs Q E hr hg want =>
    let ⟨t, h, q⟩ := hb cdv A outer s H vs Q E hr hg want
    ⟨t, h.nox, q⟩
end

def spF (K : PySem.W.Frag) (n : Nat) (Fn : List Dt → Sto → Option (Dt × Sto)) : Sp := fun vs H Q _ => ∃ ft F s ds d s', vs.length = n ∧ Bs K ft F H s ∧ Reps K F vs ds ∧ Fn ds s = some (d, s') ∧
  ∀ v F' H', Go ft F H F' H' → Bs K ft F' H' s' → Rep K F' v d → Q v H'
def fnV (m : Nat) (F : Fs) : List Dt → Sto → Option (Dt × Sto) := fun ds s => match F (ds.map some ++ List.replicate (m - ds.length) none) s with
  | some (.rt d, s') => some (d, s')
  | some (.nx _, s') => some (.non, s')
  | _ => none
theorem start_stt {K : PySem.W.Frag} {ft : List Addr} {F H : Hp} {s : Sto} {vs : List V} {ds : List Dt} {N : List Str} (b : Bs K ft F H s) (r : Reps K F vs ds) : Stt K ⟨ft, H, F⟩ [] F H (L2.start N vs) (ds.map some ++ List.replicate (N.length - ds.length) none) s := by
  refine ⟨b, ⟨?_, fun i d _ e => ?_, fun i hi => absurd hi List.not_mem_nil, fun i j p hi => absurd hi List.not_mem_nil⟩, Go.refl⟩
  · unfold L2.start
    simp only [List.length_append, List.length_map, List.length_replicate, r.length]
  · unfold L2.start
    by_cases hi : i < ds.length
    · rw [List.getElem?_append_left (by rw [List.length_map]; exact hi), List.getElem?_map] at e
      cases q : ds[i]? with
      | none => rw [q] at e; cases e
      | some d' =>
        rw [q] at e
        cases e
        obtain ⟨v, e1, r1⟩ := r.get q
        refine ⟨v, ?_, r1⟩
        rw [List.getElem?_append_left (by rw [List.length_map, r.length]; exact hi), List.getElem?_map, e1]
        rfl
    · rw [List.getElem?_append_right (by rw [List.length_map]; omega), List.getElem?_replicate] at e
      split at e <;> cases e
section
variable {P : Program} {w : World} {K : PySem.W.Frag} {mg : Str → Option Value} {base : Heap}
theorem okF {x qual : Str} {st : Stmt} {f : Addr} {fd : FuncData} {N ps : List Str} {k m : Nat} {Fb : Fs} {O' : List Nat} (F : L2.Fun K x qual st f fd) (S : FnScope N ps (defScope st)) (hm : N.length = m)
    (hb : ∀ X : Cx, X.K = K → X.mg = mg → X.prog = P → X.w = w → X.base = base → X.N = N → X.calm = true → (∀ y, X.fn y = true) → (∃ cdv L A outer s H E, X = (cxOf CX0 P w K mg base N qual (defScope st) f cdv A outer s H E).nox ∧ L = s.heap.objs.size) → Room k X.A → X.A.guards = some [] → PSs X (defBody st) (tS K [] [] O' Fb)) :
    FnG P w K mg base (k + 1) f fd ps (spF K ps.length (fnV m Fb)) := by
  refine okG F S (fun vs H Q E ⟨_, _, _, _, _, _, h, _⟩ => h) fun cdv A outer s H vs Q E hr hg ⟨ft, F0, s0, ds, d, s', hl, b, r, hv, k0⟩ => ?_
  refine ⟨_, hb _ rfl rfl rfl rfl rfl rfl rfl (fun _ => rfl) ⟨cdv, _, A, outer, s, H, E, rfl, rfl⟩ hr hg, ?_⟩
  unfold fnV at hv
  rw [← hm] at hv
  split at hv
  · rename_i q
    cases hv
    exact ⟨⟨ft, H, F0⟩, F0, _, s0, _, _, start_stt b r, q, fun v H' F' b' x' r' => k0 v F' H' x' b' r'⟩
  · rename_i q
    cases hv
    exact ⟨⟨ft, H, F0⟩, F0, _, s0, _, _, start_stt b r, q, fun σ' H' F' _ st' => k0 .non F' H' st'.go st'.bs .non⟩
  · cases hv
end

def callF (Fn : List Dt → Sto → Option (Dt × Sto)) (fa : Fa) : Fe := fun env s => match fa env s with
  | some (ds, s1) => Fn ds s1
  | none => none
section
variable {X : Cx} {O : List Nat} {k n : Nat} {f : Addr} {fd : FuncData} {ps ks : List Str} {x : Str} {p pos kpos : Pos} {e : Expr} {es : List Expr} {kws : List Keyword} {fa fk : Fa} {sp : Sp} {Fn : List Dt → Sto → Option (Dt × Sto)}
theorem run_g {pins : List (Addr × Obj)} {σ : L2.St} {H : Hp} {s : Shared} {Q : VK} {vs : List V} {us : List Value} {ar : Args} {os : List Value} {ok : List (Str × Value)} (F : FnG X.prog X.w X.K X.mg X.base k f fd ps sp) (hr : Room k X.A) (hg : X.A.guards = some [])
    (I : Inv X pins σ H s) (r : Vals vs us) (hb : (us.length = ps.length) → BindsTo s fd ⟨os, ok⟩ (ps.zip us)) (h : sp vs H Q E0) : wpAny (model X.prog X.w) X.A (call (.ref f) os ok) (EP X pins σ Q) X.xe s := by
  have hl : us.length = ps.length := by rw [← r.length]; exact F.len _ _ _ _ h
  refine wpAny_call (codeAny_mono (F.run X.A X.stack s H ⟨os, ok⟩ us vs Q E0 hr hg I.env0 (hb hl) r h) ?_)
  intro res s' hq
  match res, hq with
  | .error _, z => exact z.elim
  | .ok (.ret u), z => exact I.after z
  | .ok .next, z => exact False.elim z
  | .ok .brk, z => exact False.elim z
  | .ok .cont, z => exact False.elim z
theorem d_call (F : FnG X.prog X.w X.K X.mg X.base k f fd ps (spF X.K n Fn)) (hr : Room k X.A) (hgd : X.A.guards = some []) (hg : Gl X x) (hm : X.mg x = some (.ref f)) (hk : PySem.W.keepIn X.K (.ref f) = true) (hb : Binds X.K fd ps [])
    (ha : PA X (e :: es) (tAD X.K O fa)) (hn : n = es.length + 1) (hal : ∀ env s ds s', fa env s = some (ds, s') → ds.length = es.length + 1)
    (hdb : (x == ("__debug__" : Str)) = false := by decide) (he : starEach (e :: es) X.env = (false, eval e X.env) :: starEach es X.env := by rfl)
    (hpl : (backTo pos (starEach es X.env)).any (·.1) = false := by rfl) : PE X (.Call (.Name x p) (e :: es) [] pos) (tD X.K O (callF Fn fa)) := by
  refine ⟨fun pins s σ H Q I ⟨g, F0, env, s0, d, s', st, hf, kk⟩ => ?_⟩
  unfold callF at hf
  split at hf
  · rename_i ds s1 q
    refine wpAny_Call_Name_kw (ld_glob I hg hm ?_ hdb)
    refine PySem.W.callWith_K (h₀ := X.base) I.ok.mod.kin hk ?_ he hpl
    refine thn (ha.run pos pins s σ H (fun vs H1 => spF X.K n Fn vs H1 Q E0) I ⟨g, F0, env, s0, ds, s1, st, q, fun vs F1 H1 x1 b1 r1 => ?_⟩) ?_
    · exact ⟨g.ft, F1, s1, ds, d, s', by rw [r1.length, hal _ _ _ _ q, hn], b1, r1, hf, fun v F2 H2 x2 b2 r2 => kk v F2 H2 (x1.trans x2 b1) b2 r2⟩
    · rintro us s2 ⟨vs, H1, I1, rv, want⟩
      refine ⟨I1.kIn, run_g (ar := ⟨[], []⟩) F hr hgd I1 rv (fun hl => ?_) want⟩
      have z := hb s2 us I1.kIn (by rw [List.append_nil]; exact hl)
      rwa [List.append_nil] at z
  · cases hf
def permL {α : Type} (ix : List Nat) (xs : List α) : List α := ix.filterMap fun i => xs[i]?
theorem permL_vals (ix : List Nat) {vs : List V} {us : List Value} (r : Vals vs us) : Vals (permL ix vs) (permL ix us) := by
  induction ix with
  | nil => exact .nil
  | cons i ix ih =>
    unfold permL at ih ⊢
    cases q : vs[i]? with
    | none =>
      rw [List.filterMap_cons_none q, List.filterMap_cons_none (r.none_of q)]
      exact ih
    | some v =>
      obtain ⟨u, e, rv⟩ := r.get q
      rw [List.filterMap_cons_some q, List.filterMap_cons_some e]
      exact .cons rv ih
theorem permL_reps {K : PySem.W.Frag} {F : Hp} (ix : List Nat) {vs : List V} {ds : List Dt} (r : Reps K F vs ds) : Reps K F (permL ix vs) (permL ix ds) := by
  induction ix with
  | nil => exact .nil
  | cons i ix ih =>
    unfold permL at ih ⊢
    cases q : ds[i]? with
    | none =>
      have e : vs[i]? = none := by
        rw [List.getElem?_eq_none_iff] at q ⊢
        rw [r.length]; exact q
      rw [List.filterMap_cons_none q, List.filterMap_cons_none e]
      exact ih
    | some v =>
      obtain ⟨u, e, rv⟩ := r.get q
      rw [List.filterMap_cons_some q, List.filterMap_cons_some e]
      exact .cons rv ih
theorem pk_imp {t t' : TA} (h : PK X kws t) (k : ∀ σ H Q, t' σ H Q → t σ H Q) : PK X kws t' := ⟨fun pos pins s σ H Q I q => h.run pos pins s σ H Q I (k σ H Q q)⟩
theorem kd_nil : PK X [] (tAD X.K O aNil) := pk_imp pk_nil fun σ H Q ⟨g, F, env, s, ds, s', st, hf, k⟩ => by
  cases hf
  exact k [] F H Go.refl st.bs .nil
theorem kd_cons {nm : Option Str} {fe : Fe} (he : PE X e (tD X.K O fe)) (hr : PK X kws (tAD X.K O fk)) : PK X (⟨nm, e, kpos⟩ :: kws) (tAD X.K O (aCons fe fk)) := pk_imp (pk_cons he hr) fun σ H Q ⟨g, F, env, s, ds, s', st, hf, k⟩ => by
  obtain ⟨x, s1, xs, q1, q2, rfl⟩ := aCons_some hf
  exact ⟨g, F, env, s, x, s1, st, q1, fun v F1 H1 x1 b1 r1 => ⟨g, F1, env, s1, xs, s', st.step x1 b1, q2, fun vs F2 H2 x2 b2 r2 => k (v :: vs) F2 H2 (x1.trans x2 b1) b2 (.cons (Rep.mono x2.sam _ _ r1) r2)⟩⟩
theorem d_callK (F : FnG X.prog X.w X.K X.mg X.base k f fd ps (spF X.K n Fn)) (hr : Room k X.A) (hgd : X.A.guards = some []) (hg : Gl X x) (hm : X.mg x = some (.ref f)) (hk : PySem.W.keepIn X.K (.ref f) = true) (ix : List Nat)
    (hb : ∀ (s : Shared) (ws : List Value), ws.length = kws.length → BindsTo s fd ⟨[], ks.zip ws⟩ (ps.zip (permL ix ws)))
    (hkw : PK X kws (tAD X.K O fk)) (hal : ∀ env s ds s', fk env s = some (ds, s') → ds.length = kws.length) (hix : ∀ ds : List Dt, ds.length = kws.length → (permL ix ds).length = n)
    (hall : (backToKw pos (keywordEach kws X.env)).all (·.1.isSome) = true := by rfl) (hks : (backToKw pos (keywordEach kws X.env)).filterMap (·.1) = ks := by rfl)
    (hdb : (x == ("__debug__" : Str)) = false := by decide) (hpl : (backToKw pos (keywordEach kws X.env)).any (·.1.isNone) = false := by rfl) :
    PE X (.Call (.Name x p) [] kws pos) (tD X.K O (callF (fun ds s => Fn (permL ix ds) s) fk)) := by
  refine ⟨fun pins s σ H Q I ⟨g, F0, env, s0, d, s', st, hf, kk⟩ => ?_⟩
  unfold callF at hf
  split at hf
  · rename_i ds s1 q
    refine wpAny_Call_Name_kw (ld_glob I hg hm ?_ hdb)
    refine PySem.W.callWith_KW0 (h₀ := X.base) I.ok.mod.kin hk hall ?_ hpl
    refine thn (hkw.run pos pins s σ H (fun vs H1 => vs.length = kws.length ∧ spF X.K n Fn (permL ix vs) H1 Q E0) I ⟨g, F0, env, s0, ds, s1, st, q, fun vs F1 H1 x1 b1 r1 => ⟨by rw [r1.length]; exact hal _ _ _ _ q, ?_⟩⟩) ?_
    · have rp := permL_reps ix r1
      exact ⟨g.ft, F1, s1, permL ix ds, d, s', by rw [rp.length]; exact hix _ (hal _ _ _ _ q), b1, rp, hf, fun v F2 H2 x2 b2 r2 => kk v F2 H2 (x1.trans x2 b1) b2 r2⟩
    · rintro ws s2 ⟨vs, H1, I1, rv, hl, want⟩
      refine ⟨I1.kIn, ?_⟩
      rw [hks]
      exact run_g (ar := ⟨[], []⟩) F hr hgd I1 (permL_vals ix rv) (fun _ => hb s2 ws (by rw [← rv.length]; exact hl)) want
  · cases hf
end

mutual
def wt : Dt → Nat
  | .non => 4
  | .bl _ => 5
  | .int i => i.natAbs.log2 + 2
  | .str x => 10 * x.length + 2
  | .tup xs => wts xs + 3
  | .lst xs => wts xs + 2
  | _ => 4
def wts : List Dt → Nat
  | [] => 0
  | x :: xs => wt x + 2 + wts xs
end
theorem strOk_lt {x : Str} (h : PyData.strOk x = true) : ∀ c ∈ x.cps.toList, c < 16 ^ 8 := fun c hc => by
  unfold PyData.strOk at h
  rw [← Array.all_toList, List.all_eq_true] at h
  have := of_decide_eq_true (h c hc)
  omega
theorem app_len (a b : Str) : (a ++ b).length = a.length + b.length := by
  show (a.cps ++ b.cps).size = _
  rw [Array.size_append]; rfl
theorem textFrom_le : ∀ (ts : List Str) (k : Nat) (acc : Str), (textFrom k acc ts).length ≤ acc.length + (ts.map fun t => t.length + 2).sum
  | [], k, acc => by show acc.length ≤ _; simp
  | t :: r, k, acc => by
    have ih := textFrom_le r (k + 1) (acc ++ (if k > 0 then ", " else "" : String) ++ t)
    have e : (acc ++ (if k > 0 then ", " else "" : String) ++ t).length ≤ acc.length + 2 + t.length := by
      rw [app_len, app_len]
      have : (Str.ofString (if k > 0 then ", " else "" : String)).length ≤ 2 := by split <;> decide
      omega
    show (textFrom (k + 1) (acc ++ (if k > 0 then ", " else "" : String) ++ t) r).length ≤ _
    rw [List.map_cons, List.sum_cons]
    omega
theorem join_le : ∀ ts : List Str, (Str.join ", " ts).length ≤ (ts.map fun t => t.length + 2).sum
  | [] => by decide
  | [x] => by show x.length ≤ _; simp
  | x :: y :: r => by
    have ih := join_le (y :: r)
    show (x ++ ", " ++ Str.join ", " (y :: r)).length ≤ _
    rw [app_len, app_len, List.map_cons, List.sum_cons]
    have : ((", " : String) : Str).length = 2 := rfl
    omega
mutual
theorem shown_le : ∀ d : Dt, good d = true → (py d).shown.length ≤ wt d
  | .non, _ => by show (Str.ofString "None").length ≤ 4; decide
  | .bl b, _ => by cases b <;> (show (Str.ofString _).length ≤ 5; decide)
  | .int i, _ => by
    show (Str.ofString (toString i)).length ≤ i.natAbs.log2 + 2
    have h := int_text_length_le (a := i) (k := i.natAbs.log2 + 1) (by omega) (by omega)
    have e : (Str.ofString (toString i)).length = (toString i).length := by
      rw [Str.ofString_eq_toList]
      show ((toString i).toList.map Char.toNat).toArray.size = _
      rw [List.size_toArray, List.length_map, String.length_toList]
    omega
  | .str x, h => by
    show (reprText x).length ≤ 10 * x.length + 2
    exact StrLaws.reprText_len x (strOk_lt (by simpa only [good] using h))
  | .tup xs, h => by
    show (tupleText (PyData.shownAll (pys xs))).length ≤ wts xs + 3
    have ih := showns_le xs (by simpa only [good] using h)
    have j := join_le (PyData.shownAll (pys xs))
    unfold tupleText
    rw [app_len, app_len]
    have e1 : ((("(" : String) : Str)).length = 1 := rfl
    have e2 : (Str.ofString (if (PyData.shownAll (pys xs)).length == 1 then ",)" else ")" : String)).length ≤ 2 := by split <;> decide
    omega
  | .lst xs, h => by
    show (listText (PyData.shownAll (pys xs))).length ≤ wts xs + 2
    have ih := showns_le xs (by simpa only [good] using h)
    have j := textFrom_le (PyData.shownAll (pys xs)) 0 "["
    unfold listText
    rw [app_len]
    have e1 : (("[" : String) : Str).length = 1 := rfl
    have e2 : (("]" : String) : Str).length = 1 := rfl
    omega
  | .dct _, h => by simp only [good] at h; exact absurd h Bool.false_ne_true
  | .ref _, h => by simp only [good] at h; exact absurd h Bool.false_ne_true
  | .scr _, h => by simp only [good] at h; exact absurd h Bool.false_ne_true
theorem showns_le : ∀ ds : List Dt, goods ds = true → ((PyData.shownAll (pys ds)).map fun t => t.length + 2).sum ≤ wts ds
  | [], _ => by show 0 ≤ 0; omega
  | d :: ds, h => by
    simp only [goods, Bool.and_eq_true] at h
    have h1 := shown_le d h.1
    have h2 := showns_le ds h.2
    simp only [pys, PyData.shownAll, List.map_cons, List.sum_cons, wts]
    omega
end
def showD (d : Dt) : Str := (py d).shown
def reprG (_ : Sto) : List Dt → Option Dt
  | [x] => if good x = true ∧ wt x ≤ 16777216 ∧ dep x ≤ 60 then some (.str (showD x)) else none
  | _ => none
def rRepr (K : PySem.W.Frag) : List V → Hp → VK → Prop := fun xs H Q => ∃ v d, xs = [v] ∧ Dp K H v (py d) ∧ good d = true ∧ wt d ≤ 16777216 ∧ dep d ≤ 60 ∧ Q (.str (showD d)) H
theorem call_reprD {X : Cx} (hg : X.A.guards = some []) (hu : X.A.units + 64 < cLine) : CallR X (.builtin "repr") (rRepr X.K) := by
  intro pins s σ H xs us Q I r ⟨v, d, e, hd, hgd, hw, hdp, q⟩
  subst e
  cases r with
  | cons rv rn =>
    cases rn
    rename_i u
    have hsz : (py d).shown.length ≤ sizeLine := Nat.le_trans (shown_le d hgd) (by rw [sizeLine_eq]; exact hw)
    obtain ⟨p1, p2, p3, p4, p5⟩ := good_plain d hgd
    obtain ⟨as, rd⟩ := Dp.reads I (py d) v u hd rv
    cases d with
    | non =>
      cases hd; cases rv
      exact P.repr_of_none ⟨.str _, H, I.tok _, ⟨_, rfl⟩, q⟩
    | bl b =>
      cases hd; cases rv
      exact P.repr_of_bool ⟨.str _, H, I.tok _, ⟨_, rfl⟩, q⟩
    | int i =>
      cases hd
      obtain ⟨t, rfl⟩ := rv
      exact P.repr_of_int (by simpa [good] using hgd) ⟨.str _, H, I.tok _, ⟨_, rfl⟩, q⟩
    | str x =>
      cases hd
      obtain ⟨t, rfl⟩ := rv
      exact P.repr_of_str ⟨.str _, H, I.tok _, ⟨_, rfl⟩, q⟩ hsz
    | tup ds =>
      cases hd; cases rv
      refine repr_of_reads' rd p3 (fun z => by rw [p4] at z; cases z) hg (by rw [p5]; omega) (fun _ _ z => z) (fun h' u tk kp => ⟨.str _, H, I.kept kp, ⟨_, rfl⟩, q⟩) hsz
    | lst ds =>
      cases hd; cases rv
      refine repr_of_reads' rd p3 (fun z => by rw [p4] at z; cases z) hg (by rw [p5]; omega) (fun _ _ z => z) (fun h' u tk kp => ⟨.str _, H, I.kept kp, ⟨_, rfl⟩, q⟩) hsz
    | dct ds => simp only [good] at hgd; exact absurd hgd Bool.false_ne_true
    | ref a => simp only [good] at hgd; exact absurd hgd Bool.false_ne_true
    | scr ns => simp only [good] at hgd; exact absurd hgd Bool.false_ne_true
theorem cd_repr {K : PySem.W.Frag} : CallD K (rRepr K) reprG := by
  intro ft F H s vs xs z Q b rx hg k
  unfold reprG at hg
  split at hg
  · split at hg <;> cases hg
    rename_i c
    obtain ⟨v, rfl, r⟩ := pair1 rx
    exact ⟨v, _, rfl, r.dp b.sub (good_plain _ c.1).1, c.1, c.2.1, c.2.2, k _ F H Go.refl b (.str _)⟩
  · cases hg
end DL

namespace DL
open PySem PySem.Spec PyProof.Rows L2

def pairsOfD : List Dt → Option (List (Key × Dt))
  | [] => some []
  | .tup [k, d] :: r => match keyOf k, pairsOfD r with
    | some key, some ps => some ((key, d) :: ps)
    | _, _ => none
  | _ => none
def mergeD (ks more : List (Key × Dt)) : List (Key × Dt) := more.foldl (fun acc kv => putD acc kv.1 kv.2) ks
theorem Repk.merge {K : PySem.W.Frag} {F : Hp} : ∀ {more : List (Key × V)} {ds : List (Key × Dt)} {kvs : List (Key × V)} {es : List (Key × Dt)}, Repk K F more ds → Repk K F kvs es → Repk K F (mergeK kvs more) (mergeD es ds)
  | [], [], _, _, _, h => h
  | [], _ :: _, _, _, h, _ => by cases h
  | _ :: _, [], _, _, h, _ => by cases h
  | (k, v) :: more, (k', d) :: ds, _, _, h, h' => by
    cases h with
    | cons h1 h2 =>
      show Repk K F (mergeK (putK _ k v) more) (mergeD (putD _ k d) ds)
      exact Repk.merge h2 (Repk.put _ h1 h')
def toDctG (_ : Sto) : List Dt → Option Dt
  | [.lst xs] => (pairsOfD xs).map fun ps => .dct (mergeD [] ps)
  | [.tup xs] => (pairsOfD xs).map fun ps => .dct (mergeD [] ps)
  | _ => none
section
variable {K : PySem.W.Frag} {F H : Hp}
theorem pairs_V (e : Same F H) : ∀ {vs : List V} {ds : List Dt} {ps : List (Key × Dt)}, Reps K F vs ds → pairsOfD ds = some ps → ∃ (as : List Addr) (kvs : List (Key × V)), vs = as.map V.ref ∧ Paired (fun p kv => SqT K H p [kV kv.1, kv.2]) as kvs ∧ Repk K F kvs ps
  | [], [], _, _, h => by cases h; exact ⟨[], [], rfl, .nil, .nil⟩
  | [], _ :: _, _, h, _ => by cases h
  | _ :: _, [], _, h, _ => by cases h
  | _ :: _, d :: ds, ps, h, q => by
    unfold pairsOfD at q
    split at q
    · rename_i hd; cases hd
    · rename_i k d' r hd
      cases hd
      split at q
      · rename_i key ps' q1 q2
        cases q
        cases h with
        | cons h1 h2 =>
          obtain ⟨as, kvs, rfl, pr, rk⟩ := pairs_V e h2 q2
          cases h1 with
          | tup t1 tp t2 =>
            cases t2 with
            | cons r1 t2 =>
              cases t2 with
              | cons r2 t3 =>
                cases t3
                rename_i a _ _
                have ek := keyOf_V (ft := []) (H := H) (.inl r1) q1
                subst ek
                exact ⟨a :: as, (key, _) :: kvs, rfl, .cons (sqT_same e t1) pr, .cons r2 rk⟩
      · cases q
    · cases q
end
def rDctT (K : PySem.W.Frag) : List V → Hp → VK → Prop := fun xs H Q => ∃ (a : Addr) (ps : List Addr) (kvs : List (Key × V)), xs = [.ref a] ∧ SqT K H a (ps.map V.ref) ∧ ((∃ o, H a = some (.frz o (.tup (ps.map V.ref))) ∧ o.dict = none) ∨ ∃ o, K.lookup a = some o ∧ o.dict = none) ∧
  Paired (fun p kv => SqT K H p [kV kv.1, kv.2]) ps kvs ∧ ∀ p, H p = none → Q (.ref p) (upd H p (.dK (mergeK [] kvs)))
theorem call_dctT {X : Cx} (hc : X.calm = true) : CallR X (.type "dict") (rDctT X.K) := by
  intro pins s σ H xs us Q I r ⟨a, ps, kvs, ex, hq, hpl, hp, q⟩
  subst ex
  obtain ⟨u, eu, rx⟩ := vals1 r
  subst eu
  cases rx
  obtain ⟨its, rv, ht, hz⟩ := I.tuple hq
  have ei := refs_at rv
  subst ei
  rw [List.length_map] at hz
  obtain ⟨prs, rel, hl, hpr⟩ := pairs_of I hp
  obtain ⟨o, ho, hcl, n, hdat⟩ := ht
  have hd : o.dict = none := by
    rcases hpl with ⟨o', e, h'⟩ | ⟨o', e, h'⟩
    · have z := (I.hok a _ e).1
      rw [ho] at z; cases z
      exact h'
    · have z := I.kIn a o' e
      rw [ho] at z; cases z
      exact h'
  -- the pairs' keys as they stand
  have hex : ∃ pv : List (Value × Value), pv.length = ps.length ∧ ∀ (j : Nat) (k v : Value), pv[j]? = some (k, v) → ∃ b, ps[j]? = some b ∧ IsTup s.heap b #[k, v] ∧ ∃ key, prs[j]? = some (key, v) ∧ keyIs key k = true := by
    have gen : ∀ (n : Nat), n ≤ ps.length → ∃ pv : List (Value × Value), pv.length = n ∧ ∀ (j : Nat) (k v : Value), pv[j]? = some (k, v) → ∃ b, ps[j]? = some b ∧ IsTup s.heap b #[k, v] ∧ ∃ key, prs[j]? = some (key, v) ∧ keyIs key k = true := by
      intro n
      induction n with
      | zero => exact fun _ => ⟨[], rfl, fun j k v e => by simp at e⟩
      | succ n ih =>
        intro hn
        obtain ⟨pv, e1, e2⟩ := ih (by omega)
        have hlt : n < prs.length := by omega
        obtain ⟨b, u, f1, f2, f3⟩ := hpr n prs[n] (List.getElem?_eq_getElem hlt)
        refine ⟨pv ++ [(u, prs[n].2)], by rw [List.length_append, e1]; rfl, fun j k v e => ?_⟩
        by_cases c : j < pv.length
        · rw [List.getElem?_append_left c] at e
          exact e2 j k v e
        · rw [List.getElem?_append_right (by omega)] at e
          have hj : j - pv.length = 0 := by
            cases q2 : j - pv.length with
            | zero => rfl
            | succ m => rw [q2] at e; simp at e
          have ej : j = n := by omega
          subst ej
          rw [hj] at e
          cases e
          exact ⟨b, f1, f2, _, List.getElem?_eq_getElem hlt, f3⟩
    exact gen _ (Nat.le_refl _)
  obtain ⟨pv, e1, e2⟩ := hex
  refine PySem.call_dict_pairs (knd := mixKind X.prog X.w) (kvs := prs) (PySem.PairArg.tuple (prog := X.prog) (w := X.w) a (ps.map Value.ref).toArray (fun j => (ps[j]?).getD 0) pv) (I.ok.hd hc) ⟨⟨o, n, ho, hcl, hd, hdat⟩, by simp [e1], fun j k v e => ?_⟩ ⟨by omega, fun i key v e => ?_⟩ (by omega) fun h' tk hd' kp => ?_
  · obtain ⟨b, f1, ⟨ob, f2, f3, f4, f5⟩, _⟩ := e2 j k v e
    have eb : (fun j => (ps[j]?).getD 0) j = b := by
      show (ps[j]?).getD 0 = b
      rw [f1]; rfl
    rw [eb]
    exact ⟨by simp [f1], .inl ⟨ob, f2, f3, f4, f5⟩⟩
  · obtain ⟨b, _, _, key', f1, f2⟩ := e2 i key v e
    exact ⟨key', f1, f2⟩
  · have hm : (s.heap.objs.size == sysModules) = false := beq_eq_false_iff_ne.mpr (Nat.ne_of_gt I.big)
    have hlen : (mergeK [] kvs).length ≤ sizeLine := by
      have z := length_mergeK kvs []
      rw [List.length_nil, Nat.zero_add, rel.length, hl] at z
      omega
    exact ⟨.ref s.heap.objs.size, _, I.laid (t' := tk) (o := .dK (mergeK [] kvs)) (fun b o' e => kp b o' List.not_mem_nil e) (Nat.le_refl _) ⟨hlen, hm, merged [] prs, KV.merge rel .nil, hd'⟩, rfl, q _ (I.hok.fresh (Nat.le_refl _))⟩
def rDctA (K : PySem.W.Frag) : List V → Hp → VK → Prop := fun xs H Q => (∃ (a : Addr) (ps : List Addr) (kvs : List (Key × V)), xs = [.ref a] ∧ SqL K H a (ps.map V.ref) ∧ Paired (fun p kv => SqT K H p [kV kv.1, kv.2]) ps kvs ∧
    ∀ p, H p = none → Q (.ref p) (upd H p (.dK (mergeK [] kvs)))) ∨ rDctT K xs H Q
theorem call_dctA {X : Cx} (hc : X.calm = true) : CallR X (.type "dict") (rDctA X.K) := CallR.or (call_dictP hc) (call_dctT hc)
theorem PlT.same {K : PySem.W.Frag} {F H : Hp} {a : Addr} {ps : List Addr} (e : Same F H) (h : PlT K F a (ps.map V.ref)) (hn : ps ≠ [] ∨ ps = []) : (∃ o, H a = some (.frz o (.tup (ps.map V.ref))) ∧ o.dict = none) ∨ (∃ o, K.lookup a = some o ∧ o.dict = none) := by
  rcases h with ⟨o, h1, h2⟩ | h | ⟨x, r, e1, e2⟩
  · exact .inl ⟨o, e _ _ h1, h2⟩
  · exact .inr h
  · cases ps with
    | nil => cases e1
    | cons p ps =>
      cases e1
      exact absurd rfl (e2 p)
theorem cn_toDct {K : PySem.W.Frag} : CallN K (rDctA K) toDctG := by
  intro ft F H s vs xs z Q b rx hg k
  unfold toDctG at hg
  split at hg
  · rename_i ds
    cases q : pairsOfD ds with
    | none => rw [q] at hg; cases hg
    | some ps =>
      rw [q] at hg
      cases hg
      obtain ⟨v, rfl, r⟩ := pair1 rx
      obtain ⟨a, vs, rfl, e, rs⟩ := r.lst b
      obtain ⟨as, kvs, rfl, pr, rk⟩ := pairs_V b.sub rs q
      exact .inl ⟨a, as, kvs, rfl, SqL.of e, pr, fun p np => k p _ np (.dct (Repk.merge rk .nil))⟩
  · rename_i ds
    cases q : pairsOfD ds with
    | none => rw [q] at hg; cases hg
    | some ps =>
      rw [q] at hg
      cases hg
      obtain ⟨v, rfl, r⟩ := pair1 rx
      rcases r with r | ⟨_, _, _, _, r, _⟩
      · cases r with
        | tup t1 tp t2 =>
          obtain ⟨as, kvs, rfl, pr, rk⟩ := pairs_V b.sub t2 q
          exact .inr ⟨_, as, kvs, rfl, sqT_same b.sub t1, tp.same b.sub (by by_cases c : as = []; exact .inr c; exact .inl c), pr, fun p np => k p _ np (.dct (Repk.merge rk .nil))⟩
      · cases r
  · cases hg

def dispL : List (Fe × Fe) → Env → Sto → Option (List (Key × Dt) × Sto)
  | [], _, s => some ([], s)
  | (fk, fv) :: r, env, s => match fk env s with
    | some (k, s1) => match fv env s1 with
      | some (v, s2) => match dispL r env s2 with
        | some (ps, s3) => match keyOf k with
          | some key => some ((key, v) :: ps, s3)
          | none => none
        | none => none
      | none => none
    | none => none
def dispF (l : List (Fe × Fe)) : Fe := fun env s => match dispL l env s with
  | some (ps, s') => if ps.length ≤ 15 then some (.dct (mergeD [] ps), s') else none
  | none => none
theorem kvs_V {K : PySem.W.Frag} {F : Hp} : ∀ {vs : List (V × V)} {ps : List (Key × Dt)}, Paired (fun (a : V × V) (b : Key × Dt) => a.1 = kV b.1 ∧ Rep K F a.2 b.2) vs ps → ∃ kvs : List (Key × V), vs = kvs.map (fun kv => (kV kv.1, kv.2)) ∧ Repk K F kvs ps ∧ kvs.length = ps.length
  | [], [], _ => ⟨[], rfl, .nil, rfl⟩
  | _, _, .cons (a := a) (b := b) h t => by
    obtain ⟨kvs, rfl, rk, hl⟩ := kvs_V t
    obtain ⟨a1, a2⟩ := a
    obtain ⟨b1, b2⟩ := b
    obtain ⟨e, r⟩ := h
    dsimp only at e r
    subst e
    exact ⟨(b1, a2) :: kvs, rfl, .cons r rk, by rw [List.length_cons, List.length_cons, hl]⟩
theorem disp_go {K : PySem.W.Frag} {O : List Nat} : ∀ (l : List (Fe × Fe)) {g : Gd} {F H : Hp} {σ : L2.St} {env : Env} {s s' : Sto} {ps : List (Key × Dt)} {Q : List (V × V) → Hp → Prop}, Stt K g O F H σ env s → dispL l env s = some (ps, s') →
    (∀ vs F' H', Go g.ft F H F' H' → Bs K g.ft F' H' s' → Paired (fun (a : V × V) (b : Key × Dt) => a.1 = kV b.1 ∧ Rep K F' a.2 b.2) vs ps → Q vs H') → tPairs (l.map fun p => (tD K O p.1, tD K O p.2)) σ H Q
  | [], g, F, H, σ, env, s, s', ps, Q, st, h, k => by
    cases h
    exact k [] F H Go.refl st.bs .nil
  | (fk, fv) :: r, g, F, H, σ, env, s, s', ps, Q, st, h, k => by
    unfold dispL at h
    split at h
    · rename_i kd s1 q1
      split at h
      · rename_i v s2 q2
        split at h
        · rename_i ps' s3 q3
          split at h
          · rename_i key q4
            cases h
            refine ⟨g, F, env, s, kd, s1, st, q1, fun u F1 H1 x1 b1 r1 => ⟨g, F1, env, s1, v, s2, st.step x1 b1, q2, fun w F2 H2 x2 b2 r2 => ?_⟩⟩
            refine disp_go r ((st.step x1 b1).step x2 b2) q3 fun vs F3 H3 x3 b3 pr => ?_
            have ek := keyOf_V (ft := []) (H := H1) (.inl r1) q4
            exact k ((u, w) :: vs) F3 H3 ((x1.trans x2 b1).trans x3 b2) b3 (.cons ⟨ek, Rep.mono x3.sam _ _ r2⟩ pr)
          · cases h
        · cases h
      · cases h
    · cases h
theorem n_disp {X : Cx} {O : List Nat} {pos : Pos} {keys : List (Option Expr)} {values : List Expr} (l : List (Fe × Fe)) (h : PPs X pos keys values (l.map fun p => (tD X.K O p.1, tD X.K O p.2))) (hall : keys.all (·.isSome) = true := by rfl) (hl : keys.length = values.length := by rfl) (h0 : keys ≠ [] := by intro z; cases z)
    (h15 : keys.length ≤ 15 := by decide) : PE X (.Dict keys values pos) (tN X.K O (dispF l)) := pe_imp (pe_disp h hall hl h0 h15) fun σ H Q ⟨g, F, env, s, d, s', st, hf, k⟩ => by
  unfold dispF at hf
  split at hf
  · rename_i ps s1 q
    split at hf <;> cases hf
    rename_i hz
    intro p np
    have nft : p ∉ g.ft := st.bs.nofree np
    have nF : F p = none := (Go.made (o := .dK []) st.bs np).2.2
    have nh : g.he p = none := st.go.free st.bs np
    have nO : ∀ j, j ∈ O → σ[j]? ≠ some (some (.ref p)) := fun j hj e => by
      obtain ⟨p2, o2, d2, g1, _, g3, _⟩ := st.sl.ow j hj
      rw [e] at g1; cases g1
      rw [np] at g3; cases g3
    have st1 := st.apart (D := p) (o := .dK []) nF nft nh nO
    refine disp_go l st1 q fun vs F2 H2 x2 b2 pr => ?_
    have e2 : H2 p = some (.dK []) := x2.ext p _ upd_same nft
    obtain ⟨kvs, rfl, rk, hl2⟩ := kvs_V pr
    refine ⟨e2, kvs, rfl, by omega, ?_⟩
    have n2 : F2 p = none := keepsD x2 nF upd_same
    have st2 := (st1.step x2 b2).apart (D := p) (o := .dK (mergeK [] kvs)) n2 nft nh nO
    refine k p _ F2 _ ⟨fun c u e nc => ?_, x2.sam, fun c u e => ?_⟩ st2.bs np n2 upd_same (.dct (Repk.merge rk .nil))
    · rw [upd_ne (ne_of_none e np)]
      exact x2.ext c u (by rw [upd_ne (ne_of_none e np)]; exact e) nc
    · rcases x2.new c u e with z | z
      · exact .inl z
      · by_cases c2 : c = p
        · subst c2; exact .inr np
        · rw [upd_ne c2] at z; exact .inr z
  · cases hf
def emptyG : Fe := fun _ s => some (.dct [], s)
theorem n_dnil {X : Cx} {O : List Nat} {pos : Pos} : PE X (.Dict [] [] pos) (tN X.K O emptyG) := pe_imp pe_dnewK fun σ H Q ⟨g, F, env, s, d, s', st, hf, k⟩ => by
  cases hf
  intro p np
  obtain ⟨x1, b1, n1⟩ := Go.made (o := .dK []) st.bs np
  exact k p _ F _ x1 b1 np n1 upd_same (.dct .nil)

end DL

namespace DL
open PySem PySem.Spec PyProof.Rows L2

def leS (a b : Str) : Prop := ¬ b.cps.toList < a.cps.toList
instance (a b : Str) : Decidable (leS a b) := inferInstanceAs (Decidable (¬ _))
theorem leS_trans {a b c : Str} (h : leS a b) (h' : leS b c) : leS a c := List.le_trans h h'
theorem leS_total (a b : Str) : leS a b ∨ leS b a := List.le_total a.cps.toList b.cps.toList
theorem leS_anti {a b : Str} (h : leS a b) (h' : leS b a) : a = b := by
  have e : a.cps.toList = b.cps.toList := List.le_antisymm h h'
  obtain ⟨⟨a⟩⟩ := a
  obtain ⟨⟨b⟩⟩ := b
  have e' : a = b := e
  rw [e']
def insK {α : Type} (k : α → Str) (x : α) : List α → List α
  | [] => [x]
  | y :: r => if leS (k x) (k y) then x :: y :: r else y :: insK k x r
def sortK {α : Type} (k : α → Str) : List α → List α
  | [] => []
  | x :: r => insK k x (sortK k r)
section
variable {α : Type} {k : α → Str}
theorem insK_perm (x : α) : ∀ l : List α, (insK k x l).Perm (x :: l)
  | [] => .refl _
  | y :: r => by
    unfold insK
    split
    · exact .refl _
    · exact ((insK_perm x r).cons y).trans (List.Perm.swap x y r)
theorem sortK_perm : ∀ l : List α, (sortK k l).Perm l
  | [] => .refl _
  | x :: r => (insK_perm x _).trans ((sortK_perm r).cons x)
theorem insK_sorted (x : α) : ∀ l : List α, l.Pairwise (fun a b => leS (k a) (k b)) → (insK k x l).Pairwise (fun a b => leS (k a) (k b))
  | [], _ => List.pairwise_singleton _ _
  | y :: r, h => by
    obtain ⟨h1, h2⟩ := List.pairwise_cons.mp h
    unfold insK
    split
    · rename_i c
      exact List.pairwise_cons.mpr ⟨fun b hb => (List.mem_cons.mp hb).elim (fun e => e ▸ c) fun e => leS_trans c (h1 b e), h⟩
    · rename_i c
      have c' : leS (k y) (k x) := (leS_total (k x) (k y)).elim (fun z => absurd z c) fun z => z
      refine List.pairwise_cons.mpr ⟨fun b hb => ?_, insK_sorted x r h2⟩
      rcases List.mem_cons.mp ((insK_perm x r).mem_iff.mp hb) with e | e
      · subst e; exact c'
      · exact h1 b e
theorem sortK_sorted : ∀ l : List α, (sortK k l).Pairwise (fun a b => leS (k a) (k b))
  | [] => .nil
  | x :: r => insK_sorted x _ (sortK_sorted r)
theorem sorted_uniq : ∀ {xs ys : List α}, xs.Perm ys → xs.Pairwise (fun a b => leS (k a) (k b)) → ys.Pairwise (fun a b => leS (k a) (k b)) → (∀ a b, a ∈ xs → b ∈ xs → k a = k b → a = b) → xs = ys
  | [], ys, p, _, _, _ => (List.Perm.nil_eq p)
  | x :: xs, [], p, _, _, _ => absurd p.length_eq (by simp)
  | x :: xs, y :: ys, p, h1, h2, hi => by
    obtain ⟨a1, a2⟩ := List.pairwise_cons.mp h1
    obtain ⟨b1, b2⟩ := List.pairwise_cons.mp h2
    have hy : y ∈ x :: xs := p.mem_iff.mpr List.mem_cons_self
    have hx : x ∈ y :: ys := p.mem_iff.mp List.mem_cons_self
    have e : x = y := by
      rcases List.mem_cons.mp hy with e | hy'
      · exact e.symm
      · rcases List.mem_cons.mp hx with e | hx'
        · exact e
        · exact hi x y List.mem_cons_self hy (leS_anti (a1 y hy') (b1 x hx'))
    subst e
    rw [sorted_uniq (List.Perm.cons_inv p) a2 b2 fun a b ha hb => hi a b (List.mem_cons_of_mem _ ha) (List.mem_cons_of_mem _ hb)]
theorem sortK_eq {xs ys : List α} (p : ys.Perm xs) (h : ys.Pairwise (fun a b => leS (k a) (k b))) (hi : ∀ a b, a ∈ xs → b ∈ xs → k a = k b → a = b) : ys = sortK k xs :=
  sorted_uniq (p.trans (sortK_perm xs).symm) h (sortK_sorted xs) fun a b ha hb => hi a b (p.mem_iff.mp ha) (p.mem_iff.mp hb)
theorem sortK_map {β : Type} {f : β → α} (l : List β) : (sortK (fun b => k (f b)) l).map f = sortK k (l.map f) := by
  have ins : ∀ (x : β) (l : List β), (insK (fun b => k (f b)) x l).map f = insK k (f x) (l.map f) := by
    intro x l
    induction l with
    | nil => rfl
    | cons y r ih =>
      unfold insK
      rw [List.map_cons]
      dsimp only
      split
      · rfl
      · rw [List.map_cons, ih]
  induction l with
  | nil => rfl
  | cons x r ih =>
    show (insK _ x (sortK _ r)).map f = insK k (f x) (sortK k (r.map f))
    rw [ins, ih]
end
def sortS (xs : List Str) : List Str := sortK (fun x => x) xs
theorem risingS_pw : ∀ (l : List Str) (p : Str), risingS p l = true → (p :: l).Pairwise leS
  | [], p, _ => List.pairwise_singleton _ _
  | x :: r, p, h => by
    unfold risingS at h
    rw [Bool.and_eq_true] at h
    have ih := risingS_pw r x h.2
    have hp : leS p x := by
      have z := h.1
      rw [Bool.not_eq_true', ltCps_eq] at z
      exact of_decide_eq_false z
    refine List.pairwise_cons.mpr ⟨fun b hb => ?_, ih⟩
    rcases List.mem_cons.mp hb with e | e
    · subst e; exact hp
    · exact leS_trans hp ((List.pairwise_cons.mp ih).1 b e)
theorem sortedS_pw {l : List Str} (h : sortedS l = true) : l.Pairwise leS := by
  cases l with
  | nil => exact .nil
  | cons x r => exact risingS_pw r x h
def rSortedTA (K : PySem.W.Frag) : List V → Hp → VK → Prop := fun vs H Q => ∃ (a : Addr) (xs : List Str), vs = [V.ref a] ∧ SqL K H a (xs.map V.str) ∧
  ∀ (ys : List Str) (p : Addr), ys.Perm xs → sortedS ys = true → H p = none → Q (.ref p) (upd H p (.lst (ys.map V.str)))
def rSortedIA (K : PySem.W.Frag) : List V → Hp → VK → Prop := fun vs H Q => ∃ (a : Addr) (xs : List Int), vs = [V.ref a] ∧ SqL K H a (xs.map V.int) ∧
  ∀ (ys : List Int) (p : Addr), ys.Perm xs → ys.Pairwise (· ≤ ·) → H p = none → Q (.ref p) (upd H p (.lst (ys.map V.int)))
theorem cr_sortedTA {X : Cx} : CallR X (.builtin "sorted") (rSortedTA X.K) := by
  intro pins s σ H vs us Q I r h
  obtain ⟨a, xs, rfl, hs, q⟩ := h
  obtain ⟨its, rv, hl, hz⟩ := I.list hs
  rw [Vals.ref1 r]
  have hlen0 := rv.length
  refine PyProof.Rows.sorted_strsAny hl.isList rv.strs (by rw [← hlen0]; exact hz) fun out ys h1 h2 h3 => ?_
  obtain ⟨ep, he'⟩ := PyProof.Rows.sortedAll_at s.heap its out
  have hlen : (ys.map V.str).length ≤ sizeLine := by rw [List.length_map, h2.length_eq]; rw [List.length_map] at hz; exact hz
  exact ⟨.ref _, upd H (s.heap.objs.size + 1) (.lst (ys.map V.str)), I.laid (t' := s.toks) (fun _ _ => PyProof.Rows.sortedAll_old) (Nat.le_succ _) ⟨hlen, out.toList, ep, vals_of_strs h1, he'⟩, rfl, q ys _ h2 h3 (I.hok.fresh (Nat.le_succ _))⟩
theorem cr_sortedIA {X : Cx} : CallR X (.builtin "sorted") (rSortedIA X.K) := by
  intro pins s σ H vs us Q I r h
  obtain ⟨a, xs, rfl, hs, q⟩ := h
  obtain ⟨its, rv, hl, hz⟩ := I.list hs
  rw [Vals.ref1 r]
  have hlen0 := rv.length
  refine PyProof.Rows.sorted_intsAny hl.isList rv.ints (by rw [← hlen0]; exact hz) fun out ys h1 h2 h3 => ?_
  obtain ⟨ep, he'⟩ := PyProof.Rows.sortedAll_at s.heap its out
  have hlen : (ys.map V.int).length ≤ sizeLine := by rw [List.length_map, h2.length_eq]; rw [List.length_map] at hz; exact hz
  exact ⟨.ref _, upd H (s.heap.objs.size + 1) (.lst (ys.map V.int)), I.laid (t' := s.toks) (fun _ _ => PyProof.Rows.sortedAll_old) (Nat.le_succ _) ⟨hlen, out.toList, ep, vals_of_ints h1, he'⟩, rfl, q ys _ h2 h3 (I.hok.fresh (Nat.le_succ _))⟩
def sortedStrG (_ : Sto) : List Dt → Option Dt
  | [.lst xs] => match strsOf xs with
    | some ys => some (.lst ((sortS ys).map .str))
    | none => none
  | _ => none
theorem cn_sortedStr {K : PySem.W.Frag} : CallN K (rSortedTA K) sortedStrG := by
  intro ft F H s vs xs z Q b rx hg k
  unfold sortedStrG at hg
  split at hg
  · split at hg
    · rename_i ys q
      cases hg
      obtain ⟨v, rfl, r⟩ := pair1 rx
      obtain ⟨a, vs, rfl, e, rs⟩ := r.lst b
      rw [strs_map q] at rs
      rw [rs.of_strs] at e
      refine ⟨a, ys, rfl, SqL.of e, fun zs p pm so np => k p _ np (.lst ?_)⟩
      have ez : zs = sortS ys := sortK_eq pm (sortedS_pw so) fun a b _ _ h => h
      rw [ez]
      exact Reps.strs _
    · cases hg
  · cases hg
def insI (x : Int) : List Int → List Int
  | [] => [x]
  | y :: r => if x ≤ y then x :: y :: r else y :: insI x r
def sortI : List Int → List Int
  | [] => []
  | x :: r => insI x (sortI r)
theorem insI_perm (x : Int) : ∀ l : List Int, (insI x l).Perm (x :: l)
  | [] => .refl _
  | y :: r => by
    unfold insI
    split
    · exact .refl _
    · exact ((insI_perm x r).cons y).trans (List.Perm.swap x y r)
theorem sortI_perm : ∀ l : List Int, (sortI l).Perm l
  | [] => .refl _
  | x :: r => (insI_perm x _).trans ((sortI_perm r).cons x)
theorem insI_sorted (x : Int) : ∀ l : List Int, l.Pairwise (· ≤ ·) → (insI x l).Pairwise (· ≤ ·)
  | [], _ => List.pairwise_singleton _ _
  | y :: r, h => by
    obtain ⟨h1, h2⟩ := List.pairwise_cons.mp h
    unfold insI
    split
    · rename_i c
      exact List.pairwise_cons.mpr ⟨fun b hb => (List.mem_cons.mp hb).elim (fun e => e ▸ c) fun e => Int.le_trans c (h1 b e), h⟩
    · rename_i c
      refine List.pairwise_cons.mpr ⟨fun b hb => ?_, insI_sorted x r h2⟩
      rcases List.mem_cons.mp ((insI_perm x r).mem_iff.mp hb) with e | e
      · subst e; omega
      · exact h1 b e
theorem sortI_sorted : ∀ l : List Int, (sortI l).Pairwise (· ≤ ·)
  | [] => .nil
  | x :: r => insI_sorted x _ (sortI_sorted r)
theorem sortI_eq {xs ys : List Int} (p : ys.Perm xs) (h : ys.Pairwise (· ≤ ·)) : ys = sortI xs :=
  List.Perm.eq_of_pairwise (fun a b _ _ h1 h2 => Int.le_antisymm h1 h2) h (sortI_sorted xs) (p.trans (sortI_perm xs).symm)
def intsOf : List Dt → Option (List Int)
  | [] => some []
  | .int x :: r => (intsOf r).map (x :: ·)
  | _ => none
theorem ints_map : ∀ {ds : List Dt} {bs : List Int}, intsOf ds = some bs → ds = bs.map Dt.int
  | [], _, h => by cases h; rfl
  | d :: r, bs, h => by
    cases d <;> simp only [intsOf] at h <;> try (cases h; done)
    rename_i b
    cases q : intsOf r with
    | none => rw [q] at h; cases h
    | some cs =>
      rw [q] at h
      cases h
      rw [ints_map q]
      rfl
def sortedIntG (_ : Sto) : List Dt → Option Dt
  | [.lst xs] => match intsOf xs with
    | some ys => some (.lst ((sortI ys).map .int))
    | none => none
  | _ => none
theorem cn_sortedInt {K : PySem.W.Frag} : CallN K (rSortedIA K) sortedIntG := by
  intro ft F H s vs xs z Q b rx hg k
  unfold sortedIntG at hg
  split at hg
  · split at hg
    · rename_i ys q
      cases hg
      obtain ⟨v, rfl, r⟩ := pair1 rx
      obtain ⟨a, vs, rfl, e, rs⟩ := r.lst b
      rw [ints_map q] at rs
      rw [rs.of_ints] at e
      refine ⟨a, ys, rfl, SqL.of e, fun zs p pm so np => k p _ np (.lst ?_)⟩
      rw [sortI_eq pm so]
      exact Reps.ints _
    · cases hg
  · cases hg

theorem perm_map_inv {α β : Type} {f : α → β} : ∀ {ys zs : List β}, ys.Perm zs → ∀ {xs : List α}, zs = xs.map f → ∃ xs' : List α, xs'.Perm xs ∧ ys = xs'.map f := by
  intro ys zs p
  induction p with
  | nil => intro xs e; cases xs with
    | nil => exact ⟨[], .refl _, rfl⟩
    | cons x xs => cases e
  | cons a p ih =>
    intro xs e
    cases xs with
    | nil => cases e
    | cons x xs =>
      cases e
      obtain ⟨xs', h1, h2⟩ := ih rfl
      exact ⟨x :: xs', h1.cons x, by rw [h2]; rfl⟩
  | swap a b l =>
    intro xs e
    match xs, e with
    | x :: y :: xs, e =>
      cases e
      exact ⟨y :: x :: xs, List.Perm.swap x y xs, rfl⟩
  | trans p1 p2 ih1 ih2 =>
    intro xs e
    obtain ⟨x1, h1, h2⟩ := ih2 e
    obtain ⟨x2, h3, h4⟩ := ih1 h2
    exact ⟨x2, h3.trans h1, h4⟩
section
variable {α : Type} (ad : α → Addr) (ky : α → Str)
@[reducible] def tabKind (es : List α) : KeyKind where
  toKeyOrd := strKind.toKeyOrd
  keyOf := fun v => match v with
    | .ref a => (es.find? fun e => decide (ad e = a)).map fun e => (ky e).cps.toList
    | _ => none
  dflt := []
variable {ad ky}
theorem tab_some {es : List α} {v : Value} {c : List Nat} (h : (tabKind ad ky es).keyOf v = some c) : ∃ e, e ∈ es ∧ v = .ref (ad e) ∧ c = (ky e).cps.toList := by
  cases v with
  | ref a =>
    have h' : (es.find? fun e => decide (ad e = a)).map (fun e => (ky e).cps.toList) = some c := h
    cases q : es.find? fun e => decide (ad e = a) with
    | none => rw [q] at h'; cases h'
    | some e =>
      rw [q] at h'
      cases h'
      have m := List.mem_of_find?_eq_some q
      have p := List.find?_some q
      have p' : ad e = a := of_decide_eq_true p
      subst p'
      exact ⟨e, m, rfl, rfl⟩
  | _ => exact nomatch (show (none : Option (List Nat)) = some c from h)
theorem tab_has {es : List α} {e : α} (h : e ∈ es) : ∃ c, (tabKind ad ky es).keyOf (.ref (ad e)) = some c := by
  show ∃ c, (es.find? fun e' => decide (ad e' = ad e)).map (fun e => (ky e).cps.toList) = some c
  cases q : es.find? fun e' => decide (ad e' = ad e) with
  | none =>
    have := List.find?_eq_none.mp q e h
    simp at this
  | some e' => exact ⟨_, rfl⟩
def rSortP (K : PySem.W.Frag) : List V → Hp → VK → Prop := fun vs H Q => ∃ (α : Type) (es : List α) (ad : α → Addr) (ky : α → Str) (sv : α → V) (a : Addr), vs = [V.ref a] ∧ SqL K H a (es.map fun e => V.ref (ad e)) ∧ (∀ e, e ∈ es → SqT K H (ad e) [.str (ky e), sv e]) ∧
  (∀ e e', e ∈ es → e' ∈ es → ky e = ky e' → e = e') ∧ ∀ (es' : List α) (p : Addr), es'.Perm es → es'.Pairwise (fun x y => leS (ky x) (ky y)) → H p = none → Q (.ref p) (upd H p (.lst (es'.map fun e => V.ref (ad e))))
theorem kat_same {prog : Program} {w : World} {A : Around} {s : Shared} {b fin : Bool} {Q : Bool → Shared → Prop} (hv : ∀ v : Value, (v == v) = true) (h : Q fin s) : ∀ (l : List Value) (i : Nat), PySem.W.KatLex prog w A b fin Q (l.zip l) i s
  | [], i => h
  | v :: l, i => PySem.W.kat_cons (by
    unfold eqBool
    rw [if_pos (hv v)]
    exact wpAny_holding (wpAny_bind (wpAny_rule (wpAny_pure (PySem.W.kat_yes (kat_same hv h l (i + 1)))))))
end
end DL

namespace DL
open PySem PySem.Spec PyProof.Rows L2
section
variable {X : Cx} {O : List Nat} {a b e : Expr} {fa fb f f1 f2 : Fe} {pos : Pos} {L O' : List Nat}
theorem pe_or {t t' : TE} (h : PE X e t) (h' : PE X e t') : PE X e (fun σ H Q => t σ H Q ∨ t' σ H Q) := ⟨fun pins s σ H Q I q => q.elim (h.run pins s σ H Q I) (h'.run pins s σ H Q I)⟩
theorem pt_or {t t' : TT} (h : PT X e t) (h' : PT X e t') : PT X e (fun σ H Q => t σ H Q ∨ t' σ H Q) := ⟨fun pins s σ H Q I q => q.elim (h.run pins s σ H Q I) (h'.run pins s σ H Q I)⟩
theorem d_two (h1 : PE X e (tD X.K O f1)) (h2 : PE X e (tD X.K O f2)) (hk : ∀ env s r, f env s = some r → f1 env s = some r ∨ f2 env s = some r) : PE X e (tD X.K O f) := pe_imp (pe_or h1 h2) fun σ H Q ⟨g, F, env, s, d, s', st, hf, k⟩ =>
  (hk _ _ _ hf).elim (fun q => .inl ⟨g, F, env, s, d, s', st, q, k⟩) fun q => .inr ⟨g, F, env, s, d, s', st, q, k⟩
theorem t_two {t1 t2 t : Ft} (h1 : PT X e (tT X.K O t1)) (h2 : PT X e (tT X.K O t2)) (hk : ∀ env s r, t env s = some r → t1 env s = some r ∨ t2 env s = some r) : PT X e (tT X.K O t) := pt_imp (pt_or h1 h2) fun σ H Q ⟨g, F, env, s, d, s', st, hf, k⟩ =>
  (hk _ _ _ hf).elim (fun q => .inl ⟨g, F, env, s, d, s', st, q, k⟩) fun q => .inr ⟨g, F, env, s, d, s', st, q, k⟩
theorem bind2_two {g g1 g2 : Sto → Dt → Dt → Option Dt} (h : ∀ s x y z, g s x y = some z → g1 s x y = some z ∨ g2 s x y = some z) (env : Env) (s : Sto) (r : Dt × Sto) (hf : bind2 fa fb g env s = some r) : bind2 fa fb g1 env s = some r ∨ bind2 fa fb g2 env s = some r := by
  obtain ⟨d, s'⟩ := r
  obtain ⟨x, s1, y, q1, q2, q3⟩ := bind2_some hf
  unfold bind2
  rw [q1]
  simp only [Option.bind_eq_bind, Option.bind_some, q2]
  rcases h _ _ _ _ q3 with z | z
  · left; rw [z]; rfl
  · right; rw [z]; rfl
theorem catG_lst (s : Sto) (x y z : Dt) (h : catG s x y = some z) : ∃ xs, z = .lst xs := by
  unfold catG at h
  split at h
  · split at h <;> cases h
    exact ⟨_, rfl⟩
  · cases h
def addAll (s : Sto) (x y : Dt) : Option Dt := match x, y with
  | .lst a, .lst b => catG s (.lst a) (.lst b)
  | x, y => addG s x y
theorem opd_addAll {K : PySem.W.Frag} : OpD K (fun x y H Q => rAddA K x y H Q ∨ rCat x y H Q) addAll := by
  intro ft F H s v w x y z Q b rx ry hg k
  unfold addAll at hg
  split at hg
  · exact .inr (opn_cat.d catG_lst ft F H s v w _ _ z Q b rx ry hg k)
  · exact .inl (opd_add ft F H s v w _ _ z Q b rx ry hg k)
theorem d_addA (ha : PE X a (tB X.K O fa)) (hb : PE X b (tB X.K O fb)) : PE X (.BinOp a .Add b pos) (tD X.K O (bind2 fa fb addAll)) := d_bin (OpR.or op_addA op_cat) opd_addAll ha hb
def ixA (s : Sto) (x y : Dt) : Option Dt := match dctOf s x with
  | some _ => dgetG s x y
  | none => ixG s x y
theorem d_ixA {i : Expr} (hu : X.A.units + 1 < cLine) (ha : PE X a (tB X.K O fa)) (hb : PE X i (tB X.K O fb)) (hs : PlainIx i := by intro _ _; rfl) (hs2 : NoSl i := by intro _ _; rfl) : PE X (.Subscript a i pos) (tD X.K O (bind2 fa fb ixA)) :=
  d_two (d_ix ha hb hs) (d_dget hu ha hb hs2) (bind2_two fun s x y z h => by
    unfold ixA at h
    split at h
    · exact .inr h
    · exact .inl h)
def inA (s : Sto) (y x : Dt) : Option Dt := match dctOf s x with
  | some _ => dinG s y x
  | none => inG s y x
def notinA (s : Sto) (y x : Dt) : Option Dt := match dctOf s x with
  | some _ => dnotinG s y x
  | none => notInG s y x
theorem asB_two {f : Fe} (h : ∀ env s r, f env s = some r → f1 env s = some r ∨ f2 env s = some r) (env : Env) (s : Sto) (r : Bool × Sto) (hf : asB f env s = some r) : asB f1 env s = some r ∨ asB f2 env s = some r := by
  obtain ⟨b, s'⟩ := r
  have q := asB_some hf
  unfold asB
  rcases h _ _ _ q with z | z
  · left; rw [z]
  · right; rw [z]
theorem t_inA (hu : X.A.units + 1 < cLine) (ha : PE X a (tB X.K O fa)) (hb : PE X b (tB X.K O fb)) (hm : behindInMarks .In b = false := by rfl) : PT X (.Compare a [.In] [b] pos) (tT X.K O (asB (bind2 fa fb inA))) :=
  t_two (t_in ha hb hm) (t_din hu ha hb hm) (asB_two (bind2_two fun s x y z h => by
    unfold inA at h
    split at h
    · exact .inr h
    · exact .inl h))
theorem t_notinA (hu : X.A.units + 1 < cLine) (ha : PE X a (tB X.K O fa)) (hb : PE X b (tB X.K O fb)) (hm : behindInMarks .NotIn b = false := by rfl) : PT X (.Compare a [.NotIn] [b] pos) (tT X.K O (asB (bind2 fa fb notinA))) :=
  t_two (t_notIn ha hb hm) (t_dnotin hu ha hb hm) (asB_two (bind2_two fun s x y z h => by
    unfold notinA at h
    split at h
    · exact .inr h
    · exact .inl h))
theorem d_inA (hu : X.A.units + 1 < cLine) (ha : PE X a (tB X.K O fa)) (hb : PE X b (tB X.K O fb)) (hm : behindInMarks .In b = false := by rfl) : PE X (.Compare a [.In] [b] pos) (tD X.K O (bind2 fa fb inA)) :=
  d_two (d_in ha hb hm) (d_din hu ha hb hm) (bind2_two fun s x y z h => by
    unfold inA at h
    split at h
    · exact .inr h
    · exact .inl h)
theorem lcF_lst {fi : Fi} {st : Tg} {tt : Ft} {te : Fe} {vs : List Nat} (env : Env) (s : Sto) (d : Dt) (s' : Sto) (h : lcF fi st tt te vs env s = some (d, s')) : ∃ xs, d = .lst xs := by
  unfold lcF at h
  split at h
  · split at h
    · split at h <;> cases h
      exact ⟨_, rfl⟩
    · cases h
  · cases h
theorem lc2F_lst {fi : Fi} {st : Tg} {fi1 : Fi} {st1 : Tg} {tt1 : Ft} {te : Fe} {vs vs1 : List Nat} (env : Env) (s : Sto) (d : Dt) (s' : Sto) (h : lc2F fi st fi1 st1 tt1 te vs vs1 env s = some (d, s')) : ∃ xs, d = .lst xs := by
  unfold lc2F at h
  split at h
  · split at h
    · split at h <;> cases h
      exact ⟨_, rfl⟩
    · cases h
  · cases h
theorem dn_imp {K : PySem.W.Frag} (hz : ∀ env s d s', f env s = some (d, s') → ∃ xs, d = .lst xs) (σ : L2.St) (H : Hp) (Q : VK) (h : tD K O f σ H Q) : tN K O f σ H Q := by
  obtain ⟨g, F, env, s, d, s', st, hf, k⟩ := h
  exact ⟨g, F, env, s, d, s', st, hf, fun p o F' H' x b n n' e r => by
    obtain ⟨x1, b1⟩ := x.frost b n n' e (st.bs.nofree n)
    obtain ⟨xs, rfl⟩ := hz _ _ _ _ hf
    cases r with
    | lst r => exact k (.ref p) _ H' x1 b1 (ObR.rep (.lst r) n')⟩
theorem a_d_of_n {tg : Expr} {gg : TG} (h : PS X (.Assign [tg] e pos) (tAsg (tN X.K O f) gg)) (hz : ∀ env s d s', f env s = some (d, s') → ∃ xs, d = .lst xs := by first | exact lcF_lst | exact lc2F_lst) : PS X (.Assign [tg] e pos) (tAsg (tD X.K O f) gg) := asg_imp h fun σ H Q q => dn_imp hz σ H Q q
end
section
variable {X : Cx} {O : List Nat} {elt tg iter tg1 iter1 : Expr} {ifs ifs1 : List Expr} {scope : Scope} {own : List (Str × Nat)} {pos spos py : Pos} {fi fi1 : Fi} {tt tt1 : Ft} {te : Fe} {y : Str}
theorem a_lc {z i : Nat} (hc : X.calm = true) (hN : X.N.Nodup) (hy : X.N[z]? = some y) (hyl : X.env.scope.names.lookup y = some .local) (hsw : swapsWith (.ListComp elt [⟨tg, iter, ifs, 0⟩] scope pos) (some (.Name y py)) spos.line X.env = pure true) (hi : PI X tg iter (tI X.K O fi)) (ok : BlkOk X.N X.env.scope scope own)
    (hg : ∀ (s : Shared) (H : Hp) (C : Addr) (cl : List (Str × Addr)) (fp : List Addr), PG (X.blk s H scope (compEnvC scope cl C X.env) fp) tg (gName i))
    (ht : ∀ (s : Shared) (H : Hp) (C : Addr) (cl : List (Str × Addr)) (fp : List Addr), PTs (X.blk s H scope (compEnvC scope cl C X.env) fp) ifs (tT X.K O tt))
    (he : ∀ (s : Shared) (H : Hp) (C : Addr) (cl : List (Str × Addr)) (fp : List Addr), PE (X.blk s H scope (compEnvC scope cl C X.env) fp) elt (tD X.K O te))
    (hv : ∀ j, j ∈ own.map (·.2) → j ∉ O := by decide) (hm : i ∈ own.map (·.2) := by decide) (hs : ∀ x, foldedSetIterable iter X.env x = pure x := by intro _; rfl) :
    PS X (.Assign [.Name y py] (.ListComp elt [⟨tg, iter, ifs, 0⟩] scope pos) spos) (tAsg (tN X.K O (lcF fi (tgN i) tt te (own.map (·.2)))) (gName z)) :=
  asg_imp (ps_setLc hc hN hy hyl hsw hi ok hg ht he hs) fun σ H Q q => lc_n hv (nameT (hv i hm)) (fun v σ H Q h => ⟨wipe_set _ _ hm (wipe_wipe _ _), h⟩) (fun _ _ _ h => h) σ H Q q
end
def AL (n : Nat) (fa : Fa) : Prop := ∀ env s ds s', fa env s = some (ds, s') → ds.length = n
theorem al_nil : AL 0 aNil := fun env s ds s' h => by cases h; rfl
theorem al_cons {n : Nat} {f : Fe} {r : Fa} (h : AL n r) : AL (n + 1) (aCons f r) := fun env s ds s' q => by
  obtain ⟨x, s1, xs, q1, q2, rfl⟩ := aCons_some q
  rw [List.length_cons, h _ _ _ _ q2]
structure Cg (P : Program) (w : World) (K : PySem.W.Frag) (mg : Str → Option Value) (base : Heap) (k : Nat) (x : Str) (st : Stmt) (ps : List Str) (Fn : List Dt → Sto → Option (Dt × Sto)) : Prop where
  ex : ∃ f fd, L2.Fun K x x st f fd ∧ FnG P w K mg base k f fd ps (spF K ps.length Fn) ∧ mg x = some (.ref f) ∧ Binds K fd ps []
section
variable {X : Cx} {O : List Nat} {j k : Nat} {ps : List Str} {x : Str} {st : Stmt} {p pos : Pos} {e : Expr} {es : List Expr} {fa : Fa} {Fn : List Dt → Sto → Option (Dt × Sto)}
theorem d_cg (C : Cg X.prog X.w X.K X.mg X.base k x st ps Fn) (hr : Room j X.A) (hk : k ≤ j) (hgd : X.A.guards = some []) (hg : Gl X x) (ha : PA X (e :: es) (tAD X.K O fa)) (hal : AL (es.length + 1) fa) (hn : ps.length = es.length + 1 := by rfl)
    (hdb : (x == ("__debug__" : Str)) = false := by decide) (he : starEach (e :: es) X.env = (false, eval e X.env) :: starEach es X.env := by rfl)
    (hpl : (backTo pos (starEach es X.env)).any (·.1) = false := by rfl) : PE X (.Call (.Name x p) (e :: es) [] pos) (tD X.K O (callF Fn fa)) := by
  obtain ⟨f, fd, F, G, m, b⟩ := C.ex
  exact d_call G (hr.mono hk) hgd hg m F.kp b ha hn hal hdb he hpl
theorem d_cg0 (C : Cg X.prog X.w X.K X.mg X.base k x st ps Fn) (hr : Room j X.A) (hk : k ≤ j) (hgd : X.A.guards = some []) (hg : Gl X x) (hn : ps = [] := by rfl) (hdb : (x == ("__debug__" : Str)) = false := by decide) : PE X (.Call (.Name x p) [] [] pos) (tD X.K O (callF Fn aNil)) := by
  obtain ⟨f, fd, F, G, m, b⟩ := C.ex
  subst hn
  refine ⟨fun pins s σ H Q I ⟨g, F0, env, s0, d, s', stt, hf, kk⟩ => ?_⟩
  refine wpAny_Call_Name_kw (ld_glob I hg m ?_ hdb)
  exact PySem.W.callWith_K0 I.kIn F.kp (run_g (ar := ⟨[], []⟩) G (hr.mono hk) hgd I .nil (fun _ => b s [] I.kIn rfl) ⟨g.ft, F0, s0, [], d, s', rfl, stt.bs, .nil, hf, fun v F2 H2 x2 b2 r2 => kk v F2 H2 x2 b2 r2⟩)
end
end DL

namespace DL
open PySem PySem.Spec PyProof.Rows L2
section
variable {X : Cx} {O : List Nat} {j k : Nat} {ps ks : List Str} {x : Str} {st : Stmt} {p pos : Pos} {kws : List Keyword} {fk : Fa} {Fn : List Dt → Sto → Option (Dt × Sto)}
theorem d_cgK (C : Cg X.prog X.w X.K X.mg X.base k x st ps Fn) (hr : Room j X.A) (hk : k ≤ j) (hgd : X.A.guards = some []) (hg : Gl X x) (ix : List Nat) (ks : List Str)
    (hb : ∀ (kV doc pm : Value) (an : Option Addr) (cdv ct : Value) (ws : List Value), ws.length = kws.length → bindArgs (PySem.W.fnOf x x (defArgs st) (defBody st) (defScope st) .none kV doc pm an cdv ct) ⟨[], ks.zip ws⟩ = pure (ps.zip (permL ix ws)))
    (hkw : PK X kws (tAD X.K O fk)) (hal : AL kws.length fk) (hix : ∀ ds : List Dt, ds.length = kws.length → (permL ix ds).length = ps.length)
    (hall : (backToKw pos (keywordEach kws X.env)).all (·.1.isSome) = true := by rfl) (hks : (backToKw pos (keywordEach kws X.env)).filterMap (·.1) = ks := by rfl)
    (hdb : (x == ("__debug__" : Str)) = false := by decide) (hpl : (backToKw pos (keywordEach kws X.env)).any (·.1.isNone) = false := by rfl) :
    PE X (.Call (.Name x p) [] kws pos) (tD X.K O (callF (fun ds s => Fn (permL ix ds) s) fk)) := by
  obtain ⟨f, fd, F, G, m, b⟩ := C.ex
  refine d_callK G (hr.mono hk) hgd hg m F.kp ix (fun s ws hl => ?_) hkw hal hix hall hks hdb hpl
  obtain ⟨oc, od, kV, doc, pm, an, cdv, ct, osl, rfl, lk, hcd⟩ := F.ex
  exact .of_eq (hb kV doc pm an cdv ct ws hl)
end
theorem call_tupA {X : Cx} : CallR X (.type "tuple") (rTupF X.K) := call_tupF
end DL

namespace DL
open PySem PySem.Spec PyProof.Rows L2
theorem beq_val (v : Value) : (v == v) = true := beq_self_eq_true v
theorem call_sortP {X : Cx} : CallR X (.builtin "sorted") (rSortP X.K) := by
  intro pins s σ H vs us Q I r ⟨α, es, ad, ky, sv, a, ex, hs, ht, hi, q⟩
  subst ex
  obtain ⟨its, rv, hl, hz⟩ := I.list hs
  rw [Vals.ref1 r]
  have ei : its = es.map fun e => Value.ref (ad e) := by
    have z : ∀ (l : List α) (us : List Value), Vals (l.map fun e => V.ref (ad e)) us → us = l.map fun e => Value.ref (ad e) := by
      intro l
      induction l with
      | nil => intro us h; cases h; rfl
      | cons e l ih =>
        intro us h
        cases h with
        | cons h1 h2 => cases h1; rw [ih _ h2]; rfl
    exact z es its rv
  subst ei
  rw [List.length_map] at hz
  -- each tuple as it stands
  have hT : ∀ e, e ∈ es → ∃ (o : Obj) (t : Tok) (u : Value) (n : Nat), s.heap.get? (ad e) = some o ∧ o.cls = .type "tuple" ∧ o.data = .seq #[.str (ky e) t, u] n := fun e he => by
    obtain ⟨jts, rj, ⟨o, ho, hc, n, hd⟩, _⟩ := I.tuple (ht e he)
    cases rj with
    | cons r1 r2 =>
      cases r2 with
      | cons r3 r4 =>
        cases r4
        obtain ⟨t, rfl⟩ := r1
        exact ⟨o, t, _, n, ho, hc, hd⟩
  have same : ∀ e e', e ∈ es → e' ∈ es → ad e = ad e' → ky e = ky e' := fun e e' he he' z => by
    obtain ⟨o, t, u, n, h1, _, h3⟩ := hT e he
    obtain ⟨o', t', u', n', h1', _, h3'⟩ := hT e' he'
    rw [z, h1'] at h1
    cases h1
    rw [h3'] at h3
    injection h3 with h3 h4
    have h5 := congrArg Array.toList h3
    injection h5 with h6 h7
    injection h6 with h8 h9
    exact h8.symm
  refine PyProof.Rows.G.sortedG (κ := tabKind ad ky es) (kd := tuples' true) (vs := es.map fun e => Value.ref (ad e)) hl.isList (fun p hp => ?_) (fun s2 kt A E x y ca cb R hx hy hq => ?_) (fun h2 A E s2 R kt hq => ?_) (by rw [List.length_map]; exact hz) (fun st' h1 h2 h3 => ?_)
  · rw [pairsOf_toList] at hp
    have z := (mem_zip_self hp).2
    obtain ⟨e, he, e1⟩ := List.mem_map.mp z
    rw [← e1]
    exact tab_has he
  · obtain ⟨e1, m1, rfl, rfl⟩ := tab_some hx
    obtain ⟨e2, m2, rfl, rfl⟩ := tab_some hy
    obtain ⟨o1, t1, u1, n1, g1, c1, d1⟩ := hT e1 m1
    obtain ⟨o2, t2, u2, n2, g2, c2, d2⟩ := hT e2 m2
    refine PySem.W.kat_lt (kt _ _ g1 c1) d1 (kt _ _ g2 c2) d2 ?_
    by_cases ek : ky e1 = ky e2
    · have ee := hi e1 e2 m1 m2 ek
      subst ee
      rw [g1] at g2; cases g2
      rw [d1] at d2
      injection d2 with d2 _
      rw [← d2]
      have z : decide ((#[Value.str (ky e1) t1, u1] : Array Value).size < (#[Value.str (ky e1) t1, u1] : Array Value).size) = false := decide_eq_false (Nat.lt_irrefl _)
      rw [z]
      refine kat_same beq_val ?_ _ 0
      have z2 : (tabKind ad ky es).blt (ky e1).cps.toList (ky e1).cps.toList = false := (tabKind ad ky es).irrefl _
      rw [z2] at hq
      exact hq
    · refine PySem.W.kat_cons (wpAny_eqBool_str ?_)
      rw [decide_eq_false ek]
      exact PySem.W.kat_no (oneLt_any_str hq)
  · have hne : 0 < (es.map fun e => Value.str (ky e) 0).length := by
      rw [List.length_map] at h2 ⊢
      omega
    have tt : ∀ l : List α, (∀ e, e ∈ l → e ∈ es) → ∃ fs : List Value, fs.length = l.length ∧ TupsOf s2.heap (fun _ => true) (l.map fun e => Value.ref (ad e)) fs := by
      intro l
      induction l with
      | nil => exact fun _ => ⟨[], rfl, .nil⟩
      | cons e l ih =>
        intro hm
        obtain ⟨fs, hl, tl⟩ := ih fun e' h' => hm e' (List.mem_cons_of_mem _ h')
        obtain ⟨o1, t1, u1, n1, g1, c1, d1⟩ := hT e (hm e List.mem_cons_self)
        exact ⟨.str (ky e) t1 :: fs, by rw [List.length_cons, List.length_cons, hl], .cons ⟨_, o1, _, n1, rfl, kt _ _ g1 c1, c1, d1, rfl, (fun z => by cases z), fun _ => ⟨_, _, rfl⟩⟩ tl⟩
    obtain ⟨fs, hf, tl⟩ := tt es fun _ h => h
    refine tup_kind (by rw [hf]; rw [List.length_map] at h2; omega) tl hq
  · have hp : (arrOf st').toList.Perm (es.map fun e => (Value.ref (ad e), Value.ref (ad e))) := by
      have z := h1.toList
      rw [pairsOf_toList] at z
      rw [List.zip_map', ] at z
      exact z
    obtain ⟨es', pe, ee⟩ := perm_map_inv hp rfl
    have eo : ((arrOf st').map (·.2)).toList = es'.map fun e => Value.ref (ad e) := by
      rw [Array.toList_map, ee, List.map_map]
      rfl
    obtain ⟨ep, he'⟩ := PyProof.Rows.sortedAll_at s.heap (es.map fun e => Value.ref (ad e)) ((arrOf st').map (·.2))
    have hsz : es'.length = es.length := pe.length_eq
    have asz : (arrOf st').size = es'.length := by rw [← Array.length_toList, ee, List.length_map]
    have hkk : ∀ i (h : i < es'.length), KK (tabKind ad ky es) (arrOf st') i = (ky es'[i]).cps.toList := fun i h => by
      have m : es'[i] ∈ es := pe.mem_iff.mp (List.getElem_mem h)
      have g : (arrOf st')[i]? = some (Value.ref (ad es'[i]), Value.ref (ad es'[i])) := by
        rw [← Array.getElem?_toList, ee, List.getElem?_map, List.getElem?_eq_getElem h]
        rfl
      unfold KK
      rw [g]
      obtain ⟨c, hc⟩ := tab_has (ad := ad) (ky := ky) m
      show ((tabKind ad ky es).keyOf (Value.ref (ad es'[i]))).getD _ = _
      rw [hc]
      obtain ⟨e1, m1, f1, f2⟩ := tab_some hc
      injection f1 with f1
      rw [f2, same _ _ m m1 f1]
      rfl
    have pw : es'.Pairwise (fun x y => leS (ky x) (ky y)) := by
      rw [List.pairwise_iff_getElem]
      intro i j h4 h5 h6
      have z : (tabKind ad ky es).kle (KK (tabKind ad ky es) (arrOf st') i) (KK (tabKind ad ky es) (arrOf st') j) := h2 i j (Nat.le_of_lt h6) (by rw [pairsOf_size, List.length_map]; omega)
      rw [hkk i h4, hkk j h5] at z
      exact of_decide_eq_false z
    refine ⟨.ref _, upd H (s.heap.objs.size + 1) (.lst (es'.map fun e => V.ref (ad e))), I.laid (t' := s.toks) (fun _ _ => PyProof.Rows.sortedAll_old) (Nat.le_succ _) ⟨by rw [List.length_map, hsz]; exact hz, es'.map fun e => Value.ref (ad e), ep, ?_, ?_⟩, rfl, q es' _ pe pw (I.hok.fresh (Nat.le_succ _))⟩
    · have z : ∀ l : List α, Vals (l.map fun e => V.ref (ad e)) (l.map fun e => Value.ref (ad e)) := fun l => by
        induction l with
        | nil => exact .nil
        | cons e l ih => exact .cons rfl ih
      exact z es'
    · rw [he', ← eo]
end DL

namespace DL
open PySem PySem.Spec PyProof.Rows L2
def pairsS : List Dt → Option (List (Str × Dt))
  | [] => some []
  | .tup [.str k, d] :: r => (pairsS r).map ((k, d) :: ·)
  | _ => none
theorem pairsS_map : ∀ {ds : List Dt} {ps : List (Str × Dt)}, pairsS ds = some ps → ds = ps.map fun p => .tup [.str p.1, p.2]
  | [], _, h => by cases h; rfl
  | d :: r, ps, h => by
    unfold pairsS at h
    split at h
    · rename_i e; cases e
    · rename_i k d' r' e
      cases e
      cases q : pairsS r with
      | none => rw [q] at h; cases h
      | some qs =>
        rw [q] at h
        cases h
        rw [pairsS_map q]
        rfl
    · cases h
def sortedPG (_ : Sto) : List Dt → Option Dt
  | [.lst xs] => match pairsS xs with
    | some ps => if (ps.map (·.1)).Nodup then some (.lst ((sortK (·.1) ps).map fun p => .tup [.str p.1, p.2])) else none
    | none => none
  | _ => none
theorem inj_of_nodup {α β : Type} {f : α → β} : ∀ {l : List α}, (l.map f).Nodup → ∀ a b, a ∈ l → b ∈ l → f a = f b → a = b
  | [], _, _, _, h, _, _ => absurd h List.not_mem_nil
  | x :: l, h, a, b, ha, hb, e => by
    rw [List.map_cons, List.nodup_cons] at h
    rcases List.mem_cons.mp ha with rfl | ha'
    · rcases List.mem_cons.mp hb with rfl | hb'
      · rfl
      · exact absurd (e ▸ List.mem_map.mpr ⟨b, hb', rfl⟩) h.1
    · rcases List.mem_cons.mp hb with rfl | hb'
      · exact absurd (e ▸ List.mem_map.mpr ⟨a, ha', rfl⟩) h.1
      · exact inj_of_nodup h.2 a b ha' hb' e
theorem reps_pairs {K : PySem.W.Frag} {F : Hp} : ∀ {ps : List (Str × Dt)} {vs : List V}, Reps K F vs (ps.map fun p => .tup [.str p.1, p.2]) → ∃ es : List (Addr × V × Str × Dt), vs = es.map (fun e => V.ref e.1) ∧ ps = es.map (·.2.2) ∧ ∀ e, e ∈ es → SqT K F e.1 [.str e.2.2.1, e.2.1] ∧ Rep K F e.2.1 e.2.2.2
  | [], vs, h => by cases h; exact ⟨[], rfl, rfl, fun e he => absurd he List.not_mem_nil⟩
  | p :: ps, vs, h => by
    cases h with
    | cons h1 h2 =>
      obtain ⟨es, e1, e2, e3⟩ := reps_pairs h2
      cases h1 with
      | tup g1 gp g2 =>
        cases g2 with
        | cons r1 t1 =>
          cases t1 with
          | cons r2 t2 =>
            cases t2
            cases r1
            rename_i a v
            refine ⟨(a, v, p.1, p.2) :: es, by rw [e1]; rfl, by rw [e2]; rfl, fun e he => ?_⟩
            rcases List.mem_cons.mp he with rfl | he'
            · exact ⟨g1, r2⟩
            · exact e3 e he'
theorem cn_sortedP {K : PySem.W.Frag} : CallN K (rSortP K) sortedPG := by
  intro ft F H s vs xs z Q b rx hg k
  unfold sortedPG at hg
  split at hg
  · split at hg
    · rename_i ds ps q
      split at hg <;> cases hg
      rename_i hn
      obtain ⟨v, rfl, r⟩ := pair1 rx
      obtain ⟨a, vs, rfl, e, rs⟩ := r.lst b
      rw [pairsS_map q] at rs
      obtain ⟨es, rfl, rfl, h3⟩ := reps_pairs rs
      rw [List.map_map] at hn
      have hi : ∀ e e', e ∈ es → e' ∈ es → e.2.2.1 = e'.2.2.1 → e = e' := inj_of_nodup hn
      refine ⟨_, es, fun e => e.1, fun e => e.2.2.1, fun e => e.2.1, a, rfl, SqL.of e, fun e he => sqT_same b.sub (h3 e he).1, hi, fun es' p pm so np => k p _ np (.lst ?_)⟩
      have ez : es' = sortK (fun e => e.2.2.1) es := sortK_eq pm so hi
      have e2 : sortK (fun p : Str × Dt => p.1) (es.map (·.2.2)) = es'.map (·.2.2) := by
        rw [ez]
        exact (sortK_map (k := fun p : Str × Dt => p.1) (f := fun e : Addr × V × Str × Dt => e.2.2) es).symm
      rw [e2]
      have fin : ∀ l : List (Addr × V × Str × Dt), (∀ e, e ∈ l → e ∈ es) → Reps K F (l.map fun e => V.ref e.1) ((l.map (·.2.2)).map fun p => Dt.tup [.str p.1, p.2]) := by
        intro l
        induction l with
        | nil => exact fun _ => .nil
        | cons e l ih =>
          intro hm
          obtain ⟨g1, g2⟩ := h3 e (hm e List.mem_cons_self)
          exact .cons (.tup g1 (.inr (.inr ⟨_, _, rfl, fun b z => by cases z⟩)) (.cons (.str _) (.cons g2 .nil))) (ih fun e' h' => hm e' (List.mem_cons_of_mem _ h'))
      exact fin es' fun e he => pm.mem_iff.mp he
    · cases hg
  · cases hg
def sortedG_ (s : Sto) (xs : List Dt) : Option Dt := match sortedStrG s xs with
  | some d => some d
  | none => match sortedPG s xs with
    | some d => some d
    | none => sortedIntG s xs
theorem call_sortedA {X : Cx} : CallR X (.builtin "sorted") (fun vs H Q => rSortedTA X.K vs H Q ∨ (rSortP X.K vs H Q ∨ rSortedIA X.K vs H Q)) := CallR.or cr_sortedTA (CallR.or call_sortP cr_sortedIA)
theorem cn_sortedA {K : PySem.W.Frag} : CallN K (fun vs H Q => rSortedTA K vs H Q ∨ (rSortP K vs H Q ∨ rSortedIA K vs H Q)) sortedG_ := by
  intro ft F H s vs xs z Q b rx hg k
  unfold sortedG_ at hg
  split at hg
  · rename_i d q
    cases hg
    exact .inl (cn_sortedStr ft F H s vs xs _ Q b rx q k)
  · split at hg
    · rename_i d q
      cases hg
      exact .inr (.inl (cn_sortedP ft F H s vs xs _ Q b rx q k))
    · exact .inr (.inr (cn_sortedInt ft F H s vs xs _ Q b rx hg k))
def pairD (kv : Key × Dt) : Dt := .tup [keyD kv.1, kv.2]
theorem walk_items {K : PySem.W.Frag} {ft : List Addr} {F1 : Hp} {p : Addr} {od : Obj} {kvs : List (Key × V)} {ks : List (Key × Dt)} (hp : F1 p = some (.frz od (.dK kvs))) (r : Repk K F1 kvs ks) : WalkJ K ft F1 (Iti p od kvs) (ks.map pairD) := fun F H s i e b => by
  have ep : H p = some (.frz od (.dK kvs)) := b.sub p _ (e p _ hp)
  have hl := r.length
  refine ⟨fun h => ⟨ep, by rw [List.length_map] at h; omega⟩, fun d hd => ?_⟩
  rw [List.getElem?_map] at hd
  cases q : ks[i]? with
  | none => rw [q] at hd; cases hd
  | some kd =>
    obtain ⟨k, d'⟩ := kd
    rw [q] at hd
    cases hd
    obtain ⟨v, e1, r1⟩ := Repk.get r q
    have hlt : i < kvs.length := (List.getElem?_eq_some_iff.mp e1).1
    refine ⟨⟨ep, hlt⟩, fun x H3 ⟨T, k2, v2, f1, f2, f3, f4⟩ => ?_⟩
    rw [e1] at f1; cases f1
    subst f2 f4
    obtain ⟨x1, b1⟩ := Go.lay (o := .tup [kV k, v]) b f3
    refine ⟨_, x1, b1, .tup (.inl (.inl upd_same)) (.inr (.inr ⟨_, _, rfl, fun b z => ?_⟩)) (.cons (rep_key k) (.cons (Rep.mono (e.trans x1.sam) _ _ r1) .nil))⟩
    cases k <;> cases z
def itemsI (f : Fe) : Fi := fun env s => match f env s with
  | some (.dct ks, s') => some (ks.map pairD, s')
  | _ => none
theorem i_items {X : Cx} {O : List Nat} {tg iter : Expr} {f : Fe} (h : PI X tg iter (iItems (tD X.K O f))) : PI X tg iter (tI X.K O (itemsI f)) := pi_imp h fun σ H R ⟨g, F, env, s, ds, s', st, hf, k⟩ => by
  unfold itemsI at hf
  split at hf
  · rename_i ks s1 q
    cases hf
    refine ⟨g, F, env, s, _, _, st, q, fun v F' H' x b r => ?_⟩
    cases r with
    | dct h1 h2 => exact ⟨_, _, _, rfl, b.sub _ _ h1, k _ F' H' x b (walk_items h1 h2)⟩
  · cases hf
end DL

namespace DL
open PySem PySem.Spec PyProof.Rows L2
section
variable {X : Cx} {O : List Nat} {e : Expr} {f : Fe}
theorem px_n (h : PE X e (tN X.K O f)) : PE X e (tX true X.K O f) := h
theorem px_d (h : PE X e (tD X.K O f)) : PE X e (tX false X.K O f) := h
end
end DL

namespace DL
open PySem PySem.Spec PyProof.Rows L2
theorem law_callG {P : Program} {w : World} {K : PySem.W.Frag} {gl bl : Str → Option Value} {n : Nat} {fl sc : Addr} {fd : FuncData} {pa : Str} {sp : Sp} {t : Shared} {us : List Value} {js : List Int}
    (hK : K.In t.heap) (h1 : t.heap.Ns mainGlobals gl) (h2 : t.heap.Ns builtinsNs bl) (h3 : ∀ y : Str, y ≠ "__name__" → bl y = bootBuiltins y) (h4 : t.heap.NoLimit) (h5 : t.gens = #[])
    (h6 : t.heap.get? sc = some { cls := .type "list", data := .seq us.toArray }) (h7 : IntsAre us js) (h8 : js.length ≤ sizeLine) (room : Room n callerA)
    (G : ∀ bs : Heap, K.In bs → bs.Ns mainGlobals gl → FnG P w K gl bs n fl fd [pa] sp) (hbd : ∀ (r : Shared) (u : Value), BindsTo r fd ⟨[u], []⟩ [(pa, u)])
    (want : ∀ H : Hp, L2.Only H → SqL K H sc (js.map V.int) → sp [.ref sc] H (fun v _ => v = .bl true) fun _ _ _ => False) :
    codeAny (model P w) callerA (.call (.ref fl) ⟨[.ref sc], []⟩) (fun o t' => o = .ok (.ret (.bool true)) ∧ OldK t.heap t'.heap ∧ t'.os = t.os ∧ AllBare t'.gens) t := by
  have vals := vals_ints h7
  have usl := h7.length
  have main : ∀ H : Hp, L2.Only H → SqL K H sc (js.map V.int) → HOk P w H t.heap → (∀ c, H c ≠ none → c = sc) → (H sc ≠ none → K.lookup sc = none) →
      codeAny (model P w) callerA (.call (.ref fl) ⟨[.ref sc], []⟩) (fun o t' => o = .ok (.ret (.bool true)) ∧ OldK t.heap t'.heap ∧ t'.os = t.os ∧ AllBare t'.gens) t := by
    intro H on sq ok tr kn
    have bo : ∀ {c : Addr} {ob : Obj}, t.heap.get? c = some ob → H c = none → (hidT t.heap H).get? c = some ob := fun x y => hidT_get x y
    have nd : ∀ {c : Addr} {ob : Obj} {en : Array DictEntry} {i : Nat}, t.heap.get? c = some ob → ob.data = .dict en i → H c = none := fun {c ob en i} x y => by
      cases z : H c with
      | none => rfl
      | some q =>
        have cc : c = sc := tr c (by rw [z]; simp)
        subst cc
        rw [h6] at x
        cases x
        have y' : Data.seq us.toArray _ = Data.dict en i := y
        cases y'
    have ns : ∀ {c : Addr} {m : Str → Option Value}, t.heap.Ns c m → (hidT t.heap H).Ns c m := fun {c m} ⟨ob, en, i, x, y, r⟩ => ⟨ob, en, i, bo x (nd x y), y, r⟩
    have kin : K.In (hidT t.heap H) := fun c ob x => bo (hK c ob x) (by
      cases z : H c with
      | none => rfl
      | some q =>
        have cc : c = sc := tr c (by rw [z]; simp)
        subst cc
        rw [kn (by rw [z]; simp)] at x
        cases x)
    have mo : Mod K gl (hidT t.heap H) := ⟨kin, ns h1, ⟨bl, ns h2, h3⟩, let ⟨mc, x, y⟩ := h4; ⟨mc, ns x, y⟩⟩
    have en0 : Env0 P w K gl (hidT t.heap H) callerA [] t H := ⟨rfl, mo, fun c ob x => of_hidT x, Nat.le_of_eq (hidT_size _ _), trivial, fun c x => absurd (show c ∈ ([] : List Addr) from x) (by simp), ok, .of_eq h5⟩
    refine codeAny_mono ((G _ kin (ns h1)).run callerA [] t H ⟨[.ref sc], []⟩ [.ref sc] [.ref sc] _ _ room rfl en0 (hbd t (.ref sc)) (.cons rfl .nil) (want H on sq)) fun o t' x => ?_
    match o, x with
    | .error _, x => exact x.elim
    | .ok .next, x => exact x.elim
    | .ok .brk, x => exact x.elim
    | .ok .cont, x => exact x.elim
    | .ok (.ret u), x =>
      obtain ⟨v, H', a1, a2, a3, a4, a5, a6⟩ := x
      have a6' : v = .bl true := a6
      subst a6'
      have a5' : u = Value.bool true := a5
      subst a5'
      refine ⟨rfl, OldK.of_keep fun c ob x => ?_, a1, a2⟩
      cases z : H c with
      | none => exact a3.keep c ob x z (by intro y; exact absurd (show c ∈ ([] : List Addr) from y) (by simp)) (by simp)
      | some q =>
        rcases on c with y | ⟨ob2, xs, y⟩
        · rw [z] at y; cases y
        · obtain ⟨b1, _⟩ := ok c _ y
          obtain ⟨b2, _⟩ := a4 c _ (a3.frzs c ob2 _ y)
          rw [x] at b1; cases b1
          exact b2
  cases hk : K.lookup sc with
  | some ob =>
    have x := hK sc ob hk
    rw [h6] at x
    cases x
    exact main (fun _ => none) (fun _ => .inl rfl) (.inr ⟨_, us.toArray, _, hk, rfl, rfl, rfl, by rw [List.size_toArray, usl]; exact h8, by simpa using vals⟩) (fun c q z => nomatch (show (none : Option HO) = some q from z)) (fun c z => absurd rfl z) fun z => absurd rfl z
  | none =>
    let LO : HO := .frz { cls := .type "list", data := .seq us.toArray } (.lst (js.map V.int))
    have ey : (if sc = sc then some LO else none) = some LO := if_pos rfl
    refine main (fun c => if c = sc then some LO else none) (fun c => ?_) (.inl (.inr ⟨_, ey⟩)) (fun c q z => ?_) (fun c z => ?_) fun _ => hk
    · by_cases e : c = sc
      · exact .inr ⟨_, _, if_pos e⟩
      · exact .inl (if_neg e)
    · by_cases e : c = sc
      · have z' := (if_pos e).symm.trans z
        cases z'
        subst e
        exact ⟨h6, by rw [List.length_map]; exact h8, us, _, vals, h6⟩
      · have z' := (if_neg e).symm.trans z
        cases z'
    · by_cases e : c = sc
      · exact e
      · exact absurd (if_neg e) z
theorem walk_ofG {l : PySem.W.OpenLaw} {m n : Nat} {q : Program} {lo : List Str} {XP : (Str → Option Value) → Heap → Prop} {YP : World → Heap → Prop} {d : DefRec} {K : Params → PySem.W.Frag} {sp : World → Sp} {pa : Str}
    (hm : l.most = some m) (hz : m ≤ sizeLine) (hd : d.params.defaults = []) (room : Room n callerA) (hY : ∀ (w : World) (h : Heap), YP w h → (K w.params).In h)
    (F : ∀ (w : World) (gl : Str → Option Value) (fl : Addr) (h : Heap), (K w.params).In h → h.Ns mainGlobals gl → gl d.name = some (.ref fl) →
      ∃ fd : FuncData, (∀ (r : Shared) (u : Value), BindsTo r fd ⟨[u], []⟩ [(pa, u)]) ∧ ∀ bs : Heap, (K w.params).In bs → bs.Ns mainGlobals gl → FnG l.prog w (K w.params) gl bs n fl fd [pa] (sp w))
    (want : ∀ (w : World) (H : Hp) (a : Addr) (js : List Int), js.length ≤ m → L2.Only H → SqL (K w.params) H a (js.map V.int) → sp w [.ref a] H (fun v _ => v = .bl true) fun _ _ _ => False) :
    PySem.W.WalkO q lo XP YP l.row.toRowW d [] (fun f vs => PySem.call f vs) := by
  refine Att.attach_call hm hd fun w s₀ s₁ gl bl fl o pm cd doc a vs js G Y ho hcd hc hg hob hin hln hgn => ?_
  obtain ⟨fd, hb, hF⟩ := F w gl fl _ (hY w _ Y) G.T.g hg
  exact law_callG (hY w _ Y) G.T.g G.T.b G.T.builtins G.T.nolimit hgn hob hin (Nat.le_trans hln hz) room hF hb fun H on sq => want w H a js hln on sq

def fourD (ks : List Str) (l : List Int) (x y z : Int) : Option Dt := match ks with
  | [a, b, c, d] => some (.dct [(.inr a, .lst (l.map .int)), (.inr b, .int x), (.inr c, .int y), (.inr d, .int z)])
  | [] => some (.lst [.lst (l.map .int), .int x, .int y, .int z])
  | _ => none
theorem ps_unlk {X : Cx} {st : Stmt} {t : TS} (h : PS X st t) : PS X st (fun D σ H => t ⟨fun σ' H' => D.nx σ' H' ∨ ∃ d od u, H d = none ∧ H' d = some (.frz od u) ∧ D.nx σ' (upd H' d u), D.rt, D.bk, D.ct⟩ σ H) := by
  refine ⟨fun pins s σ H D I hw => thn (h.run pins s σ H _ I hw) fun f s1 q => ?_⟩
  cases f with
  | next =>
    obtain ⟨σ', H', I2, q⟩ := q
    rcases q with q | ⟨d, od, u, hn, e, q⟩
    · exact ⟨σ', H', I2, q⟩
    exact ⟨σ', _, I2.unlock e (fun o' u' z => by have := I.base.frzs d o' u' z; rw [hn] at this; cases this), q⟩
  | brk => exact q
  | cont => exact q
  | ret v => exact q
def tShare (K : PySem.W.Frag) (f1 : Fe) (Fr : Fs) : TS := fun D σ H => ∃ (a : Addr) (js : List Int) (N : List Str) (ks : List Str) (l : List Int) (x y z : Int) (d : Dt), σ = L2.start N [.ref a] ∧ 2 ≤ N.length ∧ SqL K H a (js.map V.int) ∧ fourD ks l x y z = some d ∧
  f1 (some (.scr js) :: List.replicate (N.length - 1) none) [] = some (d, []) ∧ (∀ p, ∃ s', Fr ((some (.scr js) :: List.replicate (N.length - 1) none).set 1 (some (.ref p))) [(p, d)] = some (.rt (.bl true), s')) ∧ ∀ H', D.rt (.bl true) H'
theorem ss_share {X : Cx} {st : Stmt} {rest : List Stmt} {f1 : Fe} {Fr : Fs} {O' : List Nat} (h1 : PS X st (tAsg (tD X.K [] f1) (gName 1))) (h2 : PSs X rest (tS X.K [] [] O' Fr)) : PSs X (st :: rest) (tShare X.K f1 Fr) := pss_imp (pss_cons (ps_unlk h1) h2) fun D σ H ⟨a, js, N, ks, l, x, y, z, d, es, hN, hq, hd, hf, hr, hD⟩ => by
  let ok : HO → Bool := fun o => match o with | .frz _ (.dK _) => false | .lst (.ref _ :: _) => false | _ => true
  let F0 : Hp := fun c => if c = a then (H c).filter ok else none
  have sF : Same F0 H := fun c u e => by
    by_cases hc : c = a
    · have e' : (if c = a then (H c).filter ok else none) = some u := e
      rw [if_pos hc] at e'
      exact (Option.filter_eq_some_iff.mp e').1
    · have e' : (if c = a then (H c).filter ok else none) = some u := e
      rw [if_neg hc] at e'; cases e'
  have eF : ∀ o, H a = some o → ok o = true → F0 a = some o := fun o h1 h2 => by
    show (if a = a then (H a).filter ok else none) = some o
    rw [if_pos rfl, h1]
    exact Option.filter_eq_some_iff.mpr ⟨rfl, h2⟩
  have hq0 : SqL X.K F0 a (js.map V.int) := by
    rcases hq with (h | ⟨o, h⟩) | h
    · exact .inl (.inl (eF _ h (by cases js <;> rfl)))
    · exact .inl (.inr ⟨o, eF _ h rfl⟩)
    · exact .inr h
  have b0 : Bs X.K [] F0 H [] := ⟨sF, rfl, .nil, fun c d h => absurd h List.not_mem_nil, fun c h => absurd h List.not_mem_nil⟩
  have st0 := start_stt (N := N) b0 (.cons (.scr hq0) .nil)
  subst es
  refine ⟨⟨[], H, F0⟩, F0, _, [], d, [], st0, hf, fun v F1 H1 x1 b1 r1 => ?_⟩
  unfold fourD at hd
  split at hd
  · rename_i ka kb kc kd
    cases hd
    cases r1 with
    | @dct p od kvs _ ep rk =>
    have hpa : H p = none := by
      rcases x1.new p _ ep with z | z
      · by_cases c : p = a
        · have z' : (if p = a then (H p).filter ok else none) = some (.frz od (.dK kvs)) := z
          rw [if_pos c] at z'
          have := (Option.filter_eq_some_iff.mp z').2
          exact absurd this Bool.false_ne_true
        · have z' : (if p = a then (H p).filter ok else none) = some (.frz od (.dK kvs)) := z
          rw [if_neg c] at z'; cases z'
      · exact z
    let F2 : Hp := fun c => if c = p then none else F1 c
    have f2 : ∀ c, c ≠ p → F2 c = F1 c := fun c hc => if_neg hc
    have np : ∀ {c : Addr} {o : HO}, F1 c = some o → (∀ od u, o ≠ .frz od (.dK u)) → c ≠ p := fun {c o} e h w => by
      subst w
      rw [ep] at e; cases e
      exact h _ _ rfl
    have hcell : Repk X.K F2 kvs [(.inr ka, .lst (l.map .int)), (.inr kb, .int x), (.inr kc, .int y), (.inr kd, .int z)] := by
      cases rk with
      | cons q1 rk =>
        cases rk with
        | cons q2 rk =>
          cases rk with
          | cons q3 rk =>
            cases rk with
            | cons q4 rk =>
              cases rk
              cases q2; cases q3; cases q4
              cases q1 with
              | lst g1 g2 =>
                rw [Reps.of_ints g2] at g1
                exact .cons (.lst ((f2 _ (np g1 fun _ _ w => by cases w)).trans g1) (Reps.ints _)) (.cons (.int _) (.cons (.int _) (.cons (.int _) .nil)))
    have hscr : SqL X.K F2 a (js.map V.int) := by
      rcases hq0 with (h | ⟨o, h⟩) | h
      · have h' := x1.sam _ _ h
        exact .inl (.inl ((f2 _ (np h' fun _ _ w => by cases w)).trans h'))
      · have h' := x1.sam _ _ h
        exact .inl (.inr ⟨o, (f2 _ (np h' fun _ _ w => by cases w)).trans h'⟩)
      · exact .inr h
    have b2 : Bs X.K [p] F2 (upd H1 p (.dK kvs)) [(p, .dct [(.inr ka, .lst (l.map .int)), (.inr kb, .int x), (.inr kc, .int y), (.inr kd, .int z)])] := by
      refine ⟨fun c u e => ?_, rfl, (by simp), fun c dd h => ?_, fun c h => ?_⟩
      · by_cases hc : c = p
        · have e' : (if c = p then none else F1 c) = some u := e
          rw [if_pos hc] at e'; cases e'
        · rw [upd_ne hc]; exact b1.sub c u ((f2 c hc).symm.trans e)
      · rw [List.mem_singleton] at h
        cases h
        exact ⟨_, upd_same, .dct hcell⟩
      · rw [List.mem_singleton] at h
        exact if_pos h
    obtain ⟨s', hs'⟩ := hr p
    refine .inr ⟨p, od, .dK kvs, hpa, b1.sub _ _ ep, ⟨[p], _, F2⟩, F2, _, _, _, s', ⟨b2, ⟨?_, fun i dd _ e => ?_, fun i hi => absurd hi List.not_mem_nil, fun i j q hi => absurd hi List.not_mem_nil⟩, Go.refl⟩, hs', fun v H' F' _ _ rv => ?_⟩
    · rw [List.length_set, List.length_set]
      exact st0.sl.len
    · by_cases h1 : i = 1
      · subst h1
        rw [List.getElem?_set_self (by rw [List.length_cons, List.length_replicate]; omega)] at e
        cases e
        exact ⟨.ref p, List.getElem?_set_self (by rw [st0.sl.len, List.length_append, List.length_map, List.length_replicate]; show 1 < 1 + _; have : ([Dt.scr js] : List Dt).length = 1 := rfl; omega), .ref p⟩
      · rw [List.getElem?_set_ne (Ne.symm h1)] at e
        cases i with
        | zero =>
          cases e
          refine ⟨.ref a, ?_, .scr hscr⟩
          rw [List.getElem?_set_ne (by decide)]
          obtain ⟨v, g1, g2⟩ := st0.sl.pu 0 _ (by simp) rfl
          cases g2 with
          | scr g3 => 
            have : (L2.start N [V.ref a])[0]? = some (some (.ref a)) := rfl
            exact this
        | succ i =>
          rw [List.getElem?_cons_succ, List.getElem?_replicate] at e
          split at e <;> cases e
    · cases rv
      exact hD H'
  · cases hd
    cases r1 with
    | @lst p vs _ ep rk =>
    have hcl : ∃ q w1 w2 w3, vs = [V.ref q, w1, w2, w3] ∧ F1 q = some (.lst (l.map V.int)) ∧ w1 = .int x ∧ w2 = .int y ∧ w3 = .int z := by
      cases rk with
      | cons q1 rk =>
        cases rk with
        | cons q2 rk =>
          cases rk with
          | cons q3 rk =>
            cases rk with
            | cons q4 rk =>
              cases rk
              cases q2; cases q3; cases q4
              cases q1 with
              | lst g1 g2 =>
                rw [Reps.of_ints g2] at g1
                exact ⟨_, _, _, _, rfl, g1, rfl, rfl, rfl⟩
    obtain ⟨q, w1, w2, w3, rfl, eq, rfl, rfl, rfl⟩ := hcl
    have hpa : H p = none := by
      rcases x1.new p _ ep with zz | zz
      · by_cases c : p = a
        · have z' : (if p = a then (H p).filter ok else none) = some (.lst [V.ref q, .int x, .int y, .int z]) := zz
          rw [if_pos c] at z'
          have := (Option.filter_eq_some_iff.mp z').2
          exact absurd this Bool.false_ne_true
        · have z' : (if p = a then (H p).filter ok else none) = some (.lst [V.ref q, .int x, .int y, .int z]) := zz
          rw [if_neg c] at z'; cases z'
      · exact zz
    let F2 : Hp := fun c => if c = p then none else F1 c
    have f2 : ∀ c, c ≠ p → F2 c = F1 c := fun c hc => if_neg hc
    have np : ∀ {c : Addr} {o : HO}, F1 c = some o → (∀ u t, o ≠ .lst (.ref u :: t)) → c ≠ p := fun {c o} e h w => by
      subst w
      rw [ep] at e; cases e
      exact h _ _ rfl
    have nl : ∀ {m : List Int} (u : Addr) (t : List V), HO.lst (m.map V.int) ≠ .lst (.ref u :: t) := fun {m} u t e => by
      cases m with
      | nil => simp at e
      | cons i m => simp at e
    have hcell : Reps X.K F2 [V.ref q, .int x, .int y, .int z] [.lst (l.map .int), .int x, .int y, .int z] := .cons (.lst ((f2 _ (np eq nl)).trans eq) (Reps.ints _)) (.cons (.int _) (.cons (.int _) (.cons (.int _) .nil)))
    have hscr : SqL X.K F2 a (js.map V.int) := by
      rcases hq0 with (h | ⟨o, h⟩) | h
      · have h' := x1.sam _ _ h
        exact .inl (.inl ((f2 _ (np h' nl)).trans h'))
      · have h' := x1.sam _ _ h
        exact .inl (.inr ⟨o, (f2 _ (np h' fun _ _ w => by cases w)).trans h'⟩)
      · exact .inr h
    have b2 : Bs X.K [p] F2 H1 [(p, .lst [.lst (l.map .int), .int x, .int y, .int z])] := by
      refine ⟨fun c u e => ?_, rfl, (by simp), fun c dd h => ?_, fun c h => ?_⟩
      · by_cases hc : c = p
        · have e' : (if c = p then none else F1 c) = some u := e
          rw [if_pos hc] at e'; cases e'
        · exact b1.sub c u ((f2 c hc).symm.trans e)
      · rw [List.mem_singleton] at h
        cases h
        exact ⟨_, b1.sub _ _ ep, .lst hcell⟩
      · rw [List.mem_singleton] at h
        exact if_pos h
    obtain ⟨s', hs'⟩ := hr p
    refine .inl ⟨⟨[p], _, F2⟩, F2, _, _, _, s', ⟨b2, ⟨?_, fun i dd _ e => ?_, fun i hi => absurd hi List.not_mem_nil, fun i j q hi => absurd hi List.not_mem_nil⟩, Go.refl⟩, hs', fun v H' F' _ _ rv => ?_⟩
    · rw [List.length_set, List.length_set]
      exact st0.sl.len
    · by_cases h1 : i = 1
      · subst h1
        rw [List.getElem?_set_self (by rw [List.length_cons, List.length_replicate]; omega)] at e
        cases e
        exact ⟨.ref p, List.getElem?_set_self (by rw [st0.sl.len, List.length_append, List.length_map, List.length_replicate]; show 1 < 1 + _; have : ([Dt.scr js] : List Dt).length = 1 := rfl; omega), .ref p⟩
      · rw [List.getElem?_set_ne (Ne.symm h1)] at e
        cases i with
        | zero =>
          cases e
          refine ⟨.ref a, ?_, .scr hscr⟩
          rw [List.getElem?_set_ne (by decide)]
          obtain ⟨v, g1, g2⟩ := st0.sl.pu 0 _ (by simp) rfl
          cases g2 with
          | scr g3 => 
            have : (L2.start N [V.ref a])[0]? = some (some (.ref a)) := rfl
            exact this
        | succ i =>
          rw [List.getElem?_cons_succ, List.getElem?_replicate] at e
          split at e <;> cases e
    · cases rv
      exact hD H'
  · cases hd
def spLaw (K : PySem.W.Frag) : Sp := fun vs H Q _ => ∃ (a : Addr) (js : List Int), vs = [.ref a] ∧ SqL K H a (js.map V.int) ∧ js.length ≤ 63 ∧ ∀ H', Q (.bl true) H'
end DL

namespace DL
open PySem PySem.Spec PyProof.Rows L2
structure FnAt (K : PySem.W.Frag) (mg : Str → Option Value) (x : Str) (st : Stmt) : Prop where
  ex : ∃ f fd, L2.Fun K x x st f fd ∧ mg x = some (.ref f)
section
variable {P : Program} {w : World} {K : PySem.W.Frag} {mg : Str → Option Value} {base : Heap} {x : Str} {st : Stmt} {k : Nat} {ps : List Str} {Fn : List Dt → Sto → Option (Dt × Sto)}
theorem fn_at {h : Heap} {f : Addr} {oc : Value} {od an : Option Addr} {osl : Array (Option Value)} {kV doc pm cdv ct : Value} (KX : K.In h) (G : h.Ns mainGlobals mg) (a : PySem.W.nsIn K mainGlobals x = some (some (.ref f)))
    (l : K.lookup f = some ⟨oc, od, .func (PySem.W.fnOf x x (defArgs st) (defBody st) (defScope st) .none kV doc pm an cdv ct), osl⟩) (c : PySem.W.codeIn K cdv x = true) (kp : PySem.W.keepIn K (.ref f) = true) : FnAt K mg x st :=
  ⟨f, _, fun_mk l c kp, PySem.W.mg_of KX G a⟩
theorem cg_mk (A : FnAt K mg x st) (G : ∀ f fd, L2.Fun K x x st f fd → FnG P w K mg base k f fd ps (spF K ps.length Fn))
    (hb : ∀ (kV doc pm : Value) (an : Option Addr) (cdv ct : Value) (us : List Value), us.length = ps.length → bindArgs (PySem.W.fnOf x x (defArgs st) (defBody st) (defScope st) .none kV doc pm an cdv ct) ⟨us, []⟩ = pure (ps.zip us)) : Cg P w K mg base k x st ps Fn := by
  obtain ⟨f, fd, F, m⟩ := A.ex
  exact ⟨f, fd, F, G f fd F, m, F.binds hb⟩
theorem law_at {fl : Addr} {sp : Sp} {pa : Str} (A : FnAt K mg x st) (hm : mg x = some (.ref fl)) (hb : ∀ (kV doc pm : Value) (an : Option Addr) (cdv ct : Value) (u : Value), bindArgs (PySem.W.fnOf x x (defArgs st) (defBody st) (defScope st) .none kV doc pm an cdv ct) ⟨[u], []⟩ = pure [(pa, u)])
    (G : ∀ f fd, L2.Fun K x x st f fd → ∀ base : Heap, FnG P w K mg base k f fd [pa] sp) : ∃ fd : FuncData, (∀ (r : Shared) (u : Value), BindsTo r fd ⟨[u], []⟩ [(pa, u)]) ∧ ∀ bs : Heap, K.In bs → bs.Ns mainGlobals mg → FnG P w K mg bs k fl fd [pa] sp := by
  obtain ⟨f, fd, F, m⟩ := A.ex
  rw [hm] at m
  injection m with m
  injection m with m
  subst m
  refine ⟨fd, fun r u => ?_, fun bs _ _ => G _ _ F bs⟩
  obtain ⟨oc, od, kV, doc, pm, an, cdv, ct, osl, rfl, lk, hcd⟩ := F.ex
  exact .of_eq (hb kV doc pm an cdv ct u)
end
theorem ok_lawS {P : Program} {w : World} {K : PySem.W.Frag} {mg : Str → Option Value} {base : Heap} {x pa : Str} {st : Stmt} {f : Addr} {fd : FuncData} {N : List Str} {k : Nat} {f1 : Fe} {Fr : Fs} (F : L2.Fun K x x st f fd) (S : FnScope N [pa] (defScope st)) (hN : 2 ≤ N.length)
    (hb : ∀ X : Cx, (∃ cdv A outer s H E, X = (cxOf CX0 P w K mg base N x (defScope st) f cdv A outer s H E).nox) → Room k X.A → X.A.guards = some [] → PSs X (defBody st) (tShare K f1 Fr))
    (hL : ∀ js : List Int, js.length ≤ 63 → ∃ ks l y z u d, fourD ks l y z u = some d ∧ f1 (some (.scr js) :: List.replicate (N.length - 1) none) [] = some (d, []) ∧ ∀ p, ∃ s', Fr ((some (.scr js) :: List.replicate (N.length - 1) none).set 1 (some (.ref p))) [(p, d)] = some (.rt (.bl true), s')) :
    FnG P w K mg base (k + 1) f fd [pa] (spLaw K) := by
  refine okG F S (fun vs H Q E ⟨a, js, e, _⟩ => by rw [e]; rfl) fun cdv A outer s H vs Q E hr hg ⟨a, js, e, hq, hl, hQ⟩ => ?_
  subst e
  obtain ⟨ks, l, y, z, u, d, h1, h2, h3⟩ := hL js hl
  exact ⟨_, hb _ ⟨cdv, A, outer, s, H, E, rfl⟩ hr hg, a, js, N, ks, l, y, z, u, d, rfl, hN, hq, h1, h2, h3, hQ⟩
end DL

namespace DL
open PySem PySem.Spec PyProof.Rows L2
theorem fn_then {g : Prop} {K : PySem.W.Frag} {mg : Str → Option Value} (x : Str) (st : Stmt) {h : Heap} {f : Addr} {oc : Value} {od an : Option Addr} {osl : Array (Option Value)} {kV doc pm cdv ct : Value} (KX : K.In h) (G : h.Ns mainGlobals mg) (a : PySem.W.nsIn K mainGlobals x = some (some (.ref f)))
    (l : K.lookup f = some ⟨oc, od, .func (PySem.W.fnOf x x (defArgs st) (defBody st) (defScope st) .none kV doc pm an cdv ct), osl⟩) (c : PySem.W.codeIn K cdv x = true) (kp : PySem.W.keepIn K (.ref f) = true) (go : FnAt K mg x st → g) : g := go (fn_at KX G a l c kp)
theorem no_then {g : Prop} {K : PySem.W.Frag} {mg : Str → Option Value} (x : Str) {h : Heap} (KX : K.In h) (G : h.Ns mainGlobals mg) (a : PySem.W.nsIn K mainGlobals x = some none) (go : mg x = none → g) : g := go (PySem.W.mg_none_of KX G a)
end DL

namespace DL
open PySem PySem.Spec PyProof.Rows L2
end DL

namespace DL
open PySem PySem.Spec PyProof.Rows L2
theorem extend_tup (l : Addr) (items : Array Value) (n : Nat) (b : Addr) (dd : Option Addr) (ss : Array (Option Value)) (items2 : Array Value) (n2 : Nat) (hs0 : ¬(!items.isEmpty && Builtin.List.listTooLong (items.size + items2.size)) = true) (hs1 : items.size ≤ sizeLine) (hs2 : items.size + items2.size ≤ sizeLine + 1) :
    Meets (Builtin.«list.extend» ⟨[.ref l, .ref b], []⟩) (fun _ R s => s.heap.get? l = some { cls := .type "list", dict := none, data := .seq items n, slots := #[] } ∧ s.heap.get? b = some { cls := .type "tuple", dict := dd, data := .seq items2 n2, slots := ss } ∧ R (.ok (.ret Value.none)) { s with heap := s.heap.update l (Obj.mapSeq fun x => x ++ items2), toks := s.toks }) :=
  .of_wp fun prog w A R s h => by
    obtain ⟨hh, hgs, hdr, htk, hos⟩ := s
    obtain ⟨h1, h2, h3⟩ := h
    have q1 := PySem.AutoSeq1.sub_tuple_list
    have q2 := PySem.AutoSeq1.sub_tuple_tuple
    have hsz : (items ++ items2).size ≤ sizeLine + 1 := by rw [Array.size_append]; exact hs2
    wp_walk using (wpAny_updateSeq h1 rfl (hz := hs1) (_hz' := hsz)), PySem.AutoSeq1.wpAny_loadPart' h1, PySem.AutoSeq1.wpAny_loadPart' h2
    exact ⟨_, rfl, h3⟩
def rExtT (K : PySem.W.Frag) : V → List V → Hp → VK → Prop := fun x vs H Q => ∃ l b xs zs, x = .ref l ∧ vs = [.ref b] ∧ H l = some (.lst xs) ∧ SqT K H b zs ∧ xs.length + zs.length ≤ sizeLine ∧ Q .non (upd H l (.lst (xs ++ zs)))
theorem mt_extT {X : Cx} : MtM X "list.extend" (rExtT X.K) := by
  intro pins s σ H x vs v us Q I rx rv h
  obtain ⟨l, b, xs, zs, rfl, rfl, hH, hB, hz, q⟩ := h
  cases rx
  obtain ⟨u, rfl, ru⟩ := rv.one
  cases ru
  obtain ⟨z, its, n, r, hl, e⟩ := I.lstM hH
  obtain ⟨its2, r2, ht, z2⟩ := I.tuple hB
  obtain ⟨o, e2, oc, n2, od⟩ := ht
  obtain ⟨oc', dd, od', ss⟩ := o
  cases oc
  cases od
  have hl2 := r2.length
  have hsz : its.toArray.size + its2.toArray.size ≤ sizeLine := by rw [List.size_toArray, List.size_toArray]; omega
  have hlong : ¬ (!its.toArray.isEmpty && Builtin.List.listTooLong (its.toArray.size + its2.toArray.size)) = true := by
    rw [notLongL hsz, Bool.and_false]
    exact Bool.false_ne_true
  refine call_meets F.slot_list_extend ⟨_, e, rfl⟩ F.entry_list_extend (F.args_list_extend_2 _ _)
    (extend_tup l its.toArray n b dd ss its2.toArray n2 hlong (by rw [List.size_toArray]; omega) (by omega)) ⟨e, e2, ?_⟩
  refine ⟨.non, _, I.lset (its' := its ++ its2) hH e (by simp) (r.append r2) ?_, rfl, q⟩
  rw [List.length_append]
  omega
def rExtA (K : PySem.W.Frag) : V → List V → Hp → VK → Prop := fun x vs H Q => rExtend x vs H Q ∨ rExtT K x vs H Q
theorem mt_extA {X : Cx} : MtM X "list.extend" (rExtA X.K) := by
  intro pins s σ H x vs v us Q I rx rv h
  rcases h with h | h
  · exact mt_extend pins s σ H x vs v us Q I rx rv h
  · exact mt_extT pins s σ H x vs v us Q I rx rv h
def extA (i : Nat) (f : Fe) : Fs := fun env s => match f env s, lstAt env i with
  | some (.lst es, s'), some ds => if ds.length + es.length ≤ sizeLine then some (.nx (env.set i (some (.lst (ds ++ es)))), s') else none
  | some (.tup es, s'), some ds => if ds.length + es.length ≤ sizeLine then some (.nx (env.set i (some (.lst (ds ++ es)))), s') else none
  | _, _ => none
section
variable {X : Cx} {L O : List Nat} {call e : Expr} {i j : Nat} {f fk fv : Fe} {pos : Pos}
theorem s_extA (h : PE X call (tBM X.K "list" (rExtA X.K) (tVar i) (tCons (tB X.K O f) tNil))) (hi : i ∈ O := by decide) (hs : swapsWith call none pos.line X.env = pure false := by rfl) : PS X (.Expr call pos) (tS X.K L O O (extA i f)) := ps_imp (ps_expr h hs) fun D σ H ⟨g, F, env, s, out, s', st, hf, k⟩ => by
  unfold extA at hf
  split at hf
  · rename_i es s1 ds q1 q2
    split at hf <;> cases hf
    rename_i hl
    obtain ⟨p, o, d0, e1, e2, e3, r, n, nf, nh⟩ := st.sl.ow i hi
    rw [lstAt_some q2] at e2
    cases e2
    cases r with
    | lst r =>
      rename_i vs
      refine ⟨.ref p, e1, .inl ⟨rfl, vs, SqL.of e3⟩, g, F, env, s, _, _, st, q1, fun v F1 H1 x1 b1 r1 => ?_⟩
      have st1 := st.step x1 b1
      have e4 : H1 p = some (.lst vs) := x1.ext p _ e3 nf
      obtain ⟨a, us, rfl, e5, r5⟩ := r1.lst b1
      refine .inl ⟨p, a, vs, us, rfl, rfl, e4, e5, by rw [r.length, r5.length]; exact hl, ?_⟩
      exact k σ _ F1 x1.sam (st1.change hi e1 e4 (.lst ((Reps.mono x1.sam _ _ r).append r5)))
  · rename_i es s1 ds q1 q2
    split at hf <;> cases hf
    rename_i hl
    obtain ⟨p, o, d0, e1, e2, e3, r, n, nf, nh⟩ := st.sl.ow i hi
    rw [lstAt_some q2] at e2
    cases e2
    cases r with
    | lst r =>
      rename_i vs
      refine ⟨.ref p, e1, .inl ⟨rfl, vs, SqL.of e3⟩, g, F, env, s, _, _, st, q1, fun v F1 H1 x1 b1 r1 => ?_⟩
      have st1 := st.step x1 b1
      have e4 : H1 p = some (.lst vs) := x1.ext p _ e3 nf
      obtain ⟨a, us, rfl, e5, r5⟩ := r1.tup b1
      refine .inr ⟨p, a, vs, us, rfl, rfl, e4, e5, by rw [r.length, r5.length]; exact hl, ?_⟩
      exact k σ _ F1 x1.sam (st1.change hi e1 e4 (.lst ((Reps.mono x1.sam _ _ r).append r5)))
  · cases hf
end
end DL

namespace DL
open PySem PySem.Spec PyProof.Rows L2
def FUEL : Nat := 1000000000
theorem whileL_mono {c : Ft} {F : Fs} : ∀ {n m : Nat} {env : Env} {s : Sto} {r : Out × Sto}, whileL c F n env s = some r → n ≤ m → whileL c F m env s = some r
  | 0, _, _, _, _, h, _ => by cases h
  | n + 1, 0, _, _, _, _, hm => absurd hm (by omega)
  | n + 1, m + 1, env, s, r, h, hm => by
    unfold whileL at h ⊢
    split at h
    · split at h
      · exact whileL_mono h (by omega)
      · exact whileL_mono h (by omega)
      · exact h
      · exact h
      · cases h
    · exact h
    · cases h
end DL

namespace DL
open PySem PySem.Spec PyProof.Rows L2
def dcL (st : Tg) (tt : Ft) (tk te : Fe) (w : Env) : List Dt → List (Key × Dt) → Sto → Option (List (Key × Dt) × Sto)
  | [], acc, s => some (acc, s)
  | d :: ds, acc, s => match st w d with
    | none => none
    | some e1 => match tt e1 s with
      | some (true, s1) => match tk e1 s1 with
        | some (k, s2) => match te e1 s2 with
          | some (v, s3) => match keyOf k with
            | some key => if acc.length < sizeLine then dcL st tt tk te w ds (putD acc key v) s3 else none
            | none => none
          | none => none
        | none => none
      | some (false, s1) => dcL st tt tk te w ds acc s1
      | none => none
def dcF (fi : Fi) (st : Tg) (tt : Ft) (tk te : Fe) (vs : List Nat) : Fe := fun env s => match fi env s with
  | some (ds, s1) => match dcL st tt tk te (wipeE env vs) ds [] s1 with
    | some (ks, s2) => some (.dct ks, s2)
    | none => none
  | none => none
section
variable {K : PySem.W.Frag} {O : List Nat} {fi : Fi} {st : Tg} {tt : Ft} {tk te : Fe} {vs : List Nat}
theorem dc_n {gT : TG} {t1 : TT} (hv : ∀ i, i ∈ vs → i ∉ O) (hT : ∀ v σ H Q, tG K O st v σ H Q → gT v σ H Q) (hw : ∀ v σ H Q, gT v (L2.wipe σ vs) H Q → gT v (L2.wipe σ vs) H fun σ' H' => L2.wipe σ' vs = L2.wipe σ vs ∧ Q σ' H') (hY : ∀ σ H Q, tT K O tt σ H Q → t1 σ H Q)
    (σ : L2.St) (H : Hp) (Q : VK) (h : tN K O (dcF fi st tt tk te vs) σ H Q) : tDc (tI K O fi) gT t1 (tD K O tk) (tD K O te) vs σ H Q := by
  obtain ⟨g, F, env, s, d, s', stt, hf, k⟩ := h
  unfold dcF at hf
  split at hf
  · rename_i ds s1 q
    split at hf
    · rename_i ys s2 ql
      cases hf
      refine ⟨g, F, env, s, ds, s1, stt, q, fun J F1 H1 x1 b1 wk D nD => ?_⟩
      have st1 := stt.step x1 b1
      have stw := Stt.wipe st1 vs hv
      have nF1 : F1 D = none := (Go.made (o := .dK []) b1 nD).2.2
      have nft : D ∉ g.ft := b1.nofree nD
      have nH : H D = none := x1.free b1 nD
      have nhe : g.he D = none := st1.go.free st1.bs nD
      have nO : ∀ j, j ∈ O → (L2.wipe σ vs)[j]? ≠ some (some (.ref D)) := fun j hj e => by
        obtain ⟨p, o, d', e1, _, e3, _⟩ := stw.sl.ow j hj
        rw [e] at e1; cases e1
        rw [nD] at e3; cases e3
      refine ⟨fun i m H2 => m = ds.length - i ∧ ∃ F2 s3 acc accD, Stt K g O F2 H2 (L2.wipe σ vs) (wipeE env vs) s3 ∧ Go g.ft F H F2 H2 ∧ Same F1 F2 ∧ F2 D = none ∧ H2 D = some (.dK acc) ∧ Repk K F2 acc accD ∧ dcL st tt tk te (wipeE env vs) (ds.drop i) accD s3 = some (ys, s'),
        ⟨_, rfl, F1, s1, [], [], stw.apart nF1 nft nhe nO, ?_, Same.refl _, nF1, upd_same, .nil, ql⟩, ?_⟩
      · exact x1.trans ⟨fun c u e _ => by rw [upd_ne (ne_of_none e nD)]; exact e, Same.refl _, fun c u e => .inl e⟩ b1
      rintro i m H2 ⟨rfl, F2, s3, acc, accD, st2, go2, sm2, n2, e2, r2, hl⟩
      obtain ⟨w1, w2⟩ := wk F2 H2 s3 i sm2 st2.bs
      cases qd : ds[i]? with
      | none =>
        have hge : ds.length ≤ i := List.getElem?_eq_none_iff.mp qd
        rw [List.drop_eq_nil_of_le hge] at hl
        unfold dcL at hl
        cases hl
        exact .inl ⟨w1 hge, k D _ F2 H2 go2 st2.bs nH n2 e2 (.dct r2)⟩
      | some d =>
        have hlt : i < ds.length := (List.getElem?_eq_some_iff.mp qd).1
        have ed : ds.drop i = d :: ds.drop (i + 1) := by
          rw [List.drop_eq_getElem_cons hlt]
          have := (List.getElem?_eq_some_iff.mp qd).2
          rw [this]
        rw [ed] at hl
        unfold dcL at hl
        obtain ⟨g1, g2⟩ := w2 d qd
        refine .inr ⟨g1, fun H3 => ∃ F3 s4 acc3 accD3, Stt K g O F3 H3 (L2.wipe σ vs) (wipeE env vs) s4 ∧ Go g.ft F H F3 H3 ∧ Same F1 F3 ∧ F3 D = none ∧ H3 D = some (.dK acc3) ∧ Repk K F3 acc3 accD3 ∧ dcL st tt tk te (wipeE env vs) (ds.drop (i + 1)) accD3 s4 = some (ys, s'),
          fun H3 h3 => ⟨ds.length - (i + 1), by omega, rfl, h3⟩, fun x H3 y => ?_⟩
        obtain ⟨F3, x3, b3, r3⟩ := g2 x H3 y
        have st3 := st2.step x3 b3
        split at hl
        · cases hl
        · rename_i en q1
          refine hw _ _ _ _ (hT _ _ _ _ ⟨g, F3, wipeE env vs, s3, d, en, st3, r3, q1, fun σ4 st4 _ => ?_⟩)
          have n3 : F3 D = none := by
            cases z : F3 D with
            | none => rfl
            | some u =>
              rcases x3.new D u z with z1 | z1
              · rw [n2] at z1; cases z1
              · rw [e2] at z1; cases z1
          have e3 : H3 D = some (.dK acc) := x3.ext D _ e2 nft
          have go3 : Go g.ft F H F3 H3 := go2.trans x3 st2.bs
          split at hl
          · rename_i s5 q5
            refine hY _ _ _ ⟨g, F3, en, s3, true, s5, st4, q5, fun F5 H5 x5 b5 => ?_⟩
            refine iteT ?_
            split at hl
            · rename_i kv s6 q6
              split at hl
              · rename_i yv s7 q7
                split at hl
                · rename_i key qk
                  split at hl
                  · rename_i lz
                    refine ⟨g, F5, en, s5, kv, s6, st4.step x5 b5, q6, fun vk F6 H6 x6 b6 rk => ?_⟩
                    refine ⟨g, F6, en, s6, yv, s7, (st4.step x5 b5).step x6 b6, q7, fun v F7 H7 x7 b7 r7 => ?_⟩
                    have x56 := (x5.trans x6 b5)
                    have x57 := x56.trans x7 b6
                    have e7 : H7 D = some (.dK acc) := x57.ext D _ e3 nft
                    have n7 : F7 D = none := by
                      cases z : F7 D with
                      | none => rfl
                      | some u =>
                        rcases x57.new D u z with z1 | z1
                        · rw [n3] at z1; cases z1
                        · rw [e3] at z1; cases z1
                    have st7 := st3.step x57 b7
                    have lz' : acc.length < sizeLine := by rw [r2.length]; exact lz
                    obtain rfl := keyOf_V (ft := g.ft) (H := H6) (.inl rk) qk
                    have r2' := Repk.put key r7 (Repk.mono (x3.sam.trans x57.sam) _ _ r2)
                    refine ⟨acc, key, rfl, e7, lz', F7, s7, _, _, st7.apart n7 nft nhe nO, ?_, (sm2.trans x3.sam).trans x57.sam, n7, upd_same, r2', hl⟩
                    have go7 : Go g.ft F H F7 H7 := go3.trans x57 st3.bs
                    exact ⟨fun c u e nc => by rw [upd_ne (ne_of_none e nH)]; exact go7.ext c u e nc, go7.sam, go7.new⟩
                  · cases hl
                · cases hl
              · cases hl
            · cases hl
          · rename_i s5 q5
            refine hY _ _ _ ⟨g, F3, en, s3, false, s5, st4, q5, fun F5 H5 x5 b5 => ?_⟩
            refine iteF ?_
            have e5 : H5 D = some (.dK acc) := x5.ext D _ e3 nft
            have n5 : F5 D = none := by
              cases z : F5 D with
              | none => rfl
              | some u =>
                rcases x5.new D u z with z1 | z1
                · rw [n3] at z1; cases z1
                · rw [e3] at z1; cases z1
            exact ⟨F5, s5, acc, accD, st3.step x5 b5, go3.trans x5 st3.bs, (sm2.trans x3.sam).trans x5.sam, n5, e5, Repk.mono (x3.sam.trans x5.sam) _ _ r2, hl⟩
          · cases hl
    · cases hf
  · cases hf
end
section
variable {X : Cx} {O : List Nat} {kx vx tg iter : Expr} {ifs : List Expr} {scope : Scope} {own : List (Str × Nat)} {pos spos py : Pos} {fi : Fi} {tt : Ft} {tk te : Fe} {y : Str}
theorem n_dc {i : Nat} (hc : X.calm = true) (hN : X.N.Nodup) (hi : PI X tg iter (tI X.K O fi)) (ok : BlkOk X.N X.env.scope scope own)
    (hg : ∀ (s : Shared) (H : Hp) (C : Addr) (cl : List (Str × Addr)) (fp : List Addr), PG (X.blk s H scope (compEnvC scope cl C X.env) fp) tg (gName i))
    (ht : ∀ (s : Shared) (H : Hp) (C : Addr) (cl : List (Str × Addr)) (fp : List Addr), PTs (X.blk s H scope (compEnvC scope cl C X.env) fp) ifs (tT X.K O tt))
    (hk : ∀ (s : Shared) (H : Hp) (C : Addr) (cl : List (Str × Addr)) (fp : List Addr), PE (X.blk s H scope (compEnvC scope cl C X.env) fp) kx (tD X.K O tk))
    (he : ∀ (s : Shared) (H : Hp) (C : Addr) (cl : List (Str × Addr)) (fp : List Addr), PE (X.blk s H scope (compEnvC scope cl C X.env) fp) vx (tD X.K O te))
    (hv : ∀ j, j ∈ own.map (·.2) → j ∉ O := by decide) (hm : i ∈ own.map (·.2) := by decide) (hs : ∀ x, foldedSetIterable iter X.env x = pure x := by intro _; rfl) :
    PE X (.DictComp kx vx [⟨tg, iter, ifs, 0⟩] scope pos) (tN X.K O (dcF fi (tgN i) tt tk te (own.map (·.2)))) :=
  pe_imp (pe_dc hc hN hi ok hg ht hk he hs) (dc_n hv (nameT (hv i hm)) (fun v σ H Q h => ⟨wipe_set _ _ hm (wipe_wipe _ _), h⟩) fun _ _ _ h => h)
theorem ps_setDc {i : Nat} {wi : TI} {g : TG} {t1 : TT} {tk tv : TE} (hc : X.calm = true) (hN : X.N.Nodup) (hy : X.N[i]? = some y) (hyl : X.env.scope.names.lookup y = some .local)
    (hsw : swapsWith (.DictComp kx vx [⟨tg, iter, ifs, 0⟩] scope pos) (some (.Name y py)) spos.line X.env = pure true) (hi : PI X tg iter wi) (ok : BlkOk X.N X.env.scope scope own)
    (hg : ∀ (s : Shared) (H : Hp) (C : Addr) (cl : List (Str × Addr)) (fp : List Addr), PG (X.blk s H scope (compEnvC scope cl C X.env) fp) tg g) (ht : ∀ (s : Shared) (H : Hp) (C : Addr) (cl : List (Str × Addr)) (fp : List Addr), PTs (X.blk s H scope (compEnvC scope cl C X.env) fp) ifs t1)
    (hk : ∀ (s : Shared) (H : Hp) (C : Addr) (cl : List (Str × Addr)) (fp : List Addr), PE (X.blk s H scope (compEnvC scope cl C X.env) fp) kx tk)
    (he : ∀ (s : Shared) (H : Hp) (C : Addr) (cl : List (Str × Addr)) (fp : List Addr), PE (X.blk s H scope (compEnvC scope cl C X.env) fp) vx tv) (hs : ∀ x, foldedSetIterable iter X.env x = pure x := by intro _; rfl) :
    PS X (.Assign [.Name y py] (.DictComp kx vx [⟨tg, iter, ifs, 0⟩] scope pos) spos) (tAsg (tDc wi g t1 tk tv (own.map (·.2))) (gName i)) := by
  refine ⟨fun pins s σ H D I h => ?_⟩
  rw [exec_Assign_Name_used _ _ _ _ hsw]
  refine wpAny_bind (wpAny_standAt (wpAny_bind ?_))
  show wpAny _ X.A (do let _ ← comprehension (.DictComp kx vx [⟨tg, iter, ifs, 0⟩] scope pos) scope X.env (firstIterPos [⟨tg, iter, ifs, 0⟩] pos) newDict false (eval iter X.env) (some (assign (.Name y py) X.env))) _ _ s
  have h : tDc wi g t1 tk tv (own.map (·.2)) σ H (fun x H1 => gName i x σ H1 D.nx) := h
  refine wpAny_bind (thn (dc_core (Qf := fun _ s' => SP X pins D .next s') hc hN I hi ok hg ht hk he hs h fun L C s' m H' I' q hn f => ?_) fun _ s' hq => wpAny_pure (wpAny_pure hq))
  show wpAny _ _ (assign (.Name y py) X.env (.ref L)) _ _ _
  refine wpAny_assign_Name (store_ok2 (v := V.ref L) I' hN hy (.inl hyl) rfl (fun s2 I2 ⟨a, sb, ha⟩ => ?_) (.inr hyl))
  obtain ⟨f0, f1, f2, f3, f4, f5⟩ := f
  have haC : C ≠ a := by
    rcases ha with z | z
    · rw [z]; exact f1
    · exact fun e => f4 y a z e.symm
  refine ⟨m, hn.sameBut sb haC, fun h3 sb3 => ?_⟩
  exact ⟨_, H', I2.turned (t' := s2.toks) (fun b o hb e => (sb3.2 b hb).trans e) f0 f1 f3 f4 f5, q⟩
theorem a_dc {z i : Nat} (hc : X.calm = true) (hN : X.N.Nodup) (hy : X.N[z]? = some y) (hyl : X.env.scope.names.lookup y = some .local) (hsw : swapsWith (.DictComp kx vx [⟨tg, iter, ifs, 0⟩] scope pos) (some (.Name y py)) spos.line X.env = pure true) (hi : PI X tg iter (tI X.K O fi)) (ok : BlkOk X.N X.env.scope scope own)
    (hg : ∀ (s : Shared) (H : Hp) (C : Addr) (cl : List (Str × Addr)) (fp : List Addr), PG (X.blk s H scope (compEnvC scope cl C X.env) fp) tg (gName i))
    (ht : ∀ (s : Shared) (H : Hp) (C : Addr) (cl : List (Str × Addr)) (fp : List Addr), PTs (X.blk s H scope (compEnvC scope cl C X.env) fp) ifs (tT X.K O tt))
    (hk : ∀ (s : Shared) (H : Hp) (C : Addr) (cl : List (Str × Addr)) (fp : List Addr), PE (X.blk s H scope (compEnvC scope cl C X.env) fp) kx (tD X.K O tk))
    (he : ∀ (s : Shared) (H : Hp) (C : Addr) (cl : List (Str × Addr)) (fp : List Addr), PE (X.blk s H scope (compEnvC scope cl C X.env) fp) vx (tD X.K O te))
    (hv : ∀ j, j ∈ own.map (·.2) → j ∉ O := by decide) (hm : i ∈ own.map (·.2) := by decide) (hs : ∀ x, foldedSetIterable iter X.env x = pure x := by intro _; rfl) :
    PS X (.Assign [.Name y py] (.DictComp kx vx [⟨tg, iter, ifs, 0⟩] scope pos) spos) (tAsg (tN X.K O (dcF fi (tgN i) tt tk te (own.map (·.2)))) (gName z)) :=
  asg_imp (ps_setDc hc hN hy hyl hsw hi ok hg ht hk he hs) fun σ H Q q => dc_n hv (nameT (hv i hm)) (fun v σ H Q h => ⟨wipe_set _ _ hm (wipe_wipe _ _), h⟩) (fun _ _ _ h => h) σ H Q q
end
section
variable {X : Cx} {L O O' : List Nat} {e : Expr} {f : Fe} {pos : Pos}
theorem s_setF {i : Nat} {x : Str} {pos' : Pos} (h : PS X (.Assign [.Name x pos'] e pos) (tAsg (tN X.K O f) (gName i)))
    (h1 : ∀ j, j ∈ O' → j ∈ O ∧ j ≠ i := by decide) (h2 : ∀ j, j ∈ O → j ≠ i → j ∈ O' := by decide) : PS X (.Assign [.Name x pos'] e pos) (tS X.K L O O' (setS i f)) := ps_imp (ps_lkout h) fun D σ H ⟨g, F, env, s, out, s', st, hf, k⟩ => by
  unfold setS at hf
  cases q : f env s with
  | none => rw [q] at hf; cases hf
  | some p =>
    obtain ⟨d, s1⟩ := p
    rw [q] at hf
    cases hf
    exact ⟨g, F, env, s, d, _, st, q, fun p o F' H' x b n n' e r => own_lk st.bs x b n n' e r fun F1 H1 x1 b1 rp => k _ H1 F1 x1.sam ((st.step x1 b1).setD rp h1 h2)⟩
end
end DL

namespace DL
open PySem PySem.Spec PyProof.Rows L2
def par3S (i j l : Nat) (f1 f2 f3 : Fe) : Fs := fun env s => if i < env.length ∧ j < env.length ∧ l < env.length then match f1 env s with
  | some (x, s1) => match f2 env s1 with
    | some (y, s2) => match f3 env s2 with
      | some (z, s3) => some (.nx (((env.set i (some x)).set j (some y)).set l (some z)), s3)
      | none => none
    | none => none
  | none => none
  else none
end DL

namespace DL
open PySem PySem.Spec PyProof.Rows L2
theorem Reps.set {K : PySem.W.Frag} {F : Hp} {v : V} {d : Dt} (r : Rep K F v d) : ∀ {vs : List V} {ds : List Dt} (j : Nat), Reps K F vs ds → Reps K F (vs.set j v) (ds.set j d)
  | [], [], _, h => h
  | [], _ :: _, _, h => by cases h
  | _ :: _, [], _, h => by cases h
  | _ :: _, _ :: _, 0, h => by cases h with | cons _ t => exact .cons r t
  | _ :: _, _ :: _, j + 1, h => by cases h with | cons a t => exact .cons a (Reps.set r j t)
section
variable {X : Cx} {pos tpos pt2 : Pos} {kt k2 : Nat}
theorem ps_parT {elts es : List Expr} {ta : TA} {gs : TGs} {n : Nat} (hc : X.calm = true) (ha : PA X es ta) (hg : PGs X elts gs)
    (hn : (assignEach elts X.env).length = n := by rfl) (hz : n ≤ sizeLine := by decide) (hst : (assignEach elts X.env).findIdx? (·.1) = none := by rfl)
    (hs : swapsWithSole [.Tuple elts kt tpos] (.Tuple es k2 pt2) pos.line X.env = pure false := by rfl)
    (hw : swappedStores [.Tuple elts kt tpos] (.Tuple es k2 pt2) X.env = pure none := by rfl)
    (h1 : (assignEach [.Tuple elts kt tpos] X.env).map (·.2) = [assign (.Tuple elts kt tpos) X.env] := by rfl) :
    PS X (.Assign [.Tuple elts kt tpos] (.Tuple es k2 pt2) pos) (fun D σ H => ta σ H fun vs H1 => vs.length = n ∧ gs vs σ H1 D.nx) := by
  refine ⟨fun pins s σ H D I h => ?_⟩
  refine wpAny_Assign_stores (Tuple_ (thn (ha.run _ pins s σ H _ I h) fun us s1 ⟨vs, H1, I1, r1, hl, q1⟩ => ?_)) hs hw
  have hlen := r1.length
  refine wpAny_newObj_type ?_ (by show us.toArray.size ≤ sizeLine; rw [List.size_toArray]; omega)
  have I2 : Inv X pins σ H1 { s1 with heap := s1.heap.push { cls := .type "tuple", data := .seq us.toArray } } := I1.kept (t' := s1.toks) fun b o e => Heap.get?_push_of_some _ e
  rw [h1]
  refine thn (Q := fun _ s' => ∃ σ' H', Inv X pins σ' H' s' ∧ D.nx σ' H') (assign_Tuple_tuple (I2.ok.hd hc) (IsTup.new s1.heap _) (by rw [hn, List.size_toArray]; omega) hst fun h' hx => ?_) fun _ s2 q => q
  have I3 := I2.kept (h' := h') (t' := s1.toks) fun b o e => hx b o (Nat.ne_of_lt (Heap.lt_size e)) e
  exact hg.run pins _ σ H1 vs _ _ I3 (by simpa using r1) q1
end

def evalL : List Fe → Env → Sto → Option (List Dt × Sto)
  | [], _, s => some ([], s)
  | f :: fs, env, s => match f env s with
    | some (d, s1) => match evalL fs env s1 with
      | some (ds, s2) => some (d :: ds, s2)
      | none => none
    | none => none
def setL : List Nat → List Dt → Env → Env
  | i :: is, d :: ds, env => setL is ds (env.set i (some d))
  | _, _, env => env
def parNS (is : List Nat) (fs : List Fe) : Fs := fun env s => if is.all (fun i => decide (i < env.length)) = true then match evalL fs env s with
  | some (ds, s1) => if is.length = ds.length then some (.nx (setL is ds env), s1) else none
  | none => none
  else none
def tXs (K : PySem.W.Frag) (O : List Nat) : List Bool → List Fe → TA
  | m :: ms, f :: fs => tCons (tX m K O f) (tXs K O ms fs)
  | _, _ => tNil
def gXs : List Nat → TGs
  | [] => gNil
  | i :: is => gCons (gName i) (gXs is)
def ownL : List Bool → List Nat → List Nat → List Nat
  | m :: ms, i :: is, O => ownL ms is (ownX m O i)
  | _, _, O => O
def NeL (v : V) : List Bool → List V → Prop
  | m :: ms, w :: vs => (m = true → v ≠ w) ∧ NeL v ms vs
  | _, _ => True
def Hands (K : PySem.W.Frag) (g : Gd) (O : List Nat) (F H : Hp) (σ : L2.St) : List Bool → List V → List Dt → Prop
  | m :: ms, v :: vs, d :: ds => Hand K g O F H σ m v d ∧ (m = true → NeL v ms vs) ∧ Hands K g O F H σ ms vs ds
  | [], [], [] => True
  | _, _, _ => False
def FrL (H : Hp) : List Bool → List V → Prop
  | m :: ms, w :: vs => (m = true → ∃ p, w = .ref p ∧ H p = none) ∧ FrL H ms vs
  | _, _ => True
def setV : List Nat → List V → L2.St → L2.St
  | i :: is, v :: vs, σ => setV is vs (σ.set i (some v))
  | _, _, σ => σ
section
variable {K : PySem.W.Frag} {g : Gd} {O : List Nat} {F H F' H' : Hp} {σ : L2.St} {env : Env} {s s' : Sto}
theorem Hands.beside {i : Nat} {v : V} {m' : Bool} (hi : i < σ.length) : ∀ {ms : List Bool} {vs : List V} {ds : List Dt}, Hands K g O F H σ ms vs ds → (m' = true → NeL v ms vs) → Hands K g (ownX m' O i) F H (σ.set i (some v)) ms vs ds
  | [], [], [], _, _ => trivial
  | m :: ms, w :: vs, d :: ds, h, n => ⟨h.1.beside (fun a b => (n b).1 a) hi, h.2.1, Hands.beside hi h.2.2 fun b => (n b).2⟩
  | [], [], _ :: _, h, _ => h.elim
  | [], _ :: _, [], h, _ => h.elim
  | [], _ :: _, _ :: _, h, _ => h.elim
  | _ :: _, [], [], h, _ => h.elim
  | _ :: _, [], _ :: _, h, _ => h.elim
  | _ :: _, _ :: _, [], h, _ => h.elim
theorem Hands.store : ∀ {ms : List Bool} {is : List Nat} {vs : List V} {ds : List Dt} {O : List Nat} {σ : L2.St} {env : Env}, Stt K g O F H σ env s → Hands K g O F H σ ms vs ds → is.length = ds.length → is.all (fun i => decide (i < env.length)) = true →
    Stt K g (ownL ms is O) F H (setV is vs σ) (setL is ds env) s
  | [], [], [], [], _, _, _, st, _, _, _ => st
  | m :: ms, i :: is, v :: vs, d :: ds, O, σ, env, st, h, hl, ha => by
    rw [List.all_cons, Bool.and_eq_true] at ha
    have hi := of_decide_eq_true ha.1
    have e1 := st.setX h.1 hi
    exact Hands.store (ms := ms) (is := is) (vs := vs) (ds := ds) (O := ownX m O i) (σ := σ.set i (some v)) (env := env.set i (some d)) e1 (h.2.2.beside (by rw [st.sl.len]; exact hi) h.2.1) (Nat.succ.inj hl) (by rw [List.length_set]; exact ha.2)
  | [], [], [], _ :: _, _, _, _, _, h, _, _ => h.elim
  | [], [], _ :: _, [], _, _, _, _, h, _, _ => h.elim
  | [], [], _ :: _, _ :: _, _, _, _, _, h, _, _ => h.elim
  | [], _ :: _, [], [], _, _, _, _, _, hl, _ => nomatch hl
  | [], _ :: _, [], _ :: _, _, _, _, _, h, _, _ => h.elim
  | [], _ :: _, _ :: _, [], _, _, _, _, h, _, _ => h.elim
  | [], _ :: _, _ :: _, _ :: _, _, _, _, _, h, _, _ => h.elim
  | _ :: _, [], [], [], _, _, _, _, h, _, _ => h.elim
  | _ :: _, [], [], _ :: _, _, _, _, _, h, _, _ => h.elim
  | _ :: _, [], _ :: _, [], _, _, _, _, h, _, _ => h.elim
  | _ :: _, [], _ :: _, _ :: _, _, _, _, _, _, hl, _ => nomatch hl
  | _ :: _, _ :: _, [], [], _, _, _, _, h, _, _ => h.elim
  | _ :: _, _ :: _, [], _ :: _, _, _, _, _, h, _, _ => h.elim
  | _ :: _, _ :: _, _ :: _, [], _, _, _, _, h, _, _ => h.elim
theorem Go.dom (x : Go g.ft F H F' H') (b : Bs K g.ft F' H' s') {p : Addr} (n : H' p = none) : H p = none := by
  cases q : H p with
  | none => rfl
  | some o =>
    by_cases c : p ∈ g.ft
    · obtain ⟨d, o2, _, e, _⟩ := b.has c
      rw [n] at e; cases e
    · rw [x.ext p o q c] at n; cases n
theorem FrL.back (x : Go g.ft F H F' H') (b : Bs K g.ft F' H' s') : ∀ {ms : List Bool} {vs : List V}, FrL H' ms vs → FrL H ms vs
  | [], _, _ => trivial
  | _ :: _, [], _ => trivial
  | _ :: _, _ :: _, h => ⟨fun z => let ⟨p, e, n⟩ := h.1 z; ⟨p, e, Go.dom x b n⟩, FrL.back x b h.2⟩
theorem FrL.ne {p : Addr} {o : HO} (e : H p = some o) : ∀ {ms : List Bool} {vs : List V}, FrL H ms vs → NeL (.ref p) ms vs
  | [], _, _ => trivial
  | _ :: _, [], _ => trivial
  | _ :: _, _ :: _, h => ⟨fun z c => (by
    obtain ⟨q, e1, n⟩ := h.1 z
    rw [← c] at e1
    cases e1
    rw [e] at n; cases n), FrL.ne e h.2⟩
theorem tXs_hand : ∀ {ms : List Bool} {fs : List Fe} {F H : Hp} {s : Sto} {ds : List Dt} {Q : List V → Hp → Prop}, ms.length = fs.length → Stt K g O F H σ env s → evalL fs env s = some (ds, s') →
    (∀ vs F' H', Go g.ft F H F' H' → Bs K g.ft F' H' s' → Hands K g O F' H' σ ms vs ds → FrL H ms vs → Q vs H') → tXs K O ms fs σ H Q
  | [], [], F, H, s, ds, Q, _, st, hf, k => by
    cases hf
    exact k [] F H Go.refl st.bs trivial trivial
  | [], _ :: _, _, _, _, _, _, hl, _, _, _ => nomatch hl
  | _ :: _, [], _, _, _, _, _, hl, _, _, _ => nomatch hl
  | m :: ms, f :: fs, F, H, s, ds, Q, hl, st, hf, k => by
    unfold evalL at hf
    split at hf
    · rename_i d s1 q1
      split at hf <;> cases hf
      rename_i ds' q2
      refine tX_hand st q1 fun v F1 H1 x1 b1 r1 z1 => ?_
      refine tXs_hand (Nat.succ.inj hl) (st.step x1 b1) q2 fun vs F2 H2 x2 b2 r2 z2 => ?_
      refine k (v :: vs) F2 H2 (x1.trans x2 b1) b2 ⟨r1.step x2, fun e => ?_, r2⟩ ⟨z1, FrL.back x1 b1 z2⟩
      subst e
      obtain ⟨p1, o1, rfl, e1, _⟩ := (show ∃ p o, v = .ref p ∧ H1 p = some o ∧ ObR K F1 o d ∧ F1 p = none ∧ p ∉ g.ft ∧ g.he p = none ∧ ∀ j, j ∈ O → σ[j]? ≠ some (some (.ref p)) from r1)
      exact FrL.ne e1 z2
    · cases hf
theorem Hands.len : ∀ {ms : List Bool} {vs : List V} {ds : List Dt}, Hands K g O F H σ ms vs ds → vs.length = ds.length
  | [], [], [], _ => rfl
  | m :: ms, w :: vs, d :: ds, h => congrArg (· + 1) (Hands.len h.2.2)
  | [], [], _ :: _, h => h.elim
  | [], _ :: _, [], h => h.elim
  | [], _ :: _, _ :: _, h => h.elim
  | _ :: _, [], [], h => h.elim
  | _ :: _, [], _ :: _, h => h.elim
  | _ :: _, _ :: _, [], h => h.elim
theorem gXs_set {Q : L2.St → Hp → Prop} : ∀ {is : List Nat} {vs : List V} {σ : L2.St}, is.length = vs.length → Q (setV is vs σ) H → gXs is vs σ H Q
  | [], [], _, _, q => ⟨rfl, q⟩
  | i :: is, v :: vs, σ, hl, q => ⟨v, vs, rfl, gXs_set (Nat.succ.inj hl) q⟩
  | [], _ :: _, _, hl, _ => nomatch hl
  | _ :: _, [], _, hl, _ => nomatch hl
end
theorem s_parN {X : Cx} {L O : List Nat} {st : Stmt} {is : List Nat} {fs : List Fe} {n : Nat} (ms : List Bool) (h : PS X st (fun D σ H => tXs X.K O ms fs σ H fun vs H1 => vs.length = n ∧ gXs is vs σ H1 D.nx)) (hm : ms.length = fs.length) (hn : is.length = n) (O' : List Nat)
    (h1 : ∀ a, a ∈ O' → a ∈ ownL ms is O := by decide) : PS X st (tS X.K L O O' (parNS is fs)) := ps_imp (ps_lkout h) fun D σ H ⟨g, F, env, s, out, s', stt, hf, k⟩ => by
  unfold parNS at hf
  split at hf
  · rename_i hl
    split at hf
    · rename_i ds s1 q1
      split at hf <;> cases hf
      rename_i hz
      refine tXs_hand hm stt q1 fun vs F1 H1 x1 b1 r1 _ => ⟨by rw [r1.len, ← hz, hn], ?_⟩
      refine gXs_set (by rw [r1.len, hz]) ?_
      have st1 := Hands.store (stt.step x1 b1) r1 hz hl
      exact st1.weak h1 fun F2 H2 sm st2 => k _ H2 F2 (x1.sam.trans sm) st2
    · cases hf
  · cases hf

abbrev FeX := Env → Sto → Option (Dt × Env × Sto)
end DL

namespace DL
open PySem PySem.Spec PyProof.Rows L2
end DL

namespace DL
open PySem PySem.Spec PyProof.Rows L2
end DL

namespace DL
open PySem PySem.Spec PyProof.Rows L2
end DL

namespace DL
open PySem PySem.Spec PyProof.Rows L2
def maxI : Int → List Int → Int
  | m, [] => m
  | m, x :: r => maxI (if m < x then x else m) r
theorem maxI_ok : ∀ (r : List Int) (m : Int), maxI m r ∈ m :: r ∧ ∀ y, y ∈ m :: r → y ≤ maxI m r
  | [], m => ⟨List.mem_cons_self, fun y hy => by rw [List.mem_singleton.mp hy]; exact Int.le_refl _⟩
  | x :: r, m => by
    have h := maxI_ok r (if m < x then x else m)
    show maxI (if m < x then x else m) r ∈ m :: x :: r ∧ ∀ y, y ∈ m :: x :: r → y ≤ maxI (if m < x then x else m) r
    have hle := h.2 _ List.mem_cons_self
    have hq : m ≤ (if m < x then x else m) ∧ x ≤ (if m < x then x else m) := by split <;> omega
    refine ⟨?_, fun y hy => ?_⟩
    · rcases List.mem_cons.mp h.1 with e | e
      · rw [e]
        split
        · exact List.mem_cons_of_mem _ List.mem_cons_self
        · exact List.mem_cons_self
      · exact List.mem_cons_of_mem _ (List.mem_cons_of_mem _ e)
    · rcases List.mem_cons.mp hy with rfl | hy
      · omega
      rcases List.mem_cons.mp hy with rfl | hy
      · omega
      exact h.2 y (List.mem_cons_of_mem _ hy)
def sumG (_ : Sto) : List Dt → Option Dt
  | [.lst xs] => (intsOf xs).map fun ns => .int ns.sum
  | _ => none
def maxLG (_ : Sto) : List Dt → Option Dt
  | [.lst xs] => match intsOf xs with
    | some (m :: r) => some (.int (maxI m r))
    | _ => none
  | _ => none
section
variable {K : PySem.W.Frag}
theorem cd_sum : CallD K (rSum K) sumG := by
  intro ft F H s vs xs z Q b rx hg k
  unfold sumG at hg
  split at hg
  · rename_i ds
    cases q : intsOf ds with
    | none => rw [q] at hg; cases hg
    | some ns =>
      rw [q] at hg
      cases hg
      obtain ⟨v, rfl, r⟩ := pair1 rx
      obtain ⟨a, vs, rfl, e, rs⟩ := r.lst b
      rw [ints_map q] at rs
      rw [rs.of_ints] at e
      exact ⟨a, ns, rfl, SqL.of e, k _ F H Go.refl b (.int _)⟩
  · cases hg
theorem cd_maxL : CallD K (rMax K) maxLG := by
  intro ft F H s vs xs z Q b rx hg k
  unfold maxLG at hg
  split at hg
  · rename_i ds
    split at hg
    · rename_i m r q
      cases hg
      obtain ⟨v, rfl, rr⟩ := pair1 rx
      obtain ⟨a, vs, rfl, e, rs⟩ := rr.lst b
      rw [ints_map q] at rs
      rw [rs.of_ints] at e
      refine ⟨a, m :: r, rfl, SqL.of e, Nat.succ_pos _, fun y hy hm => ?_⟩
      obtain ⟨h1, h2⟩ := maxI_ok r m
      have : y = maxI m r := Int.le_antisymm (h2 y hy) (hm _ h1)
      rw [this]
      exact k _ F H Go.refl b (.int _)
    · cases hg
  · cases hg
end
end DL

namespace DL
open PySem PySem.Spec PyProof.Rows L2 PySem.Froz
end DL

namespace DL
open PySem PySem.Spec PyProof.Rows L2 PySem.Froz
end DL

namespace DL
open PySem PySem.Spec PyProof.Rows L2 PySem.Froz
end DL

namespace DL
open PySem PySem.Spec PyProof.Rows L2 PySem.Froz
end DL

namespace DL
open PySem PySem.Spec PyProof.Rows L2 PySem.Froz
end DL

namespace DL
open PySem PySem.Spec PyProof.Rows L2
end DL

namespace DL
open PySem PySem.Spec PyProof.Rows L2 PySem.Froz
section
variable {prog : Program} {w : World} {A : Around} {E : Value → Shared → Prop} {s : Shared} {T : String} {r d : Addr} {n : Nat} {P : Nat → Value → Prop} {OK : Heap → Prop}
theorem sorted_srcS {ks : List Str} {Q : Value → Shared → Prop} (K : PySem.W.KdlSrc prog w T r d n P OK) (hh : A.handled = none) (hok : OK s.heap) (hn : n ≤ sizeLine)
    (hv : ∀ acc : Array Value, ItemsOf P acc n → StrsAre acc.toList ks)
    (hQ : ∀ (h' : Heap) (tk : Nat) (p : Addr) (out : Array Value) (c : Nat) (zs : List Str), (∀ b o, s.heap.get? b = some o → h'.get? b = some o) → s.heap.get? p = none → h'.get? p = some (seqObj "list" out c) → StrsAre out.toList zs → zs.Perm ks → sortedS zs = true → Q (.ref p) { s with heap := h', toks := tk }) :
    wpAny (model prog w) A (call (.builtin "sorted") [.ref r]) Q E s := by
  refine Calls.call_function_entry kind_sorted plain_sorted entry_sorted (args_sorted1 _) ?_
  unfold Builtin.«sorted»
  refine wpAny_bind (m := checkCount "sorted" 1 1 _) (wpAny_pure ?_)
  refine wpAny_bind (PySem.W.kdu_collect (A := A.in1) K hh hok hn fun h' tk acc hk hacc => ?_)
  have hzs := hv acc hacc
  have hsl : acc.toList.length ≤ sizeLine := by rw [Array.length_toList, hacc.1]; exact hn
  refine wpAny_bind (wpAny_newList ?_ hsl)
  have hoL : (h'.push (seqObj "list" acc.toList.toArray 0)).get? h'.objs.size = some (seqObj "list" acc.toList.toArray 0) := Heap.get?_push_size _ rfl
  refine wpAny_bind (wpAny_holding (wpAny_call_entry slot_list_sort ⟨_, hoL, rfl⟩ entry_list_sort (list_sort_treeKAny (s := { s with heap := h'.push (seqObj "list" acc.toList.toArray 0), toks := tk }) strKind_oneLt hoL hzs.keysOf (fun v₁ v₂ rest e => keyKind_strs (by rw [← e]; exact hzs)) hsl fun st' a1 a2 => ⟨_, rfl, ?_⟩) (args_list_sort _)))
  obtain ⟨zs', b1, b2, b3⟩ := sorted_out_str hzs a1 a2
  obtain ⟨c, hc⟩ := sortedHeap_at (vs := acc.toList) (out := (arrOf st').map (·.2)) hoL
  refine wpAny_pure ⟨_, rfl, hQ _ _ h'.objs.size _ c zs' (fun b u e => ?_) ?_ hc b1 b2 b3⟩
  · have q := hk b u e
    have hlt := Heap.lt_size q
    show (sortedHeap (h'.push (seqObj "list" acc.toList.toArray 0)) h'.objs.size acc.toList _).get? b = some u
    rw [sortedHeap_old (Nat.ne_of_lt hlt) (by rw [size_push']; exact Nat.lt_succ_of_lt hlt)]
    exact Heap.get?_push_of_some _ q
  · cases q : s.heap.get? h'.objs.size with
    | none => rfl
    | some u => exact absurd (Heap.lt_size (hk _ u q)) (Nat.lt_irrefl _)
end
def rSortedD : List V → Hp → VK → Prop := fun xs H Q => ∃ (a : Addr) (kvs : List (Key × V)) (ks : List Str), xs = [V.ref a] ∧ Rd H a (.dK kvs) ∧ (kvs.map fun kv => kV kv.1) = ks.map V.str ∧
  ∀ (ys : List Str) (p : Addr), ys.Perm ks → sortedS ys = true → H p = none → Q (.ref p) (upd H p (.lst (ys.map V.str)))
theorem cr_sortedD {X : Cx} (hcalm : X.calm = true) : CallR X (.builtin "sorted") rSortedD := by
  intro pins s σ H xs us Q I r q
  obtain ⟨a, kvs, ks, ex, hd, ek0, q⟩ := q
  subst ex
  obtain ⟨u, eu, rx⟩ := vals1 r
  subst eu
  cases rx
  obtain ⟨z, lo, vs, rel, dd⟩ := dk_rd I.hok hd
  obtain ⟨ep, hat⟩ := dd.dictAt
  have ek : (kvs.map fun kv => kV kv.1) = vs.map fun p => kV p.1 := by
    have e := congrArg (List.map kV) rel.keys
    rw [List.map_map, List.map_map] at e
    exact e
  refine sorted_srcS (ks := ks) (PySem.W.kdl_dict (knd := mixKind X.prog X.w) (kvs := vs) (ep := ep) lo) (I.ok.hd hcalm) hat (by rw [← rel.length]; exact z) (fun acc hacc => ?_) fun h' tk p out c zs k hn hp hout pm pw => ?_
  · have hv : Vals (vs.map fun p => kV p.1) acc.toList := keys_at (by rw [Array.length_toList]; exact hacc.1) fun j v e => hacc.2 j v (by rw [← Array.getElem?_toList]; exact e)
    rw [← ek, ek0] at hv
    exact hv.strs
  · have hn' : H p = none := I.hok.gone hn
    have hlen : (zs.map V.str).length ≤ sizeLine := by
      have e1 := congrArg List.length ek0
      rw [List.length_map, List.length_map] at e1
      rw [List.length_map, pm.length_eq, ← e1]
      exact z
    exact ⟨.ref p, upd H p (.lst (zs.map V.str)), I.laidN (t' := tk) k hn hn' ⟨hlen, out.toList, c, vals_of_strs hout, hp⟩, rfl, q zs p pm pw hn'⟩
def sortedKG (_ : Sto) : List Dt → Option Dt
  | [.dct xs] => match strsOf (xs.map fun kv => keyD kv.1) with
    | some ys => some (.lst ((sortS ys).map .str))
    | none => none
  | _ => none
theorem cn_sortedK {K : PySem.W.Frag} : CallN K rSortedD sortedKG := by
  intro ft F H s vs xs z Q b rx hg k
  unfold sortedKG at hg
  split at hg
  · split at hg
    · rename_i ys q
      cases hg
      obtain ⟨v, rfl, r⟩ := pair1 rx
      obtain ⟨a, vs, rfl, e, rk⟩ := r.dct b
      have rs := reps_keys rk
      rw [strs_map q] at rs
      refine ⟨a, vs, ys, rfl, e, rs.of_strs, fun zs p pm so np => k p _ np (.lst ?_)⟩
      have ez : zs = sortS ys := sortK_eq pm (sortedS_pw so) fun a b _ _ h => h
      rw [ez]
      exact Reps.strs _
    · cases hg
  · cases hg
end DL

namespace DL
open PySem PySem.Spec PyProof.Rows L2 PySem.Froz
theorem vals_at : ∀ {xs : List V} {us : List Value}, us.length = xs.length → (∀ (j : Nat) (v : V) (u : Value), xs[j]? = some v → us[j]? = some u → RelV v u) → Vals xs us
  | [], [], _, _ => .nil
  | [], _ :: _, h, _ => by cases h
  | _ :: _, [], h, _ => by cases h
  | x :: xs, u :: us, h, k => .cons (k 0 x u rfl rfl) (vals_at (by simpa using h) fun j v u e1 e2 => k (j + 1) v u e1 e2)
def rLstS : List V → Hp → VK → Prop := fun xs H Q => ∃ x : Str, xs = [.str x] ∧ x.length ≤ sizeLine ∧ ∀ p, H p = none → Q (.ref p) (upd H p (.lst (x.cps.toList.map fun c => V.str ⟨#[c]⟩)))
theorem call_lstS {X : Cx} (hc : X.calm = true) : CallR X (.type "list") rLstS := by
  intro pins s σ H xs us Q I r q
  obtain ⟨x, rfl, hz, q⟩ := q
  obtain ⟨u, rfl, rx⟩ := vals1 r
  obtain ⟨t, rfl⟩ := rx
  refine PySem.call_list_str (I.ok.hd hc) x t (hn := hz) fun h' tk acc' c' k hS hacc => ?_
  have hv : Vals (x.cps.toList.map fun c => V.str ⟨#[c]⟩) acc'.toList := vals_at (by rw [Array.length_toList, hacc.1, List.length_map, Array.length_toList]) fun j v u e1 e2 => by
    obtain ⟨c, t', hc', rfl⟩ := hacc.2 j u (by rw [← Array.getElem?_toList]; exact e2)
    rw [List.getElem?_map, Array.getElem?_toList, hc'] at e1
    cases e1
    exact ⟨t', rfl⟩
  exact ⟨.ref s.heap.objs.size, upd H s.heap.objs.size (.lst (x.cps.toList.map fun c => V.str ⟨#[c]⟩)), I.laid (t' := tk) k (Nat.le_refl _)
    (show ObjOk X.prog X.w _ _ _ (.lst (x.cps.toList.map fun c => V.str ⟨#[c]⟩)) from ⟨by rw [List.length_map, Array.length_toList]; exact hz, acc'.toList, c', hv, by rw [Array.toArray_toList]; exact hS⟩), rfl, q _ (I.hok.fresh (Nat.le_refl _))⟩
def toLstSG (s : Sto) : List Dt → Option Dt
  | [.str x] => if x.length ≤ sizeLine then some (.lst (x.cps.toList.map fun c => .str ⟨#[c]⟩)) else none
  | xs => toLstG s xs
theorem reps_signs {K : PySem.W.Frag} {F : Hp} : ∀ l : List Nat, Reps K F (l.map fun c => V.str ⟨#[c]⟩) (l.map fun c => Dt.str ⟨#[c]⟩)
  | [] => .nil
  | c :: l => .cons (.str _) (reps_signs l)
theorem cn_toLstS {K : PySem.W.Frag} : CallN K (fun vs H Q => rLstS vs H Q ∨ rLstA K vs H Q) toLstSG := by
  intro ft F H s vs xs z Q b rx hg k
  unfold toLstSG at hg
  split at hg
  · split at hg
    · cases hg
      rename_i x hz
      obtain ⟨v, rfl, r⟩ := pair1 rx
      have e : v = V.str x := r.str
      subst e
      exact .inl ⟨x, rfl, hz, fun p np => k p _ np (.lst (reps_signs _))⟩
    · cases hg
  · exact .inr (cn_toLst ft F H s vs _ _ Q b rx hg k)
end DL

namespace DL
open PySem PySem.Spec PyProof.Rows L2 PySem.Froz
end DL

namespace DL
open PySem PySem.Spec PyProof.Rows L2
end DL

namespace DL
open PySem PySem.Spec PyProof.Rows L2 PySem.Froz
end DL

namespace DL
open PySem PySem.Spec PyProof.Rows L2 PySem.Froz
end DL

namespace DL
open PySem PySem.Spec PyProof.Rows L2 PySem.Froz
end DL

namespace DL
open PySem PySem.Spec PyProof.Rows L2
def setX (i : Nat) (f : FeX) : Fs := fun env s => match f env s with
  | some (d, e', s1) => some (.nx (e'.set i (some d)), s1)
  | none => none
section
variable {K : PySem.W.Frag} {F : Hp}
theorem Reps.erase : ∀ {vs : List V} {ds : List Dt} (n : Nat), Reps K F vs ds → Reps K F (vs.eraseIdx n) (ds.eraseIdx n)
  | [], [], _, _ => .nil
  | [], _ :: _, _, h => by cases h
  | _ :: _, [], _, h => by cases h
  | _ :: _, _ :: _, 0, h => by cases h with | cons h1 h2 => exact h2
  | _ :: _, _ :: _, n + 1, h => by cases h with | cons h1 h2 => exact .cons h1 (Reps.erase n h2)
end
end DL

namespace DL
open PySem PySem.Spec PyProof.Rows L2
end DL

namespace L2.HT
open PySem PySem.Spec PyProof.Rows PySem.W
end L2.HT
namespace DL
open PySem PySem.Spec PyProof.Rows L2
end DL

namespace DL
open PySem PySem.Spec PyProof.Rows L2
end DL

namespace DL
open PySem PySem.Spec PyProof.Rows L2
structure FdAt (K : PySem.W.Frag) (mg : Str → Option Value) (x : Str) (st : Stmt) (kws : List (Str × V)) : Prop where
  ex : ∃ f fd, L2.FunD K x x (defArgs st) (defBody st) (defScope st) [] kws f fd ∧ mg x = some (.ref f)
section
variable {P : Program} {w : World} {K : PySem.W.Frag} {mg : Str → Option Value} {base : Heap} {x : Str} {st : Stmt} {k : Nat} {ps : List Str} {Fn : List Dt → Sto → Option (Dt × Sto)} {kws : List (Str × V)}
theorem FdAt.fn (A : FdAt K mg x st kws) : FnAt K mg x st := by
  obtain ⟨f, fd, F, m⟩ := A.ex
  exact ⟨f, fd, He5.fun_of F, m⟩
end
theorem Reps.flat {K : PySem.W.Frag} {F : Hp} {vs : List V} {ds : List Dt} (h : Reps K F vs ds) : ∀ n : Nat, Reps K F (List.replicate n vs).flatten (List.replicate n ds).flatten
  | 0 => .nil
  | n + 1 => by
    rw [List.replicate_succ, List.replicate_succ, List.flatten_cons, List.flatten_cons]
    exact h.append (Reps.flat h n)
end DL

namespace DL
open PySem PySem.Spec PyProof.Rows L2
def Fletters_of : Fs := (retS (bindA (aCons (lcF (seqF (bind2 (fVar 0) (fC (.int 0)) ixA)) (tgN 1) yesT (bind2 (fVar 1) (fC (.int 0)) ixA) [1]) aNil) toTupG))
def Vletters_of : List Dt → Sto → Option (Dt × Sto) := fnV 2 Fletters_of
def Fgiven_words : Fs := (seqS (setNS 2 (lcF (seqF (bind2 (fVar 0) (fC (.int 1)) ixA)) (tgN 3) (andT (asB (bind2 (bind2 (fVar 3) (fC (.int 0)) ixA) (fC (.str "put")) eqG)) (asB (bind2 (bind2 (fVar 3) (fC (.int 1)) ixA) (fVar 1) eqG))) (bind2 (fVar 3) (fC (.int 2)) ixA) [3])) (seqS (ifS (truF (bindA (aCons (lcF (seqF (bind2 (fVar 0) (fC (.int 1)) ixA)) (tgN 3) yesT (bind2 (bind2 (fVar 3) (fC (.int 0)) ixA) (fC (.str "lower")) eqG) [3]) aNil) anyG)) (extA 2 (bind2 (bindA (aCons (bind2 (fVar 0) (fC (.int 0)) ixA) aNil) toDctG) (fVar 1) ixA)) skipS) (retS (fVar 2))))
def Vgiven_words : List Dt → Sto → Option (Dt × Sto) := fnV 4 Fgiven_words
def Fring_of : Fs := (seqS (setS 1 (callF Vletters_of (aCons (fVar 0) aNil))) (seqS (setS 2 (dcF (seqF (fVar 1)) (tgN 4) yesT (fVar 4) (bind2 (toStrOnly (fC (.str ""))) (callF Vgiven_words (aCons (fVar 0) (aCons (fVar 4) aNil))) joinG) [4])) (whileS (truF (fC (.bl true))) (seqS (setS 3 (bindA (aCons (lcF (seqF (fVar 1)) (tgN 4) (truF (bindA (aCons (lcF (seqF (bind2 (fVar 2) (fVar 4) ixA)) (tgN 5) yesT (bind2 (fVar 5) (fVar 1) inA) [5]) aNil) anyG)) (fVar 4) [4]) aNil) toTupG)) (seqS (ifS (asB (bind2 (fVar 3) (fVar 1) eqG)) (retS (fVar 1)) skipS) (setS 1 (fVar 3)))) FUEL)))
def Vring_of : List Dt → Sto → Option (Dt × Sto) := fnV 6 Fring_of
def Fis_ending : Fs := (retS (bind2 (callF Vring_of (aCons (fVar 0) aNil)) (bindA aNil tupG) eqG))
def Vis_ending : List Dt → Sto → Option (Dt × Sto) := fnV 1 Fis_ending
def Fneed_ending : Fs := (seqS (setS 1 (callF Vring_of (aCons (fVar 0) aNil))) (ifS (asB (bind2 (fVar 1) (bindA aNil tupG) neG)) neverS skipS))
def Vneed_ending : List Dt → Sto → Option (Dt × Sto) := fnV 2 Fneed_ending
end DL

namespace DL
open PySem PySem.Spec PyProof.Rows L2
def F_law_pick_k01 (dp : List Dt → Sto → Option (Dt × Sto)) : Fs := (retS (bind2 (fVar 1) (callF dp (aCons (fVar 0) (aCons (bindA (aCons (fVar 1) aNil) lenG) aNil))) ixA))
def V_law_pick_k01 (dp : List Dt → Sto → Option (Dt × Sto)) : List Dt → Sto → Option (Dt × Sto) := fnV 2 (F_law_pick_k01 dp)
def F_law_word_k01 (dp : List Dt → Sto → Option (Dt × Sto)) : Fs := (seqS (ifS (asB (bind2 (fVar 1) (bindA aNil lstG) eqG)) (retS (fC (.str ""))) skipS) (seqS (setS 3 (ifV (asB (bind2 (callF dp (aCons (fVar 0) (aCons (fC (.int 2)) aNil))) (fC (.int 0)) eqG)) (bind2 (fVar 2) (callF dp (aCons (fVar 0) (aCons (fC (.int 2)) aNil))) subG) (callF dp (aCons (fVar 0) (aCons (bind2 (fVar 2) (fC (.int 1)) addAll) aNil))))) (retS (bind2 (toStrOnly (fC (.str ""))) (lcF (rngF1 (fVar 3)) (tgN 4) yesT (callF (V_law_pick_k01 dp) (aCons (fVar 0) (aCons (fVar 1) aNil))) [4]) joinG))))
def V_law_word_k01 (dp : List Dt → Sto → Option (Dt × Sto)) : List Dt → Sto → Option (Dt × Sto) := fnV 5 (F_law_word_k01 dp)
end DL

namespace DL
open PySem PySem.Spec PyProof.Rows L2
def F_law_spring_k16 : Fs := (retS (dispF [((fC (.str "cells")), (bindA (aCons (bindS (fVar 0) oNone (oSome (fC (.int 60))) sliceG) aNil) toLstG)), ((fC (.str "place")), (fC (.int 0))), ((fC (.str "rest")), (fC (.int 0))), ((fC (.str "count")), (fC (.int 0)))]))
def V_law_spring_k16 : List Dt → Sto → Option (Dt × Sto) := fnV 1 F_law_spring_k16
def F_law_rule_k16 : Fs := (seqS (setS 2 (ifV (asB (bind2 (bind2 (fVar 0) (bind1 (fC (.int 1)) negG) ixA) (fC (.str "l")) eqG)) (fC (.str "left")) (fC (.str "right")))) (seqS (ifS (asB (bind2 (bind2 (fVar 0) (fC (.int 0)) ixA) (fC (.str "d")) eqG)) (retS (bindA (aCons (fC (.str "drop")) (aCons (bindA (aCons (bind2 (fVar 0) (fC (.int 1)) ixA) aNil) intG) (aCons (fVar 2) aNil))) tupG)) skipS) (seqS (ifS (asB (bind2 (bind2 (fVar 0) (fC (.int 0)) ixA) (fC (.str "p")) eqG)) (retS (bindA (aCons (fC (.str "put")) (aCons (bind2 (fVar 1) (bind2 (fVar 0) (fC (.int 1)) ixA) ixA) (aCons (bind2 (toStrOnly (fC (.str ""))) (lcF (seqF (bindS (fVar 0) (oSome (fC (.int 3))) (oSome (bind1 (fC (.int 2)) negG)) sliceG)) (tgN 3) yesT (bind2 (fVar 1) (fVar 3) ixA) [3]) joinG) (aCons (fVar 2) aNil)))) tupG)) skipS) (seqS (ifS (asB (bind2 (fVar 0) (fC (.str "e")) eqG)) (retS (bindA (aCons (fC (.str "empty")) aNil) tupG)) skipS) (retS (bindA (aCons (ifV (asB (bind2 (bind2 (fVar 0) (fC (.int 0)) ixA) (fC (.str "h")) eqG)) (fC (.str "half")) (fC (.str "lower"))) (aCons (fVar 2) aNil)) tupG))))))
def V_law_rule_k16 : List Dt → Sto → Option (Dt × Sto) := fnV 4 F_law_rule_k16
def F_law_scenes_k16 : Fs := (retS (bindA (aCons (fC (.str "a b>a c;d1l ll")) (aCons (fC (.str "a b>a c;d1r ll")) (aCons (fC (.str "a b c;hl d1l")) (aCons (fC (.str "a b>a c;hl pb:a.l")) (aCons (fC (.str "a b c;d1l")) (aCons (fC (.str "a b;e d1l")) (aCons (fC (.str "a b;d2l d1r")) (aCons (fC (.str "a b c;pa:.l pb:.l pc:.r")) (aCons (fC (.str "a b;pa:bb.l d1l")) (aCons (fC (.str "a b>a;lr d1r hl")) (aCons (fC (.str "a b>a c>ab;lr d1l")) (aCons (fC (.str "a b>a c;pc:.l lr d2l")) (aCons (fC (.str "a b c d;hl hr d1l")) (aCons (fC (.str "a b>a;pb:aa.l ll e")) (aCons (fC (.str "a;d3r hl d1l")) (aCons (fC (.str ";")) (aCons (fC (.str "a b>a c;")) (aCons (fC (.str "a b;pa:b.l pa:.r")) (aCons (fC (.str "a b>a c>b;hr lr d1r e")) aNil))))))))))))))))))) lstG))
def V_law_scenes_k16 : List Dt → Sto → Option (Dt × Sto) := fnV 0 F_law_scenes_k16
def F_law_menu_k16 : Fs := (retS (bindA (aCons (fC (.str "d1l")) (aCons (fC (.str "d1r")) (aCons (fC (.str "d2l")) (aCons (fC (.str "d2r")) (aCons (fC (.str "d3l")) (aCons (fC (.str "d4r")) (aCons (fC (.str "hl")) (aCons (fC (.str "hr")) (aCons (fC (.str "e")) (aCons (fC (.str "ll")) (aCons (fC (.str "lr")) (aCons (fC (.str "pa:.l")) (aCons (fC (.str "pb:.r")) (aCons (fC (.str "pb:a.l")) (aCons (fC (.str "pc:a.r")) (aCons (fC (.str "pc:ab.l")) (aCons (fC (.str "pb:aa.l")) (aCons (fC (.str "pa:b.l")) (aCons (fC (.str "pc:.l")) (aCons (fC (.str "pa:bb.r")) (aCons (fC (.str "pc:abb.l")) (aCons (fC (.str "pb:aaa.r")) aNil)))))))))))))))))))))) lstG))
def V_law_menu_k16 : List Dt → Sto → Option (Dt × Sto) := fnV 0 F_law_menu_k16
def F_law_read_k16 : Fs := (seqS (unpS 2 3 (bind2 (toStrOnly (fVar 0)) (fC (.str ";")) splitG)) (seqS (setNS 4 (bindA aNil lstG)) (seqS (forF (seqF (ifV (asB (bind2 (fVar 2) (fC (.str "")) neG)) (bind2 (toStrOnly (fVar 2)) (fC (.str " ")) splitG) (bindA aNil lstG))) (tgN 5) (appS 4 (bindA (aCons (bind2 (fVar 1) (bind2 (fVar 5) (fC (.int 0)) ixA) ixA) (aCons (bindA (aCons (bindA (aCons (lcF (seqF (bindS (fVar 5) (oSome (fC (.int 2))) oNone sliceG)) (tgN 6) yesT (bind2 (fVar 1) (fVar 6) ixA) [6]) aNil) sortedG_) aNil) toTupG) aNil)) tupG))) (retS (bindA (aCons (bindA (aCons (bindA (aCons (fVar 4) aNil) sortedG_) aNil) toTupG) (aCons (bindA (aCons (ifV (asB (bind2 (fVar 3) (fC (.str "")) neG)) (lcF (seqF (bind2 (toStrOnly (fVar 3)) (fC (.str " ")) splitG)) (tgN 7) yesT (callF V_law_rule_k16 (aCons (fVar 7) (aCons (fVar 1) aNil))) [7]) (bindA aNil lstG)) aNil) toTupG) aNil)) tupG)))))
def V_law_read_k16 : List Dt → Sto → Option (Dt × Sto) := fnV 8 F_law_read_k16
def F_law_names_k16 (dp : List Dt → Sto → Option (Dt × Sto)) : Fs := (seqS (setS 1 (bindA (aCons (fC (.str "abcd")) (aCons (fC (.str "bxyz")) (aCons (fC (.str "pqrs")) (aCons (fC (.str "dacb")) (aCons (fC (.str "zyxw")) aNil))))) lstG)) (seqS (setS 2 (callF (V_law_pick_k01 dp) (aCons (fVar 0) (aCons (fVar 1) aNil)))) (retS (dispF [((fC (.str "a")), (bind2 (fVar 2) (fC (.int 0)) ixA)), ((fC (.str "b")), (bind2 (fVar 2) (fC (.int 1)) ixA)), ((fC (.str "c")), (bind2 (fVar 2) (fC (.int 2)) ixA)), ((fC (.str "d")), (bind2 (fVar 2) (fC (.int 3)) ixA))]))))
def V_law_names_k16 (dp : List Dt → Sto → Option (Dt × Sto)) : List Dt → Sto → Option (Dt × Sto) := fnV 3 (F_law_names_k16 dp)
def F_law_drawn_k16 (dp : List Dt → Sto → Option (Dt × Sto)) : Fs := (seqS (setS 2 (callF (V_law_pick_k01 dp) (aCons (fVar 0) (aCons (bindA (aCons (fC (.str "a b>a c")) (aCons (fC (.str "a b")) (aCons (fC (.str "a b>a")) (aCons (fC (.str "a b>a c>ab")) (aCons (fC (.str "a b c")) (aCons (fC (.str "a")) (aCons (fC (.str "a b>a c>b d>a")) aNil))))))) lstG) aNil)))) (seqS (setNS 3 (bindA aNil lstG)) (seqS (forF (rngF1 (bind2 (fC (.int 1)) (callF dp (aCons (fVar 0) (aCons (callF (V_law_pick_k01 dp) (aCons (fVar 0) (aCons (bindA (aCons (fC (.int 3)) (aCons (fC (.int 4)) (aCons (fC (.int 6)) aNil))) lstG) aNil))) aNil))) addAll)) (tgN 4) (seqS (setS 5 (callF (V_law_pick_k01 dp) (aCons (fVar 0) (aCons (fVar 1) aNil)))) (ifS (orT (asB (bind2 (bind2 (fVar 5) (fC (.int 0)) ixA) (fC (.str "p")) neG)) (asB (bind2 (lcF (seqF (bind2 (bind2 (fVar 5) (fC (.int 1)) ixA) (bindS (fVar 5) (oSome (fC (.int 3))) (oSome (bind1 (fC (.int 2)) negG)) sliceG) addAll)) (tgN 6) (asB (bind2 (fVar 6) (fVar 2) notinA)) (fVar 6) [6]) (bindA aNil lstG) eqG))) (appS 3 (fVar 5)) skipS))) (retS (bind2 (bind2 (fVar 2) (fC (.str ";")) addAll) (bind2 (toStrOnly (fC (.str " "))) (fVar 3) joinG) addAll)))))
def V_law_drawn_k16 (dp : List Dt → Sto → Option (Dt × Sto)) : List Dt → Sto → Option (Dt × Sto) := fnV 7 (F_law_drawn_k16 dp)
def F_law_book_k16 (dp : List Dt → Sto → Option (Dt × Sto)) : Fs := (retS (callF V_law_read_k16 (aCons (ifV (asB (bind2 (callF dp (aCons (fVar 0) (aCons (fC (.int 2)) aNil))) (fC (.int 0)) eqG)) (callF (V_law_drawn_k16 dp) (aCons (fVar 0) (aCons (fVar 2) aNil))) (callF (V_law_pick_k01 dp) (aCons (fVar 0) (aCons (fVar 1) aNil)))) (aCons (fVar 3) aNil))))
def V_law_book_k16 (dp : List Dt → Sto → Option (Dt × Sto)) : List Dt → Sto → Option (Dt × Sto) := fnV 4 (F_law_book_k16 dp)
end DL

namespace DL
open PySem PySem.Spec PyProof.Rows L2
section
variable {A B : Fs} {c : Ft} {f fa fb : Fe} {env e' : Env} {s s' s1 : Sto} {d x y z : Dt} {i k : Nat} {o : Out}
theorem seq_nx (h : A env s = some (.nx e', s')) : seqS A B env s = B e' s' := by unfold seqS; rw [h]
theorem seq_rt (h : A env s = some (.rt d, s')) : seqS A B env s = some (.rt d, s') := by unfold seqS; rw [h]
theorem set_ev (h : f env s = some (d, s')) : setS i f env s = some (.nx (env.set i (some d)), s') := by unfold setS; rw [h]; rfl
theorem setN_ev (hl : i < env.length) (h : f env s = some (d, s')) : setNS i f env s = some (.nx (env.set i (some d)), s') := by unfold setNS; rw [if_pos hl, h]; rfl
theorem ret_ev (h : f env s = some (d, s')) : retS f env s = some (.rt d, s') := by unfold retS; rw [h]; rfl
theorem if_t (h : c env s = some (true, s')) : ifS c A B env s = A env s' := by unfold ifS; rw [h]; rfl
theorem if_f (h : c env s = some (false, s')) : ifS c A B env s = B env s' := by unfold ifS; rw [h]; rfl
theorem ifV_t (h : c env s = some (true, s')) : ifV c fa fb env s = fa env s' := by unfold ifV; rw [h]; rfl
theorem ifV_f (h : c env s = some (false, s')) : ifV c fa fb env s = fb env s' := by unfold ifV; rw [h]; rfl
theorem bind2_ev {g : Sto → Dt → Dt → Option Dt} {s2 : Sto} (h1 : fa env s = some (x, s1)) (h2 : fb env s1 = some (y, s2)) (h3 : g s2 x y = some z) : bind2 fa fb g env s = some (z, s2) := by
  unfold bind2; rw [h1]; simp only [Option.bind_eq_bind, Option.bind_some]; rw [h2]; simp only [Option.bind_some]; rw [h3]; rfl
theorem bind1_ev {g : Sto → Dt → Option Dt} (h1 : fa env s = some (x, s1)) (h3 : g s1 x = some z) : bind1 fa g env s = some (z, s1) := by
  unfold bind1; rw [h1]; simp only [Option.bind_eq_bind, Option.bind_some]; rw [h3]; rfl
theorem asB_ev {b : Bool} (h : f env s = some (.bl b, s')) : asB f env s = some (b, s') := by unfold asB; rw [h]
theorem bindA_ev {r : Fa} {g : Sto → List Dt → Option Dt} {xs : List Dt} (h1 : r env s = some (xs, s1)) (h3 : g s1 xs = some z) : bindA r g env s = some (z, s1) := by
  unfold bindA; rw [h1]; simp only [Option.bind_eq_bind, Option.bind_some]; rw [h3]; rfl
theorem aCons_ev {r : Fa} {xs : List Dt} (h1 : f env s = some (x, s1)) (h2 : r env s1 = some (xs, s')) : aCons f r env s = some (x :: xs, s') := by
  unfold aCons; rw [h1]; simp only [Option.bind_eq_bind, Option.bind_some]; rw [h2]; rfl
theorem call_ev {Fn : List Dt → Sto → Option (Dt × Sto)} {fa : Fa} {xs : List Dt} (h1 : fa env s = some (xs, s1)) (h2 : Fn xs s1 = some (d, s')) : callF Fn fa env s = some (d, s') := by
  unfold callF; rw [h1]; exact h2
theorem a0 : aNil env s = some ([], s) := rfl
theorem c0 : fC d env s = some (d, s) := rfl
theorem v0 (h : env[i]? = some (some d)) : fVar i env s = some (d, s) := by unfold fVar; rw [h]; rfl
theorem fn_rt {m : Nat} {F : Fs} {ds : List Dt} (h : F (ds.map some ++ List.replicate (m - ds.length) none) s = some (.rt d, s')) : fnV m F ds s = some (d, s') := by unfold fnV; rw [h]
theorem fn_nx {m : Nat} {F : Fs} {ds : List Dt} (h : F (ds.map some ++ List.replicate (m - ds.length) none) s = some (.nx e', s')) : fnV m F ds s = some (.non, s') := by unfold fnV; rw [h]
end
theorem loop_ind {st : Tg} {F : Fs} (I : List Dt → Env → Sto → Prop) (hs : ∀ d r env s, I (d :: r) env s → ∃ e1 e2 s2, st env d = some e1 ∧ F e1 s = some (.nx e2, s2) ∧ I r e2 s2) :
    ∀ (ds : List Dt) (env : Env) (s : Sto), I ds env s → ∃ env' s', loopF st F ds env s = some (.nx env', s') ∧ I [] env' s'
  | [], env, s, h => ⟨env, s, rfl, h⟩
  | d :: ds, env, s, h => by
    obtain ⟨e1, e2, s2, h1, h2, h3⟩ := hs d ds env s h
    obtain ⟨e', s', h4, h5⟩ := loop_ind I hs ds e2 s2 h3
    refine ⟨e', s', ?_, h5⟩
    unfold loopF
    rw [h1]
    dsimp only
    rw [h2]
    exact h4
theorem lcL_map {te : Fe} {w : Env} {k : Nat} {g : Dt → Dt} {s : Sto} : ∀ {ds : List Dt}, (∀ d, d ∈ ds → te (w.set k (some d)) s = some (g d, s)) → lcL (tgN k) yesT te w ds s = some (ds.map g, s)
  | [], _ => rfl
  | d :: ds, h => by
    have ih := lcL_map (te := te) (w := w) (k := k) (g := g) (s := s) (ds := ds) fun d' h' => h d' (List.mem_cons_of_mem _ h')
    unfold lcL
    simp only [tgN, yesT]
    rw [h d List.mem_cons_self]
    dsimp only
    rw [ih]
    rfl
theorem lc_map {fi : Fi} {te : Fe} {env : Env} {vs : List Nat} {k : Nat} {g : Dt → Dt} {s s1 : Sto} {ds : List Dt} (hi : fi env s = some (ds, s1)) (hl : ds.length ≤ sizeLine) (h : ∀ d, d ∈ ds → te ((wipeE env vs).set k (some d)) s1 = some (g d, s1)) : lcF fi (tgN k) yesT te vs env s = some (.lst (ds.map g), s1) := by
  unfold lcF
  rw [hi]
  dsimp only
  rw [lcL_map h]
  dsimp only
  rw [if_pos (by rw [List.length_map]; exact hl)]
theorem small {n : Nat} (h : n ≤ 16777215) : n ≤ sizeLine := by rw [sizeLine_eq]; omega
theorem small' {n : Nat} (h : n < 16777215) : n < sizeLine := by rw [sizeLine_eq]; omega
def spr (l : List Int) (y z u : Int) : List (Key × Dt) := [(.inr "cells", .lst (l.map .int)), (.inr "place", .int y), (.inr "rest", .int z), (.inr "count", .int u)]
section
variable (l : List Int) (y z u v : Int)
theorem val_cells : valD (spr l y z u) (.inr "cells") = some (.lst (l.map .int)) := rfl
theorem val_place : valD (spr l y z u) (.inr "place") = some (.int y) := rfl
theorem val_rest : valD (spr l y z u) (.inr "rest") = some (.int z) := rfl
theorem val_count : valD (spr l y z u) (.inr "count") = some (.int u) := rfl
theorem put_place : putD (spr l y z u) (.inr "place") (.int v) = spr l v z u := rfl
theorem put_rest : putD (spr l y z u) (.inr "rest") (.int v) = spr l y v u := rfl
theorem put_count : putD (spr l y z u) (.inr "count") (.int v) = spr l y z v := rfl
end
theorem ix_one {p : Addr} {ks : List (Key × Dt)} {x : Str} : ixA [(p, .dct ks)] (.ref p) (.str x) = valD ks (.inr x) := by
  simp [ixA, dctOf, dgetG, keyOf, List.lookup]
theorem get_ev {env : Env} {p : Addr} {ks : List (Key × Dt)} {x : Str} {d : Dt} {i : Nat} (h : env[i]? = some (some (.ref p))) (hv : valD ks (.inr x) = some d) : bind2 (fVar i) (fC (.str x)) ixA env [(p, .dct ks)] = some (d, [(p, .dct ks)]) :=
  bind2_ev (v0 h) c0 (ix_one.trans hv)
theorem hput_ev {env : Env} {p : Addr} {ks ks' : List (Key × Dt)} {x : Str} {d : Dt} {i : Nat} {fv : Fe} (h : env[i]? = some (some (.ref p))) (hf : fv env [(p, .dct ks)] = some (d, [(p, .dct ks)])) (hl : ks.length < sizeLine) (hp : putD ks (.inr x) d = ks') : hputS i (fC (.str x)) fv env [(p, .dct ks)] = some (.nx env, [(p, .dct ks')]) := by
  unfold hputS
  rw [hf]
  dsimp only
  rw [c0, h]
  simp [keyOf, List.lookup, hl, hp]
theorem shaped_ints (l : List Int) : plain (.lst (l.map .int)) = true ∧ SeqAt.shaped (py (.lst (l.map .int))) = true := by
  have h1 : ∀ l : List Int, plains (l.map Dt.int) = true := fun l => by
    induction l with
    | nil => rfl
    | cons x l ih => simpa [plains, plain] using ih
  have h2 : ∀ l : List Int, PyData.canLayAll0 (pys (l.map Dt.int)) = true := fun l => by
    induction l with
    | nil => rfl
    | cons x l ih => simpa [pys, py, PyData.canLayAll0, PyData.canLay0] using ih
  have h3 : ∀ l : List Int, PyData.depthAll (pys (l.map Dt.int)) = 0 := fun l => by
    induction l with
    | nil => rfl
    | cons x l ih => simpa [pys, py, PyData.depthAll, PyData.depth] using ih
  refine ⟨by simpa [plain] using h1 l, ?_⟩
  simp [SeqAt.shaped, py, PyData.canLay0, PyData.depth, h2 l, h3 l]
theorem ne_cells (s : Sto) (l : List Int) : neG s (.lst (l.map .int)) (.lst []) = some (.bl (!l.isEmpty)) := by
  obtain ⟨h1, h2⟩ := shaped_ints l
  obtain ⟨h3, h4⟩ := shaped_ints []
  unfold neG eqG
  dsimp only
  rw [if_pos ⟨h1, h3, h2, h4⟩]
  cases l <;> rfl
end DL

namespace DL
open PySem PySem.Spec PyProof.Rows L2
theorem atI_mod {l : List Int} (h : l ≠ []) (y : Int) : ∃ c, atI (l.map Dt.int) (y % ((l.length : Nat) : Int)) = some (.int c) := by
  have hl : 0 < l.length := List.length_pos_iff.mpr h
  have h1 : 0 ≤ y % (l.length : Int) := Int.emod_nonneg _ (by omega)
  have h2 : y % (l.length : Int) < l.length := Int.emod_lt_of_pos _ (by omega)
  obtain ⟨n, hn⟩ := Int.eq_ofNat_of_zero_le h1
  rw [hn] at h2 ⊢
  have hn2 : n < l.length := by omega
  exact ⟨l[n], atI_nat (j := n) (by rw [List.getElem?_map, List.getElem?_eq_getElem hn2]; rfl)⟩
def dipF (q0 q1 q2 q3 : Int) : Fs := (seqS (setS 2 (bind2 (bind2 (fVar 0) (fC (.str "count")) ixA) (fC (.int 1)) addAll)) (seqS (hputS 0 (fC (.str "count")) (fVar 2)) (seqS (ifS (asB (bind2 (bind2 (fVar 0) (fC (.str "rest")) ixA) (fC (.int 0)) gtG)) (seqS (setS 3 (bind2 (bindA (aCons (bind2 (fVar 0) (fC (.str "rest")) ixA) aNil) intG) (fVar 1) modG)) (seqS (hputS 0 (fC (.str "rest")) (bind2 (bind2 (fVar 0) (fC (.str "rest")) ixA) (fVar 1) divG)) (retS (fVar 3)))) skipS) (seqS (setS 4 (bind2 (fVar 0) (fC (.str "place")) ixA)) (seqS (hputS 0 (fC (.str "place")) (bind2 (fVar 4) (fC (.int 1)) addAll)) (seqS (setS 5 (fC (.int q0))) (seqS (ifS (asB (bind2 (bind2 (fVar 0) (fC (.str "cells")) ixA) (bindA aNil lstG) neG)) (setS 5 (bind2 (bind2 (fVar 0) (fC (.str "cells")) ixA) (bind2 (bindA (aCons (fVar 4) aNil) intG) (bindA (aCons (bind2 (fVar 0) (fC (.str "cells")) ixA) aNil) lenG) modG) ixA)) skipS) (seqS (ifS (andT (asB (bind2 (fVar 5) (bind2 (fC (.int 10)) (fC (.int 18)) powG) geG)) (asB (bind2 (fVar 4) (bindA (aCons (bind2 (fVar 0) (fC (.str "cells")) ixA) aNil) lenG) ltG))) (seqS (hputS 0 (fC (.str "rest")) (bind2 (fVar 5) (fVar 1) divG)) (retS (bind2 (bindA (aCons (fVar 5) aNil) intG) (fVar 1) modG))) skipS) (seqS (setS 6 (bind2 (bindA (aCons (bind2 (bind2 (bind2 (bind2 (bindA (aCons (fVar 5) aNil) intG) (fC (.int 2147483353)) modG) (bind2 (fC (.int q1)) (fVar 2) mulG) addAll) (fC (.int q2)) addAll) (fC (.int 3)) powG) aNil) intG) (fC (.int 2147483647)) modG)) (seqS (setS 6 (bind2 (bindA (aCons (bind2 (bind2 (fVar 6) (bind2 (fC (.int q3)) (fVar 2) mulG) addAll) (fC (.int 5)) powG) aNil) intG) (fC (.int 2147483587)) modG)) (retS (bind2 (bindA (aCons (bind2 (fVar 6) (fC (.int 128)) divG) aNil) intG) (fVar 1) modG))))))))))))
theorem dip_ok {q0 q1 q2 q3 : Int} (k1 : 0 ≤ q1 ∧ q1 < 65536) (k2 : 0 ≤ q2 ∧ q2 < 65536) (k3 : 0 ≤ q3 ∧ q3 < 65536) {l : List Int} {y z u m : Int} {p : Addr} (hm : 0 < m) (hm2 : m < 1073741824) (hu : 0 ≤ u) (hu2 : u < 1099511627776) : ∃ r y' z', (fnV 7 (dipF q0 q1 q2 q3)) [.ref p, .int m] [(p, .dct (spr l y z u))] = some (.int r, [(p, .dct (spr l y' z' (u + 1)))]) ∧ 0 ≤ r ∧ r < m := by
  have hs : ∀ l y z u, (spr l y z u).length < sizeLine := fun l y z u => small' (by show 4 < 16777215; decide)
  have md : ∀ a : Int, 0 ≤ a % m ∧ a % m < m := fun a => ⟨Int.emod_nonneg _ (by omega), Int.emod_lt_of_pos _ hm⟩
  have modm : ∀ (s : Sto) (a : Int), modG s (.int a) (.int m) = some (.int (a % m)) := fun s a => if_pos hm
  have divm : ∀ (s : Sto) (a : Int), divG s (.int a) (.int m) = some (.int (a / m)) := fun s a => if_pos ⟨hm, hm2⟩
  suffices h : ∃ r y' z', (dipF q0 q1 q2 q3) [some (.ref p), some (.int m), none, none, none, none, none] [(p, .dct (spr l y z u))] = some (.rt (.int r), [(p, .dct (spr l y' z' (u + 1)))]) ∧ 0 ≤ r ∧ r < m by
    obtain ⟨r, y', z', h1, h2⟩ := h
    exact ⟨r, y', z', fn_rt h1, h2⟩
  unfold dipF
  rw [seq_nx (set_ev (bind2_ev (get_ev rfl (val_count ..)) c0 rfl))]
  rw [seq_nx (hput_ev rfl (v0 rfl) (hs ..) (put_count ..))]
  have e1 : ∀ (env : Env), env[0]? = some (some (.ref p)) → asB (bind2 (bind2 (fVar 0) (fC (.str "rest")) ixA) (fC (.int 0)) gtG) env [(p, .dct (spr l y z (u + 1)))] = some (decide (0 < z), [(p, .dct (spr l y z (u + 1)))]) := fun env he => asB_ev (bind2_ev (get_ev he (val_rest ..)) c0 rfl)
  by_cases hz : 0 < z
  · have e2 := e1 [some (.ref p), some (.int m), some (.int (u + 1)), none, none, none, none] rfl
    rw [decide_eq_true hz] at e2
    have e3 : ∀ B, seqS (setS 3 (bind2 (bindA (aCons (bind2 (fVar 0) (fC (.str "rest")) ixA) aNil) intG) (fVar 1) modG)) B [some (.ref p), some (.int m), some (.int (u + 1)), none, none, none, none] [(p, .dct (spr l y z (u + 1)))] = B [some (.ref p), some (.int m), some (.int (u + 1)), some (.int (z % m)), none, none, none] [(p, .dct (spr l y z (u + 1)))] := fun B =>
      seq_nx (set_ev (bind2_ev (bindA_ev (aCons_ev (get_ev rfl (val_rest ..)) a0) rfl) (v0 rfl) (modm _ _)))
    have e4 : ∀ B, seqS (hputS 0 (fC (.str "rest")) (bind2 (bind2 (fVar 0) (fC (.str "rest")) ixA) (fVar 1) divG)) B [some (.ref p), some (.int m), some (.int (u + 1)), some (.int (z % m)), none, none, none] [(p, .dct (spr l y z (u + 1)))] = B [some (.ref p), some (.int m), some (.int (u + 1)), some (.int (z % m)), none, none, none] [(p, .dct (spr l y (z / m) (u + 1)))] := fun B =>
      seq_nx (hput_ev rfl (bind2_ev (get_ev rfl (val_rest ..)) (v0 rfl) (divm _ _)) (hs ..) (put_rest ..))
    refine ⟨z % m, y, z / m, ?_, md z⟩
    exact seq_rt ((if_t e2).trans ((e3 _).trans ((e4 _).trans (ret_ev (v0 rfl)))))
  · have e2 := e1 [some (.ref p), some (.int m), some (.int (u + 1)), none, none, none, none] rfl
    rw [decide_eq_false hz] at e2
    have e3 : ∀ A B, seqS (ifS (asB (bind2 (bind2 (fVar 0) (fC (.str "rest")) ixA) (fC (.int 0)) gtG)) A skipS) B [some (.ref p), some (.int m), some (.int (u + 1)), none, none, none, none] [(p, .dct (spr l y z (u + 1)))] = B [some (.ref p), some (.int m), some (.int (u + 1)), none, none, none, none] [(p, .dct (spr l y z (u + 1)))] := fun A B => seq_nx ((if_f e2).trans rfl)
    have cell : ∃ c, (if l.isEmpty then (q0 : Int) = c else atI (l.map Dt.int) (y % ((l.length : Nat) : Int)) = some (.int c)) := by
      cases hl : l.isEmpty with
      | true => exact ⟨q0, rfl⟩
      | false =>
        obtain ⟨c, hc⟩ := atI_mod (l := l) (fun z => by rw [z] at hl; cases hl) y
        exact ⟨c, by simpa using hc⟩
    obtain ⟨c, hc⟩ := cell
    have hlen : ∀ s : Sto, lenG s [.lst (l.map Dt.int)] = some (.int l.length) := fun s => by
      show some (Dt.int ((l.map Dt.int).length : Nat)) = _
      rw [List.length_map]
    have e5 : ∀ B, seqS (ifS (asB (bind2 (bind2 (fVar 0) (fC (.str "cells")) ixA) (bindA aNil lstG) neG)) (setS 5 (bind2 (bind2 (fVar 0) (fC (.str "cells")) ixA) (bind2 (bindA (aCons (fVar 4) aNil) intG) (bindA (aCons (bind2 (fVar 0) (fC (.str "cells")) ixA) aNil) lenG) modG) ixA)) skipS) B [some (.ref p), some (.int m), some (.int (u + 1)), none, some (.int y), some (.int q0), none] [(p, .dct (spr l (y + 1) z (u + 1)))]
        = B [some (.ref p), some (.int m), some (.int (u + 1)), none, some (.int y), some (.int c), none] [(p, .dct (spr l (y + 1) z (u + 1)))] := fun B => by
      have t : asB (bind2 (bind2 (fVar 0) (fC (.str "cells")) ixA) (bindA aNil lstG) neG) [some (.ref p), some (.int m), some (.int (u + 1)), none, some (.int y), some (.int q0), none] [(p, .dct (spr l (y + 1) z (u + 1)))] = some (!l.isEmpty, [(p, .dct (spr l (y + 1) z (u + 1)))]) :=
        asB_ev (bind2_ev (get_ev rfl (val_cells ..)) (bindA_ev a0 (z := .lst []) (if_pos (show ([] : List Dt).length ≤ sizeLine from Nat.zero_le _))) (ne_cells _ l))
      cases hl : l.isEmpty with
      | true =>
        rw [hl] at t hc
        have hc' : (q0 : Int) = c := by simpa using hc
        subst hc'
        exact seq_nx ((if_f t).trans rfl)
      | false =>
        rw [hl] at t hc
        have hc' : atI (l.map Dt.int) (y % ((l.length : Nat) : Int)) = some (.int c) := by simpa using hc
        have hpos : (0 : Int) < ((l.length : Nat) : Int) := by
          cases l with
          | nil => cases hl
          | cons => rw [List.length_cons]; omega
        refine seq_nx ((if_t t).trans (set_ev (bind2_ev (get_ev rfl (val_cells ..)) (bind2_ev (x := .int y) (y := .int ((l.length : Nat) : Int)) (bindA_ev (aCons_ev (v0 rfl) a0) rfl) (bindA_ev (aCons_ev (get_ev rfl (val_cells ..)) a0) (hlen _)) (if_pos hpos)) ?_)))
        exact hc'
    have c18 : bind2 (fC (.int 10)) (fC (.int 18)) powG = fun (_ : Env) (s : Sto) => some (.int 1000000000000000000, s) := by
      funext env s
      exact bind2_ev c0 c0 rfl
    have e6 : ∀ (env : Env) (s : Sto), env = [some (.ref p), some (.int m), some (.int (u + 1)), none, some (.int y), some (.int c), none] → s = [(p, .dct (spr l (y + 1) z (u + 1)))] →
        andT (asB (bind2 (fVar 5) (bind2 (fC (.int 10)) (fC (.int 18)) powG) geG)) (asB (bind2 (fVar 4) (bindA (aCons (bind2 (fVar 0) (fC (.str "cells")) ixA) aNil) lenG) ltG)) env s = some (decide ((1000000000000000000 : Int) ≤ c) && decide (y < l.length), s) := fun env s he hs => by
      subst he hs
      unfold andT
      rw [asB_ev (b := decide ((1000000000000000000 : Int) ≤ c)) (bind2_ev (v0 rfl) (show bind2 (fC (.int 10)) (fC (.int 18)) powG _ _ = _ by rw [c18]) rfl)]
      cases q : decide ((1000000000000000000 : Int) ≤ c) with
      | false => rfl
      | true => 
        simp only [Option.bind_eq_bind, Option.bind_some, if_true, Bool.true_and]
        exact asB_ev (bind2_ev (v0 rfl) (bindA_ev (aCons_ev (get_ev rfl (val_cells ..)) a0) (hlen _)) rfl)
    have e7 : ∀ B, seqS (setS 4 (bind2 (fVar 0) (fC (.str "place")) ixA)) (seqS (hputS 0 (fC (.str "place")) (bind2 (fVar 4) (fC (.int 1)) addAll)) (seqS (setS 5 (fC (.int q0))) B)) [some (.ref p), some (.int m), some (.int (u + 1)), none, none, none, none] [(p, .dct (spr l y z (u + 1)))] = B [some (.ref p), some (.int m), some (.int (u + 1)), none, some (.int y), some (.int q0), none] [(p, .dct (spr l (y + 1) z (u + 1)))] := fun B =>
      (seq_nx (set_ev (get_ev rfl (val_place ..)))).trans ((seq_nx (hput_ev rfl (bind2_ev (v0 rfl) c0 rfl) (hs ..) (put_place ..))).trans (seq_nx (set_ev c0)))
    rw [show ([some (Dt.ref p), some (Dt.int m), none, none, none, none, none] : Env).set 2 (some (.int (u + 1))) = [some (.ref p), some (.int m), some (.int (u + 1)), none, none, none, none] from rfl, e3, e7, e5]
    have e8 := e6 _ _ rfl rfl
    cases q : decide ((1000000000000000000 : Int) ≤ c) && decide (y < l.length) with
    | true =>
      rw [q] at e8
      refine ⟨c % m, y + 1, c / m, ?_, md c⟩
      exact seq_rt ((if_t e8).trans ((seq_nx (hput_ev rfl (bind2_ev (v0 rfl) (v0 rfl) (divm _ _)) (hs ..) (put_rest ..))).trans (ret_ev (bind2_ev (bindA_ev (aCons_ev (v0 rfl) a0) rfl) (v0 rfl) (modm _ _)))))
    | false =>
      rw [q] at e8
      rw [seq_nx ((if_f e8).trans rfl)]
      have p1 : ∀ (s : Sto) (a b : Int), 0 ≤ a → a < 2147483353 → 0 ≤ b → b < 1099511627777 → mulG s (.int q1) (.int b) = some (.int (q1 * b)) ∧ powG s (.int (a + q1 * b + q2)) (.int 3) = some (.int ((a + q1 * b + q2) ^ 3)) := fun s a b h1 h2 h3 h4 => by
        constructor
        · refine if_pos ?_
          have : b.natAbs < 2 ^ 41 := by omega
          have h5 : b.natAbs.log2 ≤ 41 := by
            by_cases hb : b.natAbs = 0
            · rw [hb]; decide
            · exact Nat.le_of_lt ((Nat.log2_lt hb).mpr this)
          have h6 : q1.natAbs.log2 ≤ 16 := by
            by_cases hb : q1.natAbs = 0
            · rw [hb]; decide
            · exact Nat.le_of_lt ((Nat.log2_lt hb).mpr (by omega))
          omega
        · have hb : q1 * b ≤ 65536 * 1099511627777 := Int.mul_le_mul (by omega) (by omega) h3 (by decide)
          have hb0 : 0 ≤ q1 * b := Int.mul_nonneg k1.1 h3
          exact if_pos ⟨by decide, by decide, by omega⟩
      have p2 : ∀ (s : Sto) (a b : Int), 0 ≤ a → a < 2147483647 → 0 ≤ b → b < 1099511627777 → mulG s (.int q3) (.int b) = some (.int (q3 * b)) ∧ powG s (.int (a + q3 * b)) (.int 5) = some (.int ((a + q3 * b) ^ 5)) := fun s a b h1 h2 h3 h4 => by
        constructor
        · refine if_pos ?_
          have : b.natAbs < 2 ^ 41 := by omega
          have h5 : b.natAbs.log2 ≤ 41 := by
            by_cases hb : b.natAbs = 0
            · rw [hb]; decide
            · exact Nat.le_of_lt ((Nat.log2_lt hb).mpr this)
          have h6 : q3.natAbs.log2 ≤ 16 := by
            by_cases hb : q3.natAbs = 0
            · rw [hb]; decide
            · exact Nat.le_of_lt ((Nat.log2_lt hb).mpr (by omega))
          omega
        · have hb : q3 * b ≤ 65536 * 1099511627777 := Int.mul_le_mul (by omega) (by omega) h3 (by decide)
          have hb0 : 0 ≤ q3 * b := Int.mul_nonneg k3.1 h3
          exact if_pos ⟨by decide, by decide, by omega⟩
      obtain ⟨m1, w1⟩ := p1 [(p, .dct (spr l (y + 1) z (u + 1)))] (c % 2147483353) (u + 1) (Int.emod_nonneg _ (by decide)) (Int.emod_lt_of_pos _ (by decide)) (by omega) (by omega)
      obtain ⟨m2, w2⟩ := p2 [(p, .dct (spr l (y + 1) z (u + 1)))] (((c % 2147483353 + q1 * (u + 1) + q2) ^ 3) % 2147483647) (u + 1) (Int.emod_nonneg _ (by decide)) (Int.emod_lt_of_pos _ (by decide)) (by omega) (by omega)
      refine ⟨(((((c % 2147483353 + q1 * (u + 1) + q2) ^ 3) % 2147483647 + q3 * (u + 1)) ^ 5) % 2147483587 / 128) % m, y + 1, z, ?_, md _⟩
      refine (seq_nx (set_ev (bind2_ev (bindA_ev (aCons_ev (bind2_ev (bind2_ev (bind2_ev (bind2_ev (bindA_ev (aCons_ev (v0 rfl) a0) rfl) c0 rfl) (bind2_ev c0 (v0 rfl) m1) rfl) c0 rfl) c0 w1) a0) rfl) c0 rfl))).trans ?_
      refine (seq_nx (set_ev (bind2_ev (bindA_ev (aCons_ev (bind2_ev (bind2_ev (v0 rfl) (bind2_ev c0 (v0 rfl) m2) rfl) c0 w2) a0) rfl) c0 rfl))).trans ?_
      exact ret_ev (bind2_ev (bindA_ev (aCons_ev (bind2_ev (v0 rfl) c0 rfl) a0) rfl) (v0 rfl) (modm _ _))
end DL

namespace DL
open PySem PySem.Spec PyProof.Rows L2
def SpO (p : Addr) (n : Nat) (s : Sto) : Prop := ∃ l y z u, s = [(p, .dct (spr l y z u))] ∧ 0 ≤ u ∧ u ≤ (n : Int)
abbrev Fn := List Dt → Sto → Option (Dt × Sto)
structure Dip (dp : Fn) (Sp : Addr → Nat → Sto → Prop) : Prop where
  draw : ∀ {p : Addr} {n : Nat} {s : Sto} {m : Int}, Sp p n s → n < 1000000 → 0 < m → m < 1073741824 → ∃ r s', dp [.ref p, .int m] s = some (.int r, s') ∧ 0 ≤ r ∧ r < m ∧ Sp p (n + 1) s'
  mono : ∀ {p : Addr} {n m : Nat} {s : Sto}, Sp p n s → n ≤ m → Sp p m s
theorem dip_of {dp : Fn} {q0 q1 q2 q3 : Int} (e : dp = fnV 7 (dipF q0 q1 q2 q3)) (k1 : 0 ≤ q1 ∧ q1 < 65536) (k2 : 0 ≤ q2 ∧ q2 < 65536) (k3 : 0 ≤ q3 ∧ q3 < 65536) : Dip dp SpO where
  draw := fun {p n s m} ⟨l, y, z, u, e1, h1, h2⟩ hn hm hm2 => by
    subst e e1
    obtain ⟨r, y', z', e, r1, r2⟩ := dip_ok k1 k2 k3 (q0 := q0) (l := l) (y := y) (z := z) (p := p) hm hm2 h1 (by omega)
    exact ⟨r, _, e, r1, r2, l, y', z', u + 1, rfl, by omega, by omega⟩
  mono := fun {p n m s} ⟨l, y, z, u, e, h1, h2⟩ hm => ⟨l, y, z, u, e, h1, by omega⟩
variable {dp : Fn} {Sp : Addr → Nat → Sto → Prop}
theorem ixA_lst {s : Sto} {ds : List Dt} {n : Nat} {d : Dt} (h : ds[n]? = some d) : ixA s (.lst ds) (.int n) = some d := by
  show atI ds (n : Int) = some d
  exact atI_nat h
theorem pick_sp (D : Dip dp Sp) {p : Addr} {n : Nat} {s : Sto} {ds : List Dt} (h : Sp p n s) (hn : n < 1000000) (h0 : ds ≠ []) (hl : ds.length < 1000000) : ∃ d s', (V_law_pick_k01 dp) [.ref p, .lst ds] s = some (d, s') ∧ d ∈ ds ∧ Sp p (n + 1) s' := by
  have hp : 0 < ds.length := List.length_pos_iff.mpr h0
  obtain ⟨r, s', e, r1, r2, h'⟩ := D.draw (m := ((ds.length : Nat) : Int)) h hn (by omega) (by omega)
  obtain ⟨k, rfl⟩ := Int.eq_ofNat_of_zero_le r1
  have hk : k < ds.length := by omega
  refine ⟨ds[k], s', fn_rt (ret_ev (bind2_ev (v0 rfl) (call_ev (aCons_ev (v0 rfl) (aCons_ev (bindA_ev (aCons_ev (v0 rfl) a0) rfl) a0)) e) (ixA_lst (List.getElem?_eq_getElem hk)))), List.getElem_mem hk, h'⟩
def tables : List Str := ["abcd", "bxyz", "pqrs", "dacb", "zyxw"]
def chD (t : Str) (i : Nat) : Dt := .str ⟨#[t.cps.toList.getD i 0]⟩
def nmap (t : Str) : Dt := .dct [(.inr "a", chD t 0), (.inr "b", chD t 1), (.inr "c", chD t 2), (.inr "d", chD t 3)]
theorem names_row (p : Addr) (s : Sto) (t : Str) (h : t ∈ tables) : dispF [((fC (.str "a")), (bind2 (fVar 2) (fC (.int 0)) ixA)), ((fC (.str "b")), (bind2 (fVar 2) (fC (.int 1)) ixA)), ((fC (.str "c")), (bind2 (fVar 2) (fC (.int 2)) ixA)), ((fC (.str "d")), (bind2 (fVar 2) (fC (.int 3)) ixA))] [some (.ref p), some (.lst (tables.map .str)), some (.str t)] s = some (nmap t, s) := by
  simp only [tables, List.mem_cons, List.not_mem_nil, or_false] at h
  rcases h with rfl | rfl | rfl | rfl | rfl <;> rfl
theorem names_sp (D : Dip dp Sp) {p : Addr} {n : Nat} {s : Sto} (h : Sp p n s) (hn : n < 1000000) : ∃ t s', (V_law_names_k16 dp) [.ref p] s = some (nmap t, s') ∧ t ∈ tables ∧ Sp p (n + 1) s' := by
  obtain ⟨d, s', e, hd, h'⟩ := pick_sp D (ds := tables.map .str) h hn (by decide) (by decide)
  obtain ⟨t, ht, rfl⟩ := List.mem_map.mp hd
  refine ⟨t, s', fn_rt ?_, ht, h'⟩
  refine (seq_nx (set_ev (d := .lst (tables.map .str)) rfl)).trans ?_
  refine (seq_nx (set_ev (call_ev (aCons_ev (v0 rfl) (aCons_ev (v0 rfl) a0)) e))).trans ?_
  exact ret_ev (names_row p s' t ht)
end DL

namespace DL
open PySem PySem.Spec PyProof.Rows L2
inductive Ru where
  | drop (n : Nat) (l : Bool) | half (l : Bool) | empty | lower (l : Bool) | put (c : Nat) (w : List Nat) (l : Bool)
def wd (w : List Nat) : Dt := .str ⟨w.toArray⟩
def sideD (l : Bool) : Dt := .str (if l then "left" else "right")
def Ru.d : Ru → Dt
  | .drop n l => .tup [.str "drop", .int n, sideD l]
  | .half l => .tup [.str "half", sideD l]
  | .empty => .tup [.str "empty"]
  | .lower l => .tup [.str "lower", sideD l]
  | .put c w l => .tup [.str "put", wd [c], wd w, sideD l]
def letT (t : Str) (c : Nat) : Nat := t.cps.toList.getD (c - 97) 0
def ruOf (t g : Str) : Ru :=
  let l := g.cps.toList.getLast? == some 108
  match g.cps.toList with
  | 100 :: n :: _ => .drop (n - 48) l
  | 112 :: c :: _ :: r => .put (letT t c) ((r.take (r.length - 2)).map (letT t)) l
  | [101] => .empty
  | 104 :: _ => .half l
  | _ => .lower l
def menuS : List Str := ["d1l", "d1r", "d2l", "d2r", "d3l", "d4r", "hl", "hr", "e", "ll", "lr", "pa:.l", "pb:.r", "pb:a.l", "pc:a.r", "pc:ab.l", "pb:aa.l", "pa:b.l", "pc:.l", "pa:bb.r", "pc:abb.l", "pb:aaa.r"]
def moreS : List Str := ["pb:.l", "pc:.r", "pa:bb.l", "d3r", "pa:.r"]
def signs : List Str := menuS ++ moreS
theorem rule_row (t g : Str) (s : Sto) (ht : t ∈ tables) (hg : g ∈ signs) : V_law_rule_k16 [.str g, nmap t] s = some ((ruOf t g).d, s) := by
  simp only [tables, List.mem_cons, List.not_mem_nil, or_false] at ht
  simp only [signs, menuS, moreS, List.cons_append, List.nil_append, List.mem_cons, List.not_mem_nil, or_false] at hg
  rcases ht with rfl | rfl | rfl | rfl | rfl <;> rcases hg with rfl | rfl | rfl | rfl | rfl | rfl | rfl | rfl | rfl | rfl | rfl | rfl | rfl | rfl | rfl | rfl | rfl | rfl | rfl | rfl | rfl | rfl | rfl | rfl | rfl | rfl | rfl <;> first | rfl | with_unfolding_all rfl
end DL

namespace DL
open PySem PySem.Spec PyProof.Rows L2
def firsts7 : List Str := ["a b>a c", "a b", "a b>a", "a b>a c>ab", "a b c", "a", "a b>a c>b d>a"]
def firsts : List Str := ["a b>a c", "a b", "a b>a", "a b>a c>ab", "a b c", "a", "a b>a c>b d>a", "", "a b c d", "a b>a c>b"]
def condT : Ft := (orT (asB (bind2 (bind2 (fVar 5) (fC (.int 0)) ixA) (fC (.str "p")) neG)) (asB (bind2 (lcF (seqF (bind2 (bind2 (fVar 5) (fC (.int 1)) ixA) (bindS (fVar 5) (oSome (fC (.int 3))) (oSome (bind1 (fC (.int 2)) negG)) sliceG) addAll)) (tgN 6) (asB (bind2 (fVar 6) (fVar 2) notinA)) (fVar 6) [6]) (bindA aNil lstG) eqG)))
def fitG (f g : Str) : Bool := match g.cps.toList with
  | 112 :: c :: _ :: r => (c :: r.take (r.length - 2)).all fun x => f.cps.toList.contains x
  | _ => true
theorem cond_row (f g : Str) (hf : f ∈ firsts7) (hg : g ∈ menuS) (p : Addr) (M G : Dt) (x : Option Dt) (s : Sto) : ∃ b, condT [some (.ref p), some M, some (.str f), some G, x, some (.str g), none] s = some (b, s) ∧ (b = true → fitG f g = true) := by
  simp only [firsts7, List.mem_cons, List.not_mem_nil, or_false] at hf
  simp only [menuS, List.mem_cons, List.not_mem_nil, or_false] at hg
  rcases hg with rfl | rfl | rfl | rfl | rfl | rfl | rfl | rfl | rfl | rfl | rfl | rfl | rfl | rfl | rfl | rfl | rfl | rfl | rfl | rfl | rfl | rfl <;> first | exact ⟨true, rfl, fun _ => rfl⟩ | (rcases hf with rfl | rfl | rfl | rfl | rfl | rfl | rfl <;> first | exact ⟨true, rfl, fun _ => rfl⟩ | exact ⟨false, rfl, fun h => by cases h⟩ | exact ⟨true, by with_unfolding_all rfl, fun _ => rfl⟩ | exact ⟨false, by with_unfolding_all rfl, fun h => by cases h⟩)
end DL

namespace DL
open PySem PySem.Spec PyProof.Rows L2
variable {dp : Fn} {Sp : Addr → Nat → Sto → Prop}
def mk (f : Str) (gs : List Str) : Str := f ++ ";" ++ Txt.join " " gs
theorem strsOf_map : ∀ l : List Str, strsOf (l.map .str) = some l
  | [] => rfl
  | x :: l => by
    show (strsOf (l.map .str)).map (x :: ·) = _
    rw [strsOf_map l]
    rfl
theorem joinS_le (y : Str) : ∀ ts : List Str, (Str.join y ts).length ≤ (ts.map (·.length)).sum + ts.length * y.length
  | [] => by
    show (0 : Nat) ≤ _
    omega
  | [x] => by
    show x.length ≤ _
    simp
  | x :: z :: r => by
    have ih := joinS_le y (z :: r)
    show (x ++ y ++ Str.join y (z :: r)).length ≤ _
    rw [app_len, app_len, List.map_cons, List.sum_cons, List.length_cons, Nat.add_mul]
    omega
theorem sum_le {l : List Str} {k : Nat} (h : ∀ x ∈ l, x.length ≤ k) : (l.map (·.length)).sum ≤ l.length * k := by
  induction l with
  | nil => exact Nat.zero_le _
  | cons x l ih =>
    have h1 := h x List.mem_cons_self
    have h2 := ih fun y hy => h y (List.mem_cons_of_mem _ hy)
    rw [List.map_cons, List.sum_cons, List.length_cons, Nat.add_mul]
    omega
theorem signs_len {g : Str} (h : g ∈ signs) : g.length ≤ 8 := by
  have z : ∀ g ∈ signs, g.length ≤ 8 := by decide +kernel
  exact z g h
theorem firsts_len {g : Str} (h : g ∈ firsts) : g.length ≤ 15 := by
  have z : ∀ g ∈ firsts, g.length ≤ 15 := by decide +kernel
  exact z g h
theorem firsts_of7 {f : Str} (h : f ∈ firsts7) : f ∈ firsts := by
  have z : ∀ f ∈ firsts7, f ∈ firsts := by decide +kernel
  exact z f h
def I5 (Sp : Addr → Nat → Sto → Prop) (p : Addr) (n : Nat) (f : Str) (r : List Dt) (env : Env) (s : Sto) : Prop := ∃ (gs : List Str) (x4 x5 : Option Dt), env = [some (.ref p), some (.lst (menuS.map .str)), some (.str f), some (.lst (gs.map .str)), x4, x5, none] ∧ (∀ g ∈ gs, g ∈ menuS ∧ fitG f g = true) ∧ gs.length + r.length ≤ 6 ∧ Sp p (n + (6 - r.length)) s
theorem drawn_step (D : Dip dp Sp) {p : Addr} {n : Nat} {f : Str} (hf : f ∈ firsts7) (hn : n < 900000) (d : Dt) (r : List Dt) (env : Env) (s : Sto) (h : I5 Sp p n f (d :: r) env s) :
    ∃ e1 e2 s2, tgN 4 env d = some e1 ∧ (seqS (setS 5 (callF (V_law_pick_k01 dp) (aCons (fVar 0) (aCons (fVar 1) aNil)))) (ifS condT (appS 3 (fVar 5)) skipS)) e1 s = some (.nx e2, s2) ∧ I5 Sp p n f r e2 s2 := by
  obtain ⟨gs, x4, x5, rfl, h1, h2, h3⟩ := h
  rw [List.length_cons] at h2 h3
  obtain ⟨g', s', e, hg0, h4⟩ := pick_sp D (ds := menuS.map .str) h3 (by omega) (by decide) (by decide)
  obtain ⟨g, hg, rfl⟩ := List.mem_map.mp hg0
  have row : ∀ B, seqS (setS 5 (callF (V_law_pick_k01 dp) (aCons (fVar 0) (aCons (fVar 1) aNil)))) B [some (.ref p), some (.lst (menuS.map .str)), some (.str f), some (.lst (gs.map .str)), some d, x5, none] s = B [some (.ref p), some (.lst (menuS.map .str)), some (.str f), some (.lst (gs.map .str)), some d, some (.str g), none] s' := fun B =>
    seq_nx (set_ev (call_ev (aCons_ev (v0 rfl) (aCons_ev (v0 rfl) a0)) e))
  obtain ⟨b, hb, hfit⟩ := cond_row f g hf hg p (.lst (menuS.map .str)) (.lst (gs.map .str)) (some d) s'
  have h5 : Sp p (n + (6 - r.length)) s' := D.mono h4 (by omega)
  cases b with
  | true =>
    refine ⟨_, [some (.ref p), some (.lst (menuS.map .str)), some (.str f), some (.lst ((gs ++ [g]).map .str)), some d, some (.str g), none], s', rfl, (row _).trans ((if_t hb).trans ?_), gs ++ [g], some d, some (.str g), rfl, fun a ha => ?_, by rw [List.length_append]; show gs.length + 1 + r.length ≤ 6; omega, h5⟩
    · unfold appS
      rw [v0 (d := .str g) rfl]
      show (if (gs.map Dt.str).length < sizeLine then _ else none) = _
      rw [if_pos (small' (by rw [List.length_map]; omega)), List.map_append]
      rfl
    · rcases List.mem_append.mp ha with z | z
      · exact h1 a z
      · rw [List.mem_singleton.mp z]; exact ⟨hg, hfit rfl⟩
  | false =>
    exact ⟨_, _, s', rfl, (row _).trans ((if_f hb).trans rfl), gs, some d, some (.str g), rfl, h1, by omega, h5⟩
theorem drawn_sp (D : Dip dp Sp) {p : Addr} {n : Nat} {s : Sto} (h : Sp p n s) (hn : n < 800000) : ∃ f gs s', (V_law_drawn_k16 dp) [.ref p, .lst (menuS.map .str)] s = some (.str (mk f gs), s') ∧ f ∈ firsts7 ∧ (∀ g ∈ gs, g ∈ menuS ∧ fitG f g = true) ∧ gs.length ≤ 6 ∧ Sp p (n + 9) s' := by
  obtain ⟨f', s1, e1, hf0, h1⟩ := pick_sp D (ds := firsts7.map .str) h (by omega) (by decide) (by decide)
  obtain ⟨f, hf, rfl⟩ := List.mem_map.mp hf0
  obtain ⟨m', s2, e2, hm0, h2⟩ := pick_sp D (ds := [3, 4, 6].map Dt.int) h1 (by omega) (by decide) (by decide)
  obtain ⟨m, hm, rfl⟩ := List.mem_map.mp hm0
  have hm6 : 0 < m ∧ m ≤ 6 := by
    simp only [List.mem_cons, List.not_mem_nil, or_false] at hm
    rcases hm with rfl | rfl | rfl <;> decide
  obtain ⟨r, s3, e3, r1, r2, h3⟩ := D.draw (m := m) h2 (by omega) hm6.1 (by omega)
  let ds : List Dt := (List.range (1 + r).toNat).map fun i => .int (0 + (i : Nat))
  have hdl : ds.length ≤ 6 := by
    show ((List.range (1 + r).toNat).map _).length ≤ 6
    rw [List.length_map, List.length_range]; omega
  obtain ⟨env', s4, hl, gs, x4, x5, rfl, g1, g2, g3⟩ := loop_ind (st := tgN 4) (F := seqS (setS 5 (callF (V_law_pick_k01 dp) (aCons (fVar 0) (aCons (fVar 1) aNil)))) (ifS condT (appS 3 (fVar 5)) skipS)) (I5 Sp p (n + 3) f) (fun d r env s h => drawn_step D hf (by omega) d r env s h) ds
    [some (.ref p), some (.lst (menuS.map .str)), some (.str f), some (.lst (([] : List Str).map .str)), none, none, none] s3 ⟨[], none, none, rfl, fun g hg => absurd hg List.not_mem_nil, by show 0 + ds.length ≤ 6; omega, D.mono h3 (by omega)⟩
  rw [List.length_nil] at g2 g3
  refine ⟨f, gs, s4, fn_rt ?_, hf, g1, by omega, D.mono g3 (by omega)⟩
  have row1 : ∀ B, seqS (setS 2 (callF (V_law_pick_k01 dp) (aCons (fVar 0) (aCons (bindA (aCons (fC (.str "a b>a c")) (aCons (fC (.str "a b")) (aCons (fC (.str "a b>a")) (aCons (fC (.str "a b>a c>ab")) (aCons (fC (.str "a b c")) (aCons (fC (.str "a")) (aCons (fC (.str "a b>a c>b d>a")) aNil))))))) lstG) aNil)))) (seqS (setNS 3 (bindA aNil lstG)) B) [some (.ref p), some (.lst (menuS.map .str)), none, none, none, none, none] s
      = B [some (.ref p), some (.lst (menuS.map .str)), some (.str f), some (.lst (([] : List Str).map .str)), none, none, none] s1 := fun B =>
    (seq_nx (set_ev (call_ev (aCons_ev (v0 rfl) (aCons_ev (x := .lst (firsts7.map .str)) rfl a0)) e1))).trans (seq_nx (setN_ev (show 3 < 7 by decide) (d := .lst []) rfl))
  have row2 : (rngF1 (bind2 (fC (.int 1)) (callF dp (aCons (fVar 0) (aCons (callF (V_law_pick_k01 dp) (aCons (fVar 0) (aCons (bindA (aCons (fC (.int 3)) (aCons (fC (.int 4)) (aCons (fC (.int 6)) aNil))) lstG) aNil))) aNil))) addAll)) [some (.ref p), some (.lst (menuS.map .str)), some (.str f), some (.lst (([] : List Str).map .str)), none, none, none] s1 = some (ds, s3) := by
    unfold rngF1
    rw [bind2_ev (z := .int (1 + r)) c0 (call_ev (aCons_ev (v0 rfl) (aCons_ev (call_ev (aCons_ev (v0 rfl) (aCons_ev (x := .lst ([3, 4, 6].map Dt.int)) rfl a0)) e2) a0)) e3) rfl]
    dsimp only
    rw [if_pos (by omega)]
  refine (row1 _).trans ((seq_nx (e' := [some (.ref p), some (.lst (menuS.map .str)), some (.str f), some (.lst (gs.map .str)), x4, x5, none]) (s' := s4) ?_).trans ?_)
  · unfold forF
    rw [row2]
    exact hl
  · have ej : bind2 (toStrOnly (fC (.str " "))) (fVar 3) joinG [some (.ref p), some (.lst (menuS.map .str)), some (.str f), some (.lst (gs.map .str)), x4, x5, none] s4 = some (.str (Txt.join " " gs), s4) := by
      refine bind2_ev (x := .str " ") rfl (v0 rfl) ?_
      unfold joinG
      dsimp only
      rw [strsOf_map]
      dsimp only
      rw [if_pos]
      have h1 := sum_le (l := gs) (k := 8) fun g hg => signs_len (List.mem_append_left _ (g1 g hg).1)
      have h2 : (" " : Str).length = 1 := rfl
      rw [h2]; omega
    have hjl : (Txt.join " " gs).length ≤ 60 := by
      rw [TL.join_eq]
      have h0 := joinS_le " " gs
      have h1 := sum_le (l := gs) (k := 8) fun g hg => signs_len (List.mem_append_left _ (g1 g hg).1)
      have h2 : (" " : Str).length = 1 := rfl
      rw [h2] at h0; omega
    have hfl : f.length ≤ 15 := firsts_len (firsts_of7 hf)
    have h2 : (";" : Str).length = 1 := rfl
    refine ret_ev (bind2_ev (x := .str (f ++ ";")) (bind2_ev (x := .str f) (v0 rfl) c0 (if_pos (small (by rw [h2]; omega)))) ej (if_pos (small ?_)))
    rw [app_len, h2]; omega
end DL

namespace DL
open PySem PySem.Spec PyProof.Rows L2
def words (l : List Nat) : List (List Nat) := if l = [] then [] else l.foldr (fun c acc => if c = 32 then [] :: acc else match acc with | [] => [[c]] | w :: r => (c :: w) :: r) [[]]
def insN (x : Nat) : List Nat → List Nat
  | [] => [x]
  | y :: r => if x ≤ y then x :: y :: r else y :: insN x r
def sortN (l : List Nat) : List Nat := l.foldr insN []
def insE (x : Nat × List Nat) : List (Nat × List Nat) → List (Nat × List Nat)
  | [] => [x]
  | y :: r => if x.1 ≤ y.1 then x :: y :: r else y :: insE x r
def entN (t f : Str) : List (Nat × List Nat) := ((words f.cps.toList).map fun w => (letT t (w.getD 0 0), sortN ((w.drop 2).map (letT t)))).foldr insE []
def entD (t f : Str) : List Dt := (entN t f).map fun e => .tup [wd [e.1], .tup (e.2.map fun c => wd [c])]
def strW (l : List Nat) : Str := ⟨l.toArray⟩
theorem split_first (f : Str) (h : f ∈ firsts) : f ≠ "" → Txt.split f " " = (words f.cps.toList).map strW := by
  have key : ∀ f ∈ firsts, f ≠ "" → f = Txt.join " " ((words f.cps.toList).map strW) ∧ (words f.cps.toList).map strW ≠ [] ∧ ∀ p ∈ (words f.cps.toList).map strW, 32 ∉ TL.tl p := by decide +kernel
  intro h0
  obtain ⟨h1, h2, h3⟩ := key f h h0
  have z := TL.split_join (y := " ") (s := 32) (S := []) (by decide +kernel) (by decide +kernel) h2 h3
  rw [← h1] at z
  exact z
end DL

namespace DL
open PySem PySem.Spec PyProof.Rows L2
def bodyR : Fs := (appS 4 (bindA (aCons (bind2 (fVar 1) (bind2 (fVar 5) (fC (.int 0)) ixA) ixA) (aCons (bindA (aCons (bindA (aCons (lcF (seqF (bindS (fVar 5) (oSome (fC (.int 2))) oNone sliceG)) (tgN 6) yesT (bind2 (fVar 1) (fVar 6) ixA) [6]) aNil) sortedG_) aNil) toTupG) aNil)) tupG))
theorem body_rows (t f : Str) (x J : Str) (s : Sto) (ht : t ∈ tables) (hf : f ∈ firsts) : ∃ env', loopF (tgN 5) bodyR (((words f.cps.toList).map strW).map Dt.str) [some (.str x), some (nmap t), some (.str f), some (.str J), some (.lst []), none, none, none] s = some (.nx env', s) ∧ env'.length = 8 ∧ env'[1]? = some (some (nmap t)) ∧ env'[3]? = some (some (.str J)) ∧ (bindA (aCons (bindA (aCons (fVar 4) aNil) sortedG_) aNil) toTupG) env' s = some (.tup (entD t f), s) := by
  simp only [tables, List.mem_cons, List.not_mem_nil, or_false] at ht
  simp only [firsts, List.mem_cons, List.not_mem_nil, or_false] at hf
  rcases ht with rfl | rfl | rfl | rfl | rfl <;> rcases hf with rfl | rfl | rfl | rfl | rfl | rfl | rfl | rfl | rfl | rfl <;> exact ⟨_, rfl, rfl, rfl, rfl, by with_unfolding_all rfl⟩
theorem iter_rows (f : Str) (x M J : Dt) (s : Sto) (hf : f ∈ firsts) : (seqF (ifV (asB (bind2 (fVar 2) (fC (.str "")) neG)) (bind2 (toStrOnly (fVar 2)) (fC (.str " ")) splitG) (bindA aNil lstG))) [some x, some M, some (.str f), some J, some (.lst []), none, none, none] s = some (((words f.cps.toList).map strW).map Dt.str, s) := by
  have hl := firsts_len hf
  have h0 := split_first f hf
  unfold seqF
  by_cases e : f = ""
  · subst e
    rw [ifV_f (s' := s) (asB_ev (bind2_ev (v0 rfl) c0 (z := .bl false) (by rfl)))]
    rfl
  · have hne : neG s (.str f) (.str "") = some (.bl true) := by
      show some (Dt.bl (!decide (f = ""))) = _
      rw [decide_eq_false e]
      rfl
    rw [ifV_t (s' := s) (asB_ev (bind2_ev (v0 rfl) c0 hne))]
    have hs : splitG s (.str f) (.str " ") = some (.lst ((Txt.split f " ").map .str)) := if_pos ⟨by decide +kernel, small (by omega)⟩
    rw [bind2_ev (x := .str f) (by rfl) c0 hs, h0 e]
    rfl
end DL

namespace DL
open PySem PySem.Spec PyProof.Rows L2
theorem joinL_mem {y : List Nat} {c : Nat} : ∀ {ps : List (List Nat)}, c ∈ TL.joinL y ps → c ∈ y ∨ ∃ q ∈ ps, c ∈ q
  | [], h => absurd h List.not_mem_nil
  | [x], h => .inr ⟨x, List.mem_cons_self, h⟩
  | x :: z :: r, h => by
    have h' : c ∈ x ++ (y ++ TL.joinL y (z :: r)) := h
    rcases List.mem_append.mp h' with h1 | h1
    · exact .inr ⟨x, List.mem_cons_self, h1⟩
    · rcases List.mem_append.mp h1 with h2 | h2
      · exact .inl h2
      · rcases joinL_mem h2 with h3 | ⟨q, hq, h3⟩
        · exact .inl h3
        · exact .inr ⟨q, List.mem_cons_of_mem _ hq, h3⟩
theorem sign_ch {g : Str} (h : g ∈ signs) : 32 ∉ TL.tl g ∧ 59 ∉ TL.tl g ∧ g ≠ "" := by
  have z : ∀ g ∈ signs, 32 ∉ TL.tl g ∧ 59 ∉ TL.tl g ∧ g ≠ "" := by decide +kernel
  exact z g h
theorem first_ch {g : Str} (h : g ∈ firsts) : 59 ∉ TL.tl g := by
  have z : ∀ g ∈ firsts, 59 ∉ TL.tl g := by decide +kernel
  exact z g h
theorem mk_join (f : Str) (gs : List Str) : mk f gs = Txt.join ";" [f, Txt.join " " gs] := by
  rw [TL.join_eq]
  rfl
theorem split_mk {f : Str} {gs : List Str} (hf : f ∈ firsts) (hg : ∀ g ∈ gs, g ∈ signs) : Txt.split (mk f gs) ";" = [f, Txt.join " " gs] := by
  rw [mk_join]
  refine TL.split_join (y := ";") (s := 59) (S := []) (by decide +kernel) (by decide +kernel) (by simp) fun q hq => ?_
  simp only [List.mem_cons, List.not_mem_nil, or_false] at hq
  rcases hq with rfl | rfl
  · exact first_ch hf
  · rw [TL.join_eq, TL.tl_join]
    intro hc
    rcases joinL_mem hc with h | ⟨q, hq, h⟩
    · exact absurd h (by decide +kernel)
    · obtain ⟨g, hg', rfl⟩ := List.mem_map.mp hq
      exact (sign_ch (hg g hg')).2.1 h
theorem split_signs {gs : List Str} (h0 : gs ≠ []) (hg : ∀ g ∈ gs, g ∈ signs) : Txt.split (Txt.join " " gs) " " = gs :=
  TL.split_join (y := " ") (s := 32) (S := []) (by decide +kernel) (by decide +kernel) h0 fun g h => (sign_ch (hg g h)).1
theorem join_ne {gs : List Str} (h0 : gs ≠ []) (hg : ∀ g ∈ gs, g ∈ signs) : Txt.join " " gs ≠ "" := fun e => by
  have z := split_signs h0 hg
  rw [e] at z
  have z2 : Txt.split "" " " = ([""] : List Str) := by decide +kernel
  rw [z2] at z
  subst z
  exact (sign_ch (hg "" List.mem_cons_self)).2.2 rfl
theorem joinJ_le {gs : List Str} (hg : ∀ g ∈ gs, g ∈ signs) (hl : gs.length ≤ 6) : (Txt.join " " gs).length ≤ 60 := by
  rw [TL.join_eq]
  have h0 := joinS_le " " gs
  have h1 := sum_le (l := gs) (k := 8) fun g h => signs_len (hg g h)
  have h2 : (" " : Str).length = 1 := rfl
  rw [h2] at h0; omega
def planD (t f : Str) (gs : List Str) : Dt := .tup [.tup (entD t f), .tup (gs.map fun g => (ruOf t g).d)]
theorem signs_row {t : Str} {gs : List Str} (ht : t ∈ tables) (hg : ∀ g ∈ gs, g ∈ signs) (hl : gs.length ≤ 6) (env : Env) (s : Sto) (h8 : env.length = 8) (h1 : env[1]? = some (some (nmap t))) (h3 : env[3]? = some (some (.str (Txt.join " " gs)))) :
    (bindA (aCons (ifV (asB (bind2 (fVar 3) (fC (.str "")) neG)) (lcF (seqF (bind2 (toStrOnly (fVar 3)) (fC (.str " ")) splitG)) (tgN 7) yesT (callF V_law_rule_k16 (aCons (fVar 7) (aCons (fVar 1) aNil))) [7]) (bindA aNil lstG)) aNil) toTupG) env s = some (.tup (gs.map fun g => (ruOf t g).d), s) := by
  by_cases h0 : gs = []
  · subst h0
    refine bindA_ev (xs := [.lst []]) (aCons_ev ((ifV_f (s' := s) (asB_ev (bind2_ev (v0 h3) c0 (z := .bl false) (by with_unfolding_all rfl)))).trans ?_) a0) rfl
    rfl
  · have hn : neG s (.str (Txt.join " " gs)) (.str "") = some (.bl true) := by
      show some (Dt.bl (!decide (Txt.join " " gs = ""))) = _
      rw [decide_eq_false (join_ne h0 hg)]
      rfl
    have hsp : splitG s (.str (Txt.join " " gs)) (.str " ") = some (.lst (gs.map .str)) := by
      have z : splitG s (.str (Txt.join " " gs)) (.str " ") = some (.lst ((Txt.split (Txt.join " " gs) " ").map .str)) := if_pos ⟨by decide +kernel, small (by have := joinJ_le hg hl; omega)⟩
      rw [z, split_signs h0 hg]
    have hst : toStrOnly (fVar 3) env s = some (.str (Txt.join " " gs), s) := by
      unfold toStrOnly
      rw [v0 h3]
    have hit : seqF (bind2 (toStrOnly (fVar 3)) (fC (.str " ")) splitG) env s = some (gs.map .str, s) := by
      unfold seqF
      rw [bind2_ev hst c0 hsp]
      rfl
    refine bindA_ev (aCons_ev ((ifV_t (s' := s) (asB_ev (bind2_ev (v0 h3) c0 hn))).trans (lc_map (g := fun d => match d with | .str g => (ruOf t g).d | _ => .non) hit (small (by rw [List.length_map]; omega)) fun d hd => ?_)) a0) ?_
    · obtain ⟨g, hg', rfl⟩ := List.mem_map.mp hd
      refine call_ev (aCons_ev (v0 (d := .str g) ?_) (aCons_ev (v0 (d := nmap t) ?_) a0)) (rule_row t g s ht (hg g hg'))
      · exact List.getElem?_set_self (by show 7 < ((env.set 7 none)).length; rw [List.length_set]; omega)
      · rw [List.getElem?_set_ne (by decide)]
        show (env.set 7 none)[1]? = _
        rw [List.getElem?_set_ne (by decide)]
        exact h1
    · rw [List.map_map]
      rfl
theorem read_ok {t f : Str} {gs : List Str} (ht : t ∈ tables) (hf : f ∈ firsts) (hg : ∀ g ∈ gs, g ∈ signs) (hl : gs.length ≤ 6) (s : Sto) : V_law_read_k16 [.str (mk f gs), nmap t] s = some (planD t f gs, s) := by
  obtain ⟨env', hb, h8, e1, e3, e4⟩ := body_rows t f (mk f gs) (Txt.join " " gs) s ht hf
  refine fn_rt ?_
  have hml : (mk f gs).length ≤ 80 := by
    unfold mk
    rw [app_len, app_len]
    have h1 := firsts_len hf
    have h2 := joinJ_le hg hl
    have h3 : (";" : Str).length = 1 := rfl
    omega
  have hsp : splitG s (.str (mk f gs)) (.str ";") = some (.lst [.str f, .str (Txt.join " " gs)]) := by
    have z : splitG s (.str (mk f gs)) (.str ";") = some (.lst ((Txt.split (mk f gs) ";").map .str)) := if_pos ⟨by decide +kernel, small (by omega)⟩
    rw [z, split_mk hf hg]
    rfl
  have r1 : ∀ B, seqS (unpS 2 3 (bind2 (toStrOnly (fVar 0)) (fC (.str ";")) splitG)) (seqS (setNS 4 (bindA aNil lstG)) B) [some (.str (mk f gs)), some (nmap t), none, none, none, none, none, none] s = B [some (.str (mk f gs)), some (nmap t), some (.str f), some (.str (Txt.join " " gs)), some (.lst []), none, none, none] s := fun B => by
    refine (seq_nx (e' := [some (.str (mk f gs)), some (nmap t), some (.str f), some (.str (Txt.join " " gs)), none, none, none, none]) (s' := s) ?_).trans (seq_nx (setN_ev (show 4 < 8 by decide) (d := .lst []) rfl))
    unfold unpS
    rw [bind2_ev (x := .str (mk f gs)) rfl c0 hsp]
    rfl
  refine (r1 _).trans ((seq_nx (e' := env') (s' := s) ?_).trans ?_)
  · unfold forF
    rw [iter_rows f _ _ _ s hf]
    exact hb
  · exact ret_ev (bindA_ev (aCons_ev e4 (aCons_ev (signs_row ht hg hl env' s h8 e1 e3) a0)) (if_pos (small (by show 2 ≤ 16777215; decide))))
end DL

namespace DL
open PySem PySem.Spec PyProof.Rows L2
variable {dp : Fn} {Sp : Addr → Nat → Sto → Prop}
def sceneP : List (Str × List Str) := [("a b>a c", ["d1l", "ll"]), ("a b>a c", ["d1r", "ll"]), ("a b c", ["hl", "d1l"]), ("a b>a c", ["hl", "pb:a.l"]), ("a b c", ["d1l"]), ("a b", ["e", "d1l"]), ("a b", ["d2l", "d1r"]), ("a b c", ["pa:.l", "pb:.l", "pc:.r"]), ("a b", ["pa:bb.l", "d1l"]), ("a b>a", ["lr", "d1r", "hl"]), ("a b>a c>ab", ["lr", "d1l"]), ("a b>a c", ["pc:.l", "lr", "d2l"]), ("a b c d", ["hl", "hr", "d1l"]), ("a b>a", ["pb:aa.l", "ll", "e"]), ("a", ["d3r", "hl", "d1l"]), ("", []), ("a b>a c", []), ("a b", ["pa:b.l", "pa:.r"]), ("a b>a c>b", ["hr", "lr", "d1r", "e"])]
def sceneT : List Str := ["a b>a c;d1l ll", "a b>a c;d1r ll", "a b c;hl d1l", "a b>a c;hl pb:a.l", "a b c;d1l", "a b;e d1l", "a b;d2l d1r", "a b c;pa:.l pb:.l pc:.r", "a b;pa:bb.l d1l", "a b>a;lr d1r hl", "a b>a c>ab;lr d1l", "a b>a c;pc:.l lr d2l", "a b c d;hl hr d1l", "a b>a;pb:aa.l ll e", "a;d3r hl d1l", ";", "a b>a c;", "a b;pa:b.l pa:.r", "a b>a c>b;hr lr d1r e"]
theorem scenes_mk : sceneT = sceneP.map fun p => mk p.1 p.2 := by decide +kernel
theorem scenes_in : ∀ p ∈ sceneP, p.1 ∈ firsts ∧ (∀ g ∈ p.2, g ∈ signs) ∧ p.2.length ≤ 6 ∧ (∀ g ∈ p.2, fitG p.1 g = true) := by decide +kernel
theorem scenes_ev (s : Sto) : V_law_scenes_k16 [] s = some (.lst (sceneT.map .str), s) := by rfl
theorem menu_ev (s : Sto) : V_law_menu_k16 [] s = some (.lst (menuS.map .str), s) := by rfl
theorem book_sp (D : Dip dp Sp) {p : Addr} {n : Nat} {s : Sto} {t : Str} (ht : t ∈ tables) (h : Sp p n s) (hn : n < 700000) : ∃ f gs s', (V_law_book_k16 dp) [.ref p, .lst (sceneT.map .str), .lst (menuS.map .str), nmap t] s = some (planD t f gs, s') ∧ f ∈ firsts ∧ (∀ g ∈ gs, g ∈ signs) ∧ gs.length ≤ 6 ∧ (∀ g ∈ gs, fitG f g = true) ∧ Sp p (n + 10) s' := by
  obtain ⟨r, s1, e1, r1, r2, h1⟩ := D.draw (m := 2) h (by omega) (by decide) (by decide)
  have hc : asB (bind2 (callF dp (aCons (fVar 0) (aCons (fC (.int 2)) aNil))) (fC (.int 0)) eqG) [some (.ref p), some (.lst (sceneT.map .str)), some (.lst (menuS.map .str)), some (nmap t)] s = some (decide (r = 0), s1) :=
    asB_ev (bind2_ev (call_ev (aCons_ev (v0 rfl) (aCons_ev c0 a0)) e1) c0 rfl)
  by_cases hr : r = 0
  · rw [decide_eq_true hr] at hc
    obtain ⟨f, gs, s2, e2, g1, g2, g3, h2⟩ := drawn_sp D h1 (by omega)
    have g2' : ∀ g ∈ gs, g ∈ signs := fun g hg => List.mem_append_left _ (g2 g hg).1
    exact ⟨f, gs, s2, fn_rt (ret_ev (call_ev (aCons_ev ((ifV_t hc).trans (call_ev (aCons_ev (v0 rfl) (aCons_ev (v0 rfl) a0)) e2)) (aCons_ev (v0 rfl) a0)) (read_ok ht (firsts_of7 g1) g2' g3 s2))), firsts_of7 g1, g2', g3, fun g hg => (g2 g hg).2, D.mono h2 (by omega)⟩
  · rw [decide_eq_false hr] at hc
    obtain ⟨d, s2, e2, g0, h2⟩ := pick_sp D (ds := sceneT.map .str) h1 (by omega) (by decide) (by decide)
    rw [scenes_mk, List.map_map] at g0
    obtain ⟨q, hq, rfl⟩ := List.mem_map.mp g0
    obtain ⟨g1, g2, g3, g4⟩ := scenes_in q hq
    exact ⟨q.1, q.2, s2, fn_rt (ret_ev (call_ev (aCons_ev ((ifV_f hc).trans (call_ev (aCons_ev (v0 rfl) (aCons_ev (v0 rfl) a0)) e2)) (aCons_ev (v0 rfl) a0)) (read_ok ht g1 g2 g3 s2))), g1, g2, g3, g4, D.mono h2 (by omega)⟩
end DL

namespace DL
open PySem PySem.Spec PyProof.Rows L2
variable {dp : Fn} {Sp : Addr → Nat → Sto → Prop}
theorem join0 : ∀ w : List Nat, TL.joinL [] (w.map fun c => [c]) = w
  | [] => rfl
  | [c] => rfl
  | c :: d :: r => by
    show [c] ++ ([] ++ TL.joinL [] ((d :: r).map fun c => [c])) = _
    rw [join0 (d :: r)]
    rfl
theorem join_w (w : List Nat) : Txt.join "" (w.map fun c => strW [c]) = strW w := by
  have h : TL.tl (Txt.join "" (w.map fun c => strW [c])) = w := by
    rw [TL.join_eq, TL.tl_join, List.map_map]
    exact join0 w
  have e : ∀ x : Str, x = strW (TL.tl x) := fun x => by
    obtain ⟨⟨l⟩⟩ := x
    rfl
  rw [e (Txt.join _ _), h]
end DL

namespace DL
open PySem PySem.Spec PyProof.Rows L2
theorem strW_tl (x : Str) : x = strW (TL.tl x) := by
  obtain ⟨⟨l⟩⟩ := x
  rfl
theorem strW_len (w : List Nat) : (strW w).length = w.length := rfl
theorem strW_cat (a b : List Nat) : strW a ++ strW b = strW (a ++ b) := by
  rw [strW_tl (strW a ++ strW b), TL.tl_append]
  rfl
def pos (n : Nat) (l : Bool) : List Nat := if l then List.range n else (List.range n).reverse
end DL

namespace DL
open PySem PySem.Spec PyProof.Rows L2
abbrev Ents := List (Nat × List Nat)
def entL (E : Ents) : List Dt := E.map fun e => .tup [wd [e.1], .tup (e.2.map fun c => wd [c])]
def lesN (E : Ents) (c : Nat) : List Nat := ((E.find? fun e => decide (e.1 = c)).map (·.2)).getD []
def okR : Ru → Bool
  | .drop n _ => decide (n ≤ 10)
  | .put _ v _ => decide (v.length ≤ 10)
  | _ => true
end DL

namespace DL
open PySem PySem.Spec PyProof.Rows L2
def lesD (l : List Nat) : Dt := .tup (l.map fun c => wd [c])
def prD (e : Nat × List Nat) : Key × Dt := (.inr (strW [e.1]), lesD e.2)
theorem pairs_ent : ∀ E : Ents, pairsOfD (entL E) = some (E.map prD)
  | [] => rfl
  | e :: E => by
    show (match keyOf (wd [e.1]), pairsOfD (entL E) with | some key, some ps => some ((key, lesD e.2) :: ps) | _, _ => none) = _
    rw [pairs_ent E]
    rfl
theorem strW_inj {a b : List Nat} (h : strW a = strW b) : a = b := congrArg TL.tl h
theorem mergeD_new : ∀ {ps acc : List (Key × Dt)}, ((acc ++ ps).map (·.1)).Nodup → mergeD acc ps = acc ++ ps
  | [], acc, _ => by rw [List.append_nil]; rfl
  | p :: ps, acc, h => by
    have hn : ∀ q ∈ acc, q.1 ≠ p.1 := fun q hq e => by
      rw [List.map_append, List.nodup_append] at h
      exact h.2.2 q.1 (List.mem_map.mpr ⟨q, hq, rfl⟩) p.1 (List.mem_map.mpr ⟨p, List.mem_cons_self, rfl⟩) e
    have e : putD acc p.1 p.2 = acc ++ [p] := by
      unfold putD
      rw [if_neg]
      intro z
      rw [List.any_eq_true] at z
      obtain ⟨q, hq, z⟩ := z
      exact hn q hq (of_decide_eq_true z)
    show mergeD (putD acc p.1 p.2) ps = _
    rw [e, mergeD_new (by rw [List.append_assoc]; exact h), List.append_assoc]
    rfl
theorem keys_nodup {E : Ents} (h : (E.map (·.1)).Nodup) : ((E.map prD).map (·.1)).Nodup := by
  rw [List.map_map]
  induction E with
  | nil => exact .nil
  | cons e E ih =>
    rw [List.map_cons, List.nodup_cons] at h ⊢
    refine ⟨fun z => h.1 ?_, ih h.2⟩
    obtain ⟨q, hq, z⟩ := List.mem_map.mp z
    have z' := Sum.inr.inj z
    have z'' := strW_inj z'
    rw [← (List.cons.inj z'').1]
    exact List.mem_map.mpr ⟨q, hq, rfl⟩
theorem val_ent {c : Nat} : ∀ {E : Ents}, c ∈ E.map (·.1) → valD (E.map prD) (.inr (strW [c])) = some (lesD (lesN E c))
  | [], h => absurd h List.not_mem_nil
  | e :: E, h => by
    unfold valD lesN
    rw [List.map_cons]
    by_cases he : e.1 = c
    · rw [List.find?_cons_of_pos (by subst he; exact decide_eq_true rfl), List.find?_cons_of_pos (by exact decide_eq_true he)]
      rfl
    · have hk : ¬ decide ((prD e).1 = Sum.inr (strW [c])) = true := fun z => by
        have z' := strW_inj (Sum.inr.inj (of_decide_eq_true z))
        exact he (List.cons.inj z').1
      have q1 : List.find? (fun kv : Key × Dt => decide (kv.1 = .inr (strW [c]))) (prD e :: E.map prD) = List.find? (fun kv : Key × Dt => decide (kv.1 = .inr (strW [c]))) (E.map prD) := List.find?_cons_of_neg hk
      have q2 : List.find? (fun e : Nat × List Nat => decide (e.1 = c)) (e :: E) = List.find? (fun e : Nat × List Nat => decide (e.1 = c)) E := List.find?_cons_of_neg (fun z => he (of_decide_eq_true z))
      rw [q1, q2]
      rw [List.map_cons] at h
      rcases List.mem_cons.mp h with rfl | h
      · exact absurd rfl he
      · exact val_ent h
theorem toDct_ent (s : Sto) {E : Ents} (h : (E.map (·.1)).Nodup) : toDctG s [.tup (entL E)] = some (.dct (E.map prD)) ∧ toDctG s [.lst (entL E)] = some (.dct (E.map prD)) := by
  have z : (pairsOfD (entL E)).map (fun ps => Dt.dct (mergeD [] ps)) = some (.dct (E.map prD)) := by
    rw [pairs_ent]
    show some (Dt.dct (mergeD [] (E.map prD))) = _
    rw [mergeD_new (by rw [List.nil_append]; exact keys_nodup h), List.nil_append]
  exact ⟨z, z⟩
end DL

namespace DL
open PySem PySem.Spec PyProof.Rows L2
structure OkE (E : Ents) : Prop where
  nd : (E.map (·.1)).Nodup
  few : ∀ e ∈ E, e.2.length ≤ 10
end DL

namespace DL
open PySem PySem.Spec PyProof.Rows L2
theorem app_ev {i : Nat} {f : Fe} {env : Env} {s s' : Sto} {d : Dt} {ds : List Dt} (h : f env s = some (d, s')) (hi : env[i]? = some (some (.lst ds))) (hl : ds.length < sizeLine) : appS i f env s = some (.nx (env.set i (some (.lst (ds ++ [d])))), s') := by
  unfold appS lstAt
  rw [h, hi]
  dsimp only
  rw [if_pos hl]
theorem extT_ev {i : Nat} {f : Fe} {env : Env} {s s' : Sto} {es ds : List Dt} (h : f env s = some (.tup es, s')) (hi : env[i]? = some (some (.lst ds))) (hl : ds.length + es.length ≤ sizeLine) : extA i f env s = some (.nx (env.set i (some (.lst (ds ++ es)))), s') := by
  unfold extA lstAt
  rw [h, hi]
  dsimp only
  rw [if_pos hl]
end DL

namespace DL
open PySem PySem.Spec PyProof.Rows L2
end DL

namespace DL
open PySem PySem.Spec PyProof.Rows L2
end DL

namespace DL
open PySem PySem.Spec PyProof.Rows L2
def lowc (w : List Nat) : Prop := ∀ c ∈ w, 97 ≤ c ∧ c ≤ 122
theorem letters_ok {E : Ents} (R : Dt) (hn : E.length ≤ 100) (s : Sto) : Vletters_of [.tup [.tup (entL E), R]] s = some (.tup (E.map fun e => wd [e.1]), s) := by
  refine fn_rt (ret_ev (bindA_ev (aCons_ev (x := .lst (E.map fun e => wd [e.1])) ((lc_map (s1 := s) (ds := entL E) (g := fun d => match d with | .tup (x :: _) => x | _ => .non) ?_ (small (by unfold entL; rw [List.length_map]; omega)) fun d hd => ?_).trans ?_) a0) (z := .tup (E.map fun e => wd [e.1])) rfl))
  · unfold seqF
    rw [bind2_ev (v0 rfl) c0 (z := .tup (entL E)) rfl]
    rfl
  · obtain ⟨e, he, rfl⟩ := List.mem_map.mp hd
    rfl
  · unfold entL
    rw [List.map_map]
    rfl
end DL

namespace DL
open PySem PySem.Spec PyProof.Rows L2
end DL

namespace DL
open PySem PySem.Spec PyProof.Rows L2
def lowRb : Ru → Bool
  | .put c v _ => (c :: v).all fun c => decide (97 ≤ c ∧ c ≤ 122)
  | _ => true
theorem plan_eq (t f : Str) (gs : List Str) : planD t f gs = .tup [.tup (entL (entN t f)), .tup ((gs.map (ruOf t)).map Ru.d)] := by
  unfold planD
  rw [List.map_map]
  rfl
theorem wd_good {x : List Nat} (h : lowc x) : good (wd x) = true := by
  show (strW x).cps.all (· < 0x110000) = true
  rw [← Array.all_toList, List.all_eq_true]
  intro c hc
  have := h c hc
  exact decide_eq_true (by omega)
theorem wd_wt (x : List Nat) : wt (wd x) = 10 * x.length + 2 := rfl
end DL

namespace DL
open PySem PySem.Spec PyProof.Rows L2
section
variable {A B : Fs} {c c2 : Ft} {f g fa fb : Fe} {env e' : Env} {s s1 s2 s' : Sto} {d x y z : Dt} {i k : Nat} {o : Out} {a b : Bool}
theorem truF_ev (h : f env s = some (x, s1)) (hb : truA s1 x = some b) : truF f env s = some (b, s1) := by
  unfold truF; rw [h]; simp only [Option.bind_eq_bind, Option.bind_some]; rw [hb]; rfl
theorem notT_ev (h : c env s = some (b, s1)) : notT c env s = some (!b, s1) := by unfold notT; rw [h]; rfl
theorem andT_e (h : c env s = some (a, s1)) (h2 : a = true → c2 env s1 = some (b, s1)) : andT c c2 env s = some (a && b, s1) := by
  unfold andT; rw [h]; simp only [Option.bind_eq_bind, Option.bind_some]
  cases a with
  | true => rw [if_pos rfl, h2 rfl]; rfl
  | false => rfl
theorem orT_e (h : c env s = some (a, s1)) (h2 : a = false → c2 env s1 = some (b, s1)) : orT c c2 env s = some (a || b, s1) := by
  unfold orT; rw [h]; simp only [Option.bind_eq_bind, Option.bind_some]
  cases a with
  | true => rfl
  | false => rw [if_neg Bool.false_ne_true, h2 rfl]; rfl
theorem dropS_ev (h : f env s = some (d, s')) : dropS f env s = some (.nx env, s') := by unfold dropS; rw [h]; rfl
theorem par_ev (hi : i < env.length ∧ k < env.length) (h1 : fa env s = some (x, s1)) (h2 : fb env s1 = some (y, s2)) : par2S i k fa fb env s = some (.nx ((env.set i (some x)).set k (some y)), s2) := by
  unfold par2S; rw [if_pos hi, h1]; dsimp only; rw [h2]
theorem unpT_ev (h : f env s = some (.tup [x, y], s1)) : unpS i k f env s = some (.nx ((env.set i (some x)).set k (some y)), s1) := by
  unfold unpS; rw [h]
theorem unpL_ev (h : f env s = some (.lst [x, y], s1)) : unpS i k f env s = some (.nx ((env.set i (some x)).set k (some y)), s1) := by
  unfold unpS; rw [h]
theorem dput_e {fk fv : Fe} {kd v : Dt} {key : Key} {ks : List (Key × Dt)} (hv : fv env s = some (v, s1)) (hk : fk env s1 = some (kd, s2)) (hi : env[i]? = some (some (.dct ks))) (hkey : keyOf kd = some key) (hl : ks.length < sizeLine) : dputS i fk fv env s = some (.nx (env.set i (some (.dct (putD ks key v)))), s2) := by
  unfold dputS dctAt; rw [hv]; dsimp only; rw [hk, hi]; dsimp only; rw [hkey]; dsimp only; rw [if_pos hl]
end
section
variable {f : Fe} {env : Env} {s s1 : Sto} {l : List Dt} {w : List Nat}
theorem seq_tup (h : f env s = some (.tup l, s1)) : seqF f env s = some (l, s1) := by unfold seqF; rw [h]; rfl
theorem seq_lst (h : f env s = some (.lst l, s1)) : seqF f env s = some (l, s1) := by unfold seqF; rw [h]; rfl
theorem seq_str (h : f env s = some (wd w, s1)) : seqF f env s = some (w.map fun c => wd [c], s1) := by
  unfold seqF; rw [h]
  show some (w.toArray.toList.map fun c => Dt.str ⟨#[c]⟩, s1) = _
  rw [List.toList_toArray]; rfl
theorem rng_ev {m : Int} (h : f env s = some (.int m, s1)) (h1 : -(2 ^ 62) ≤ m) (h2 : m < 2 ^ 62) : rngF1 f env s = some ((List.range m.toNat).map fun i => Dt.int (0 + (i : Nat)), s1) := by
  unfold rngF1; rw [h]; dsimp only; rw [if_pos ⟨h1, h2⟩]
end
section
variable {α β : Type} {xs : List α} {enc : α → Dt} {fi fi1 : Fi} {tt : Ft} {te : Fe} {env : Env} {s s1 : Sto} {k k1 : Nat} {vs vs1 : List Nat} {q : α → Bool} {g : α → Dt}
theorem lcL_e {w : Env} : ∀ {xs : List α}, (∀ x, x ∈ xs → tt (w.set k (some (enc x))) s = some (q x, s)) → (∀ x, x ∈ xs → q x = true → te (w.set k (some (enc x))) s = some (g x, s)) → lcL (tgN k) tt te w (xs.map enc) s = some ((xs.filter q).map g, s)
  | [], _, _ => rfl
  | x :: xs, h1, h2 => by
    have ih := lcL_e (xs := xs) (fun x hx => h1 x (List.mem_cons_of_mem _ hx)) fun x hx => h2 x (List.mem_cons_of_mem _ hx)
    rw [List.map_cons]
    unfold lcL
    simp only [tgN]
    rw [h1 x List.mem_cons_self]
    cases hq : q x with
    | true =>
      dsimp only
      rw [h2 x List.mem_cons_self hq]
      dsimp only
      rw [ih, List.filter_cons_of_pos hq]
      rfl
    | false =>
      dsimp only
      rw [ih, List.filter_cons_of_neg (by rw [hq]; exact Bool.false_ne_true)]
theorem lc_e (hi : fi env s = some (xs.map enc, s1)) (hl : xs.length ≤ sizeLine) (h1 : ∀ x, x ∈ xs → tt ((wipeE env vs).set k (some (enc x))) s1 = some (q x, s1)) (h2 : ∀ x, x ∈ xs → q x = true → te ((wipeE env vs).set k (some (enc x))) s1 = some (g x, s1)) :
    lcF fi (tgN k) tt te vs env s = some (.lst ((xs.filter q).map g), s1) := by
  unfold lcF
  rw [hi]
  dsimp only
  rw [lcL_e h1 h2]
  dsimp only
  rw [if_pos (by rw [List.length_map]; exact Nat.le_trans (List.length_filter_le _ _) hl)]
theorem lc_y (hi : fi env s = some (xs.map enc, s1)) (hl : xs.length ≤ sizeLine) (h2 : ∀ x, x ∈ xs → te ((wipeE env vs).set k (some (enc x))) s1 = some (g x, s1)) :
    lcF fi (tgN k) yesT te vs env s = some (.lst (xs.map g), s1) := by
  have h := lc_e (tt := yesT) (q := fun _ => true) hi hl (fun _ _ => rfl) fun x hx _ => h2 x hx
  rw [h]
  have e : xs.filter (fun _ => true) = xs := List.filter_eq_self.mpr fun _ _ => rfl
  rw [e]
theorem lcL_p {w : Env} {enc2 : α → Dt} : ∀ {xs : List α}, (∀ x, x ∈ xs → tt ((w.set k (some (enc x))).set k1 (some (enc2 x))) s = some (q x, s)) → (∀ x, x ∈ xs → q x = true → te ((w.set k (some (enc x))).set k1 (some (enc2 x))) s = some (g x, s)) → lcL (tgP (tgN k) (tgN k1)) tt te w (xs.map fun x => .tup [enc x, enc2 x]) s = some ((xs.filter q).map g, s)
  | [], _, _ => rfl
  | x :: xs, h1, h2 => by
    have ih := lcL_p (xs := xs) (fun x hx => h1 x (List.mem_cons_of_mem _ hx)) fun x hx => h2 x (List.mem_cons_of_mem _ hx)
    rw [List.map_cons]
    unfold lcL
    simp only [tgP, tgN, Option.bind_eq_bind, Option.bind_some]
    rw [h1 x List.mem_cons_self]
    cases hq : q x with
    | true =>
      dsimp only
      rw [h2 x List.mem_cons_self hq]
      dsimp only
      rw [ih, List.filter_cons_of_pos hq]
      rfl
    | false =>
      dsimp only
      rw [ih, List.filter_cons_of_neg (by rw [hq]; exact Bool.false_ne_true)]
theorem lc_p {enc2 : α → Dt} (hi : fi env s = some (xs.map fun x => .tup [enc x, enc2 x], s1)) (hl : xs.length ≤ sizeLine) (h1 : ∀ x, x ∈ xs → tt (((wipeE env vs).set k (some (enc x))).set k1 (some (enc2 x))) s1 = some (q x, s1)) (h2 : ∀ x, x ∈ xs → q x = true → te (((wipeE env vs).set k (some (enc x))).set k1 (some (enc2 x))) s1 = some (g x, s1)) :
    lcF fi (tgP (tgN k) (tgN k1)) tt te vs env s = some (.lst ((xs.filter q).map g), s1) := by
  unfold lcF
  rw [hi]
  dsimp only
  rw [lcL_p h1 h2]
  dsimp only
  rw [if_pos (by rw [List.length_map]; exact Nat.le_trans (List.length_filter_le _ _) hl)]
theorem lc2I_e {w : Env} : ∀ {xs : List α}, (∀ x, x ∈ xs → tt (w.set k (some (enc x))) s = some (q x, s)) → (∀ x, x ∈ xs → q x = true → te (w.set k (some (enc x))) s = some (g x, s)) → lc2I (tgN k) tt te w (xs.map enc) s = some ((xs.filter q).map g, s)
  | [], _, _ => rfl
  | x :: xs, h1, h2 => by
    have ih := lc2I_e (xs := xs) (fun x hx => h1 x (List.mem_cons_of_mem _ hx)) fun x hx => h2 x (List.mem_cons_of_mem _ hx)
    rw [List.map_cons]
    unfold lc2I
    simp only [tgN]
    rw [h1 x List.mem_cons_self]
    cases hq : q x with
    | true =>
      dsimp only
      rw [h2 x List.mem_cons_self hq]
      dsimp only
      rw [ih, List.filter_cons_of_pos hq]
      rfl
    | false =>
      dsimp only
      rw [ih, List.filter_cons_of_neg (by rw [hq]; exact Bool.false_ne_true)]
theorem lc2L_e {w : Env} {enc1 : α → β → Dt} {h : α → List β} {q2 : α → β → Bool} {g2 : α → β → Dt} : ∀ {xs : List α}, (∀ x, x ∈ xs → fi1 (w.set k (some (enc x))) s = some ((h x).map (enc1 x), s)) → (∀ x, x ∈ xs → ∀ y, y ∈ h x → tt ((wipeE (w.set k (some (enc x))) vs1).set k1 (some (enc1 x y))) s = some (q2 x y, s)) →
    (∀ x, x ∈ xs → ∀ y, y ∈ h x → q2 x y = true → te ((wipeE (w.set k (some (enc x))) vs1).set k1 (some (enc1 x y))) s = some (g2 x y, s)) → lc2L (tgN k) fi1 (tgN k1) tt te vs1 w (xs.map enc) s = some (xs.flatMap fun x => ((h x).filter (q2 x)).map (g2 x), s)
  | [], _, _, _ => rfl
  | x :: xs, h0, h1, h2 => by
    have ih := lc2L_e (xs := xs) (fun x hx => h0 x (List.mem_cons_of_mem _ hx)) (fun x hx => h1 x (List.mem_cons_of_mem _ hx)) fun x hx => h2 x (List.mem_cons_of_mem _ hx)
    rw [List.map_cons]
    unfold lc2L
    rw [show tgN k w (enc x) = some (w.set k (some (enc x))) from rfl]
    dsimp only
    have h0' := h0 x List.mem_cons_self
    rw [h0']
    dsimp only
    have hi := lc2I_e (k := k1) (w := wipeE (w.set k (some (enc x))) vs1) (xs := h x) (enc := enc1 x) (h1 x List.mem_cons_self) (h2 x List.mem_cons_self)
    rw [hi]
    dsimp only
    rw [ih]
    rfl
theorem lc2_e {enc1 : α → β → Dt} {h : α → List β} {q2 : α → β → Bool} {g2 : α → β → Dt} (hi : fi env s = some (xs.map enc, s1)) (h0 : ∀ x, x ∈ xs → fi1 ((wipeE env vs).set k (some (enc x))) s1 = some ((h x).map (enc1 x), s1)) (h1 : ∀ x, x ∈ xs → ∀ y, y ∈ h x → tt ((wipeE ((wipeE env vs).set k (some (enc x))) vs1).set k1 (some (enc1 x y))) s1 = some (q2 x y, s1))
    (h2 : ∀ x, x ∈ xs → ∀ y, y ∈ h x → q2 x y = true → te ((wipeE ((wipeE env vs).set k (some (enc x))) vs1).set k1 (some (enc1 x y))) s1 = some (g2 x y, s1)) (hl : (xs.flatMap fun x => ((h x).filter (q2 x)).map (g2 x)).length ≤ sizeLine) :
    lc2F fi (tgN k) fi1 (tgN k1) tt te vs vs1 env s = some (.lst (xs.flatMap fun x => ((h x).filter (q2 x)).map (g2 x)), s1) := by
  unfold lc2F
  rw [hi]
  dsimp only
  rw [lc2L_e h0 h1 h2]
  dsimp only
  rw [if_pos hl]
end
section
variable {α : Type} {enc : α → Dt} {fi : Fi} {F : Fs} {st : Tg}
theorem loop_pre {xs : List α} (R : List α → Env → Sto → Prop) (Z : Dt → Sto → Prop) (hb : ∀ pre x post env s, xs = pre ++ x :: post → R pre env s → ∃ e1 o s', st env (enc x) = some e1 ∧ F e1 s = some (o, s') ∧ ((∃ e', o = .nx e' ∧ R (pre ++ [x]) e' s') ∨ ∃ d, o = .rt d ∧ Z d s')) :
    ∀ (post pre : List α) (env : Env) (s : Sto), xs = pre ++ post → R pre env s → ∃ o s', loopF st F (post.map enc) env s = some (o, s') ∧ ((∃ e', o = .nx e' ∧ R xs e' s') ∨ ∃ d, o = .rt d ∧ Z d s')
  | [], pre, env, s, e, h => ⟨.nx env, s, rfl, .inl ⟨env, rfl, by rw [e, List.append_nil]; exact h⟩⟩
  | x :: post, pre, env, s, e, h => by
    obtain ⟨e1, o, s1, h0, h1, h2⟩ := hb pre x post env s e h
    rw [List.map_cons]
    unfold loopF
    rw [h0]
    dsimp only
    rw [h1]
    rcases h2 with ⟨e', rfl, h2⟩ | ⟨d, rfl, h2⟩
    · exact loop_pre R Z hb post (pre ++ [x]) e' s1 (by rw [e, List.append_assoc]; rfl) h2
    · exact ⟨_, _, rfl, .inr ⟨d, rfl, h2⟩⟩
end
end DL

namespace DL
open PySem PySem.Spec PyProof.Rows L2
theorem insN_mem {x y : Nat} : ∀ {l : List Nat}, y ∈ insN x l ↔ y = x ∨ y ∈ l
  | [] => by simp [insN]
  | z :: r => by
    unfold insN
    split
    · simp
    · simp only [List.mem_cons, insN_mem]
      constructor
      · rintro (h | h | h) <;> simp [h]
      · rintro (h | h | h) <;> simp [h]
theorem sortN_mem {y : Nat} : ∀ {l : List Nat}, y ∈ sortN l ↔ y ∈ l
  | [] => by simp [sortN]
  | x :: r => by
    show y ∈ insN x (sortN r) ↔ _
    rw [insN_mem, sortN_mem, List.mem_cons]
theorem insN_lt {x : Nat} : ∀ {l : List Nat}, x ∉ l → l.Pairwise (· < ·) → (insN x l).Pairwise (· < ·)
  | [], _, _ => List.pairwise_singleton _ _
  | y :: r, hx, h => by
    obtain ⟨h1, h2⟩ := List.pairwise_cons.mp h
    have hne : x ≠ y := fun e => hx (e ▸ List.mem_cons_self)
    unfold insN
    split
    · rename_i c
      refine List.pairwise_cons.mpr ⟨fun b hb => ?_, h⟩
      rcases List.mem_cons.mp hb with rfl | hb
      · omega
      · have := h1 b hb; omega
    · rename_i c
      refine List.pairwise_cons.mpr ⟨fun b hb => ?_, insN_lt (fun z => hx (List.mem_cons_of_mem _ z)) h2⟩
      rcases insN_mem.mp hb with rfl | hb
      · omega
      · exact h1 b hb
theorem sortN_lt : ∀ {l : List Nat}, l.Nodup → (sortN l).Pairwise (· < ·)
  | [], _ => .nil
  | x :: r, h => by
    obtain ⟨h1, h2⟩ := List.nodup_cons.mp h
    exact insN_lt (fun z => h1 (sortN_mem.mp z)) (sortN_lt h2)
theorem lt_unique : ∀ {a b : List Nat}, a.Pairwise (· < ·) → b.Pairwise (· < ·) → (∀ x, x ∈ a ↔ x ∈ b) → a = b
  | [], [], _, _, _ => rfl
  | [], y :: b, _, _, h => absurd ((h y).mpr List.mem_cons_self) List.not_mem_nil
  | x :: a, [], _, _, h => absurd ((h x).mp List.mem_cons_self) List.not_mem_nil
  | x :: a, y :: b, ha, hb, h => by
    obtain ⟨a1, a2⟩ := List.pairwise_cons.mp ha
    obtain ⟨b1, b2⟩ := List.pairwise_cons.mp hb
    have e : x = y := by
      rcases List.mem_cons.mp ((h x).mp List.mem_cons_self) with e | e
      · exact e
      · rcases List.mem_cons.mp ((h y).mpr List.mem_cons_self) with e' | e'
        · exact e'.symm
        · have := a1 y e'; have := b1 x e; omega
    subst e
    rw [lt_unique a2 b2 fun z => ?_]
    constructor
    · intro hz
      rcases List.mem_cons.mp ((h z).mp (List.mem_cons_of_mem _ hz)) with e | e
      · have := a1 z hz; omega
      · exact e
    · intro hz
      rcases List.mem_cons.mp ((h z).mpr (List.mem_cons_of_mem _ hz)) with e | e
      · have := b1 z hz; omega
      · exact e
theorem leS_one (a b : Nat) : leS (strW [a]) (strW [b]) ↔ a ≤ b := by
  show ¬ ([b] : List Nat) < [a] ↔ _
  rw [List.cons_lt_cons_iff]
  simp
theorem sortS_ones (l : List Nat) : sortS (l.map fun c => strW [c]) = (sortN l).map fun c => strW [c] := by
  have ins : ∀ (x : Nat) (l : List Nat), insK (fun x => x) (strW [x]) (l.map fun c => strW [c]) = (insN x l).map fun c => strW [c] := by
    intro x l
    induction l with
    | nil => rfl
    | cons y r ih =>
      unfold insN
      rw [List.map_cons]
      unfold insK
      by_cases c : x ≤ y
      · rw [if_pos ((leS_one x y).mpr c), if_pos c]; rfl
      · rw [if_neg (fun z => c ((leS_one x y).mp z)), if_neg c, ih]; rfl
  induction l with
  | nil => rfl
  | cons x r ih =>
    show insK _ (strW [x]) (sortS (r.map fun c => strW [c])) = (insN x (sortN r)).map _
    rw [ih, ins]
inductive Rch (E : Ents) : Nat → Nat → Prop
  | one {c d : Nat} : d ∈ lesN E c → Rch E c d
  | more {c d e : Nat} : Rch E c d → e ∈ lesN E d → Rch E c e
theorem Rch.trans {E : Ents} {a b c : Nat} (h : Rch E a b) (h' : Rch E b c) : Rch E a c := by
  induction h' with
  | one h' => exact .more h h'
  | more _ h' ih => exact .more ih h'
structure ClE (E : Ents) : Prop where
  ok : OkE E
  cl : ∀ e ∈ E, ∀ d ∈ e.2, d ∈ E.map (·.1)
  n : E.length ≤ 30
  lo : ∀ c ∈ E.map (·.1), 97 ≤ c ∧ c ≤ 122
theorem les_in {E : Ents} {c d : Nat} (h : d ∈ lesN E c) : ∃ e ∈ E, e.1 = c ∧ d ∈ e.2 := by
  unfold lesN at h
  cases q : E.find? fun e => decide (e.1 = c) with
  | none => rw [q] at h; exact absurd h List.not_mem_nil
  | some e =>
    rw [q] at h
    exact ⟨e, List.mem_of_find?_eq_some q, by simpa using List.find?_some q, h⟩
theorem ClE.let {E : Ents} (h : ClE E) {c d : Nat} (hd : d ∈ lesN E c) : d ∈ E.map (·.1) := by
  obtain ⟨e, he, _, hd⟩ := les_in hd
  exact h.cl e he d hd
theorem ClE.few {E : Ents} (h : ClE E) (c : Nat) : (lesN E c).length ≤ 10 := by
  unfold lesN
  cases q : E.find? fun e => decide (e.1 = c) with
  | none => exact Nat.zero_le _
  | some e => exact h.ok.few e (List.mem_of_find?_eq_some q)
theorem ClE.rch {E : Ents} (h : ClE E) {c d : Nat} (hd : Rch E c d) : d ∈ E.map (·.1) := by
  cases hd with
  | one hd => exact h.let hd
  | more _ hd => exact h.let hd
def dfs (E : Ents) : Nat → List Nat → List Nat → List Nat
  | 0, r, _ => r
  | _ + 1, r, [] => r
  | n + 1, r, d :: a => if d ∈ r then dfs E n r a else dfs E n (r ++ [d]) ((lesN E d).reverse ++ a)
def meas (E : Ents) (r a : List Nat) : Nat := (E.length - r.length) * 11 + a.length
structure Dfs (E : Ents) (c : Nat) (r a : List Nat) : Prop where
  nd : r.Nodup
  rr : ∀ x ∈ r, Rch E c x
  ra : ∀ x ∈ a, Rch E c x
  on : ∀ x ∈ r, ∀ d ∈ lesN E x, d ∈ r ∨ d ∈ a
  c0 : ∀ d ∈ lesN E c, d ∈ r ∨ d ∈ a
theorem nodup_le : ∀ {l m : List Nat}, l.Nodup → (∀ x ∈ l, x ∈ m) → l.length ≤ m.length
  | [], _, _, _ => Nat.zero_le _
  | x :: l, m, h, hs => by
    obtain ⟨h1, h2⟩ := List.nodup_cons.mp h
    have ih := nodup_le (m := m.erase x) h2 fun y hy => (List.mem_erase_of_ne (fun e => h1 (by rw [← e]; exact hy))).mpr (hs y (List.mem_cons_of_mem _ hy))
    have hx := hs x List.mem_cons_self
    have := List.length_erase_of_mem hx
    have := List.length_pos_of_mem hx
    rw [List.length_cons]
    omega
theorem Dfs.len {E : Ents} {c : Nat} {r a : List Nat} (h : ClE E) (i : Dfs E c r a) : r.length ≤ E.length := by
  have := nodup_le i.nd fun x hx => h.rch (i.rr x hx)
  rwa [List.length_map] at this
theorem Dfs.skip {E : Ents} {c d : Nat} {r a : List Nat} (i : Dfs E c r (d :: a)) (hd : d ∈ r) : Dfs E c r a := by
  refine ⟨i.nd, i.rr, fun x hx => i.ra x (List.mem_cons_of_mem _ hx), fun x hx e he => ?_, fun e he => ?_⟩
  · rcases i.on x hx e he with z | z
    · exact .inl z
    · rcases List.mem_cons.mp z with rfl | z
      · exact .inl hd
      · exact .inr z
  · rcases i.c0 e he with z | z
    · exact .inl z
    · rcases List.mem_cons.mp z with rfl | z
      · exact .inl hd
      · exact .inr z
theorem Dfs.take {E : Ents} {c d : Nat} {r a : List Nat} (i : Dfs E c r (d :: a)) (hd : d ∉ r) : Dfs E c (r ++ [d]) ((lesN E d).reverse ++ a) := by
  have hr := i.ra d List.mem_cons_self
  have sp : ∀ e, e ∈ r ∨ e ∈ d :: a → e ∈ r ++ [d] ∨ e ∈ (lesN E d).reverse ++ a := fun e z => by
    rcases z with z | z
    · exact .inl (List.mem_append_left _ z)
    · rcases List.mem_cons.mp z with rfl | z
      · exact .inl (List.mem_append_right _ List.mem_cons_self)
      · exact .inr (List.mem_append_right _ z)
  refine ⟨List.nodup_append.mpr ⟨i.nd, (List.pairwise_singleton _ _), fun x hx y hy e => ?_⟩, fun x hx => ?_, fun x hx => ?_, fun x hx e he => ?_, fun e he => sp e (i.c0 e he)⟩
  · rw [List.mem_singleton] at hy
    subst hy e
    exact hd hx
  · rcases List.mem_append.mp hx with z | z
    · exact i.rr x z
    · rw [List.mem_singleton.mp z]; exact hr
  · rcases List.mem_append.mp hx with z | z
    · exact .more hr (List.mem_reverse.mp z)
    · exact i.ra x (List.mem_cons_of_mem _ z)
  · rcases List.mem_append.mp hx with z | z
    · exact sp e (i.on x z e he)
    · rw [List.mem_singleton.mp z] at he
      exact .inr (List.mem_append_left _ (List.mem_reverse.mpr he))
theorem dfs_ok {E : Ents} (h : ClE E) {c : Nat} : ∀ (n : Nat) {r a : List Nat}, Dfs E c r a → meas E r a ≤ n → Dfs E c (dfs E n r a) []
  | 0, r, a, i, hm => by
    have ha : a = [] := by
      unfold meas at hm
      exact List.eq_nil_of_length_eq_zero (by omega)
    subst ha
    exact i
  | n + 1, r, [], i, _ => i
  | n + 1, r, d :: a, i, hm => by
    unfold meas at hm
    rw [List.length_cons] at hm
    unfold dfs
    by_cases hd : d ∈ r
    · rw [if_pos hd]
      exact dfs_ok h n (i.skip hd) (by unfold meas; omega)
    · rw [if_neg hd]
      have j := i.take hd
      have := j.len h
      have := h.few d
      refine dfs_ok h n j ?_
      unfold meas
      rw [List.length_append, List.length_append, List.length_reverse, List.length_singleton] at *
      omega
theorem dfs_start (E : Ents) (c : Nat) : Dfs E c [] (lesN E c).reverse :=
  ⟨.nil, fun x hx => absurd hx List.not_mem_nil, fun x hx => .one (List.mem_reverse.mp hx), fun x hx => absurd hx List.not_mem_nil, fun d hd => .inr (List.mem_reverse.mpr hd)⟩
theorem Dfs.all {E : Ents} {c : Nat} {r : List Nat} (i : Dfs E c r []) (x : Nat) : x ∈ r ↔ Rch E c x := by
  refine ⟨i.rr x, fun h => ?_⟩
  induction h with
  | one h => exact (i.c0 _ h).elim (fun z => z) fun z => absurd z List.not_mem_nil
  | more _ h ih => exact (i.on _ ih _ h).elim (fun z => z) fun z => absurd z List.not_mem_nil
def downN (E : Ents) (c : Nat) : List Nat := sortN (dfs E (E.length * 11 + 10) [] (lesN E c).reverse)
theorem down_dfs {E : Ents} (h : ClE E) (c : Nat) : Dfs E c (dfs E (E.length * 11 + 10) [] (lesN E c).reverse) [] :=
  dfs_ok h _ (dfs_start E c) (by have := h.few c; unfold meas; rw [List.length_reverse]; simp only [List.length_nil]; omega)
theorem down_mem {E : Ents} (h : ClE E) {c x : Nat} : x ∈ downN E c ↔ Rch E c x := by
  unfold downN
  rw [sortN_mem, (down_dfs h c).all]
end DL

namespace DL
open PySem PySem.Spec PyProof.Rows L2
section
variable {s : Sto} {u v w x y : List Nat} {α : Type} {l : List α} {f : α → List Nat}
theorem cat_w (h : u.length + v.length ≤ 16777215) : addAll s (wd u) (wd v) = some (wd (u ++ v)) := by
  show (if (strW u).length + (strW v).length ≤ sizeLine then some (Dt.str (strW u ++ strW v)) else none) = _
  rw [if_pos (small (by rw [strW_len, strW_len]; exact h)), strW_cat]
  rfl
theorem add_nn {a b : Nat} : addAll s (.int ((a : Nat) : Int)) (.int ((b : Nat) : Int)) = some (.int ((a + b : Nat) : Int)) := by
  show some (Dt.int ((a : Int) + (b : Int))) = _
  rw [Int.natCast_add]
theorem add_n1 {a : Nat} : addAll s (.int ((a : Nat) : Int)) (.int 1) = some (.int ((a + 1 : Nat) : Int)) := rfl
theorem sub_nn {a b : Nat} (h : b ≤ a) : subG s (.int ((a : Nat) : Int)) (.int ((b : Nat) : Int)) = some (.int ((a - b : Nat) : Int)) := by
  show some (Dt.int ((a : Int) - (b : Int))) = _
  rw [Int.natCast_sub h]
theorem len_w (h : w.length ≤ 16777215) : lenG s [wd w] = some (.int ((w.length : Nat) : Int)) := if_pos (small h)
theorem len_lst {a : List Dt} : lenG s [.lst a] = some (.int ((a.length : Nat) : Int)) := rfl
theorem len_dct {a : List (Key × Dt)} : lenG s [.dct a] = some (.int ((a.length : Nat) : Int)) := rfl
theorem at_w {k c : Nat} (hl : w.length ≤ 16777215) (hc : w[k]? = some c) : ixA s (wd w) (.int ((k : Nat) : Int)) = some (wd [c]) := by
  show (if (strW w).length ≤ sizeLine then (atI w.toArray.toList ((k : Nat) : Int)).map fun c => Dt.str ⟨#[c]⟩ else none) = _
  rw [if_pos (small (by rw [strW_len]; exact hl)), List.toList_toArray, atI_nat (j := k) hc]
  rfl
theorem eq_ww : eqG s (wd u) (wd v) = some (.bl (decide (u = v))) := by
  show some (Dt.bl (decide (strW u = strW v))) = _
  rw [show decide (strW u = strW v) = decide (u = v) from decide_eq_decide.mpr ⟨strW_inj, fun e => by rw [e]⟩]
theorem ne_ww : neG s (wd u) (wd v) = some (.bl (!decide (u = v))) := by unfold neG; rw [eq_ww]
theorem wd_flat2 (l : List α) (f : α → List Nat) : (l.map fun a => wd (f a)).all flatD = true := by
  induction l with
  | nil => rfl
  | cons x l ih => rw [List.map_cons, List.all_cons, ih]; rfl
theorem any_wd (l : List α) (f : α → List Nat) : ((l.map fun a => wd (f a)).any fun y => eqF y (wd x)) = decide (x ∈ l.map f) := by
  induction l with
  | nil => rfl
  | cons z l ih =>
    rw [List.map_cons, List.any_cons, ih]
    show ((strW (f z)) == strW x || decide (x ∈ l.map f)) = decide (x ∈ (z :: l).map f)
    rw [List.map_cons, Bool.eq_iff_iff, Bool.or_eq_true, decide_eq_true_iff, decide_eq_true_iff, List.mem_cons, beq_iff_eq]
    constructor
    · rintro (h | h)
      · exact .inl (strW_inj h).symm
      · exact .inr h
    · rintro (h | h)
      · exact .inl (by rw [h])
      · exact .inr h
theorem inB_lst : inB s (wd x) (.lst (l.map fun a => wd (f a))) = some (decide (x ∈ l.map f)) := by
  show (if flatD (wd x) = true ∧ (l.map fun a => wd (f a)).all flatD = true then some ((l.map fun a => wd (f a)).any fun y => eqF y (wd x)) else none) = _
  rw [if_pos ⟨rfl, wd_flat2 l f⟩, any_wd]
theorem inB_tup : inB s (wd x) (.tup (l.map fun a => wd (f a))) = some (decide (x ∈ l.map f)) := by
  show (if flatD (wd x) = true ∧ (l.map fun a => wd (f a)).all flatD = true then some ((l.map fun a => wd (f a)).any fun y => eqF y (wd x)) else none) = _
  rw [if_pos ⟨rfl, wd_flat2 l f⟩, any_wd]
theorem in_wl : inA s (wd x) (.lst (l.map fun a => wd (f a))) = some (.bl (decide (x ∈ l.map f))) := by
  show (inB s (wd x) (.lst (l.map fun a => wd (f a)))).map Dt.bl = _
  rw [inB_lst]; rfl
theorem notin_wl : notinA s (wd x) (.lst (l.map fun a => wd (f a))) = some (.bl (!decide (x ∈ l.map f))) := by
  show (inB s (wd x) (.lst (l.map fun a => wd (f a)))).map (fun b => Dt.bl (!b)) = _
  rw [inB_lst]; rfl
theorem in_wt : inA s (wd x) (.tup (l.map fun a => wd (f a))) = some (.bl (decide (x ∈ l.map f))) := by
  show (inB s (wd x) (.tup (l.map fun a => wd (f a)))).map Dt.bl = _
  rw [inB_tup]; rfl
theorem notin_wt : notinA s (wd x) (.tup (l.map fun a => wd (f a))) = some (.bl (!decide (x ∈ l.map f))) := by
  show (inB s (wd x) (.tup (l.map fun a => wd (f a)))).map (fun b => Dt.bl (!b)) = _
  rw [inB_tup]; rfl
theorem bools_mp (p : α → Bool) : ∀ l : List α, bools (l.map fun a => Dt.bl (p a)) = some (l.map p)
  | [] => rfl
  | x :: l => by
    rw [List.map_cons]
    unfold bools
    rw [bools_mp p l]
    rfl
theorem any_bl {p : α → Bool} : anyG s [.lst (l.map fun a => .bl (p a))] = some (.bl (l.any p)) := by
  show (bools _).map _ = _
  rw [bools_mp]
  show some (Dt.bl ((l.map p).any id)) = _
  rw [List.any_map]; rfl
theorem all_bl {p : α → Bool} : allG s [.lst (l.map fun a => .bl (p a))] = some (.bl (l.all p)) := by
  show (bools _).map _ = _
  rw [bools_mp]
  show some (Dt.bl ((l.map p).all id)) = _
  rw [List.all_map]; rfl
theorem val_some {κ : Type} {l : List κ} {f : κ → List Nat} {g : κ → Dt} {x : List Nat} : (valD (l.map fun a => (.inr (strW (f a)), g a)) (.inr (strW x))).isSome = decide (x ∈ l.map f) := by
  induction l with
  | nil => rfl
  | cons z l ih =>
    rw [List.map_cons, List.map_cons]
    unfold valD at ih ⊢
    rw [List.find?_cons]
    by_cases c : f z = x
    · rw [show decide ((.inr (strW (f z)) : Key) = .inr (strW x)) = true from decide_eq_true (by rw [c])]
      symm
      exact decide_eq_true (by rw [c]; exact List.mem_cons_self)
    · rw [show decide ((.inr (strW (f z)) : Key) = .inr (strW x)) = false from decide_eq_false fun e => c (strW_inj (Sum.inr.inj e))]
      dsimp only
      rw [ih]
      rw [decide_eq_decide]
      constructor
      · exact fun h => List.mem_cons_of_mem _ h
      · intro h
        rcases List.mem_cons.mp h with e | e
        · exact absurd e.symm c
        · exact e
theorem in_kd {κ : Type} {l : List κ} {f : κ → List Nat} {g : κ → Dt} : inA s (wd x) (.dct (l.map fun a => (.inr (strW (f a)), g a))) = some (.bl (decide (x ∈ l.map f))) := by
  show some (Dt.bl (valD _ (.inr (strW x))).isSome) = _
  rw [val_some]
theorem notin_kd {κ : Type} {l : List κ} {f : κ → List Nat} {g : κ → Dt} : notinA s (wd x) (.dct (l.map fun a => (.inr (strW (f a)), g a))) = some (.bl (!decide (x ∈ l.map f))) := by
  show some (Dt.bl (!(valD _ (.inr (strW x))).isSome)) = _
  rw [val_some]
end
theorem ones_mem {d : Nat} {l : List Nat} : [d] ∈ (l.map fun c => [c]) ↔ d ∈ l := by
  constructor
  · intro h
    obtain ⟨c, hc, e⟩ := List.mem_map.mp h
    cases e
    exact hc
  · exact fun h => List.mem_map.mpr ⟨d, h, rfl⟩
abbrev onesD (l : List Nat) : List Dt := l.map fun c => wd [c]
section
variable {s : Sto} {d : Nat} {l : List Nat} {g : Nat → Dt}
theorem in_l1 : inA s (wd [d]) (.lst (onesD l)) = some (.bl (decide (d ∈ l))) := by rw [in_wl]; simp only [ones_mem]
theorem notin_l1 : notinA s (wd [d]) (.lst (onesD l)) = some (.bl (!decide (d ∈ l))) := by rw [notin_wl]; simp only [ones_mem]
theorem in_t1 : inA s (wd [d]) (.tup (onesD l)) = some (.bl (decide (d ∈ l))) := by rw [in_wt]; simp only [ones_mem]
theorem notin_t1 : notinA s (wd [d]) (.tup (onesD l)) = some (.bl (!decide (d ∈ l))) := by rw [notin_wt]; simp only [ones_mem]
theorem in_k1 : inA s (wd [d]) (.dct (l.map fun c => (.inr (strW [c]), g c))) = some (.bl (decide (d ∈ l))) := by rw [in_kd]; simp only [ones_mem]
theorem notin_k1 : notinA s (wd [d]) (.dct (l.map fun c => (.inr (strW [c]), g c))) = some (.bl (!decide (d ∈ l))) := by rw [notin_kd]; simp only [ones_mem]
end
theorem put_new {κ : Type} {l : List κ} {f : κ → List Nat} {g : κ → Dt} {x : List Nat} {d : Dt} (h : x ∉ l.map f) : putD (l.map fun a => (.inr (strW (f a)), g a)) (.inr (strW x)) d = (l.map fun a => (.inr (strW (f a)), g a)) ++ [(.inr (strW x), d)] := by
  unfold putD
  rw [if_neg]
  intro hc
  obtain ⟨kv, h1, h2⟩ := List.any_eq_true.mp hc
  obtain ⟨a, ha, rfl⟩ := List.mem_map.mp h1
  exact h (List.mem_map.mpr ⟨a, ha, strW_inj (Sum.inr.inj (of_decide_eq_true h2))⟩)
end DL

namespace DL
open PySem PySem.Spec PyProof.Rows L2
local macro_rules | `(tactic| walk_at "op") => `(tactic| first | assumption | with_reducible rfl | exact cat_w (by omega) | exact sub_nn (by omega) | exact add_nn | exact at_w (by omega) (by assumption) | exact len_w (by omega) | exact in_l1 | exact notin_l1 | exact in_t1 | exact notin_t1 | exact in_k1 | exact notin_k1 | exact in_wl | exact notin_wl | exact in_wt | exact notin_wt | exact in_kd | exact notin_kd | exact eq_ww | exact ne_ww | exact any_bl | exact all_bl | rfl)
local macro_rules | `(tactic| walk_at "ev") => `(tactic| first | with_reducible exact c0 | ((with_reducible apply v0); rfl) | with_reducible exact a0 | with_reducible assumption | ((with_reducible apply aCons_ev); (focus walk_at "ev"); (focus walk_at "ev")) | ((with_reducible apply bindA_ev); (focus walk_at "ev"); (focus walk_at "op")) | ((with_reducible apply bind2_ev); (focus walk_at "ev"); (focus walk_at "ev"); (focus walk_at "op")) | ((with_reducible apply bind1_ev); (focus walk_at "ev"); (focus walk_at "op")) | ((with_reducible apply asB_ev); (focus walk_at "ev")) | ((with_reducible apply call_ev); (focus walk_at "ev"); (focus first | assumption | rfl)) | ((with_reducible apply truF_ev); (focus walk_at "ev"); (focus first | assumption | rfl)) | ((with_reducible apply notT_ev); (focus walk_at "ev")) | ((with_reducible apply andT_e); (focus walk_at "ev"); (focus (intro hq; walk_at "ev"))) | ((with_reducible apply orT_e); (focus walk_at "ev"); (focus (intro hq; walk_at "ev"))) | ((with_reducible apply seq_tup); (focus walk_at "ev")) | ((with_reducible apply seq_lst); (focus walk_at "ev")) | ((with_reducible apply seq_str); (focus walk_at "ev")))
def edD (E : Ents) : Dt := .dct (E.map prD)
theorem get_ed {s : Sto} {E : Ents} {c : Nat} (h : c ∈ E.map (·.1)) : ixA s (edD E) (wd [c]) = some (lesD (lesN E c)) := val_ent h
end DL

namespace DL
open PySem PySem.Spec PyProof.Rows L2
local macro_rules | `(tactic| walk_at "op") => `(tactic| first | assumption | with_reducible rfl | exact cat_w (by omega) | exact sub_nn (by omega) | exact add_nn | exact at_w (by omega) (by assumption) | exact len_w (by omega) | exact in_l1 | exact notin_l1 | exact in_t1 | exact notin_t1 | exact in_k1 | exact notin_k1 | exact in_wl | exact notin_wl | exact in_wt | exact notin_wt | exact in_kd | exact notin_kd | exact eq_ww | exact ne_ww | exact any_bl | exact all_bl | rfl)
local macro_rules | `(tactic| walk_at "ev") => `(tactic| first | with_reducible exact c0 | ((with_reducible apply v0); rfl) | with_reducible exact a0 | with_reducible assumption | ((with_reducible apply aCons_ev); (focus walk_at "ev"); (focus walk_at "ev")) | ((with_reducible apply bindA_ev); (focus walk_at "ev"); (focus walk_at "op")) | ((with_reducible apply bind2_ev); (focus walk_at "ev"); (focus walk_at "ev"); (focus walk_at "op")) | ((with_reducible apply bind1_ev); (focus walk_at "ev"); (focus walk_at "op")) | ((with_reducible apply asB_ev); (focus walk_at "ev")) | ((with_reducible apply call_ev); (focus walk_at "ev"); (focus first | assumption | rfl)) | ((with_reducible apply truF_ev); (focus walk_at "ev"); (focus first | assumption | rfl)) | ((with_reducible apply notT_ev); (focus walk_at "ev")) | ((with_reducible apply andT_e); (focus walk_at "ev"); (focus (intro hq; walk_at "ev"))) | ((with_reducible apply orT_e); (focus walk_at "ev"); (focus (intro hq; walk_at "ev"))) | ((with_reducible apply seq_tup); (focus walk_at "ev")) | ((with_reducible apply seq_lst); (focus walk_at "ev")) | ((with_reducible apply seq_str); (focus walk_at "ev")))
abbrev bookD (E : Ents) (rs : List Ru) : Dt := .tup [.tup (entL E), .tup (rs.map Ru.d)]

end DL

namespace DL
open PySem PySem.Spec PyProof.Rows L2
end DL

namespace DL
open PySem PySem.Spec PyProof.Rows L2
local macro_rules | `(tactic| walk_at "op") => `(tactic| first | assumption | with_reducible rfl | exact cat_w (by omega) | exact sub_nn (by omega) | exact add_nn | exact at_w (by omega) (by assumption) | exact len_w (by omega) | exact in_l1 | exact notin_l1 | exact in_t1 | exact notin_t1 | exact in_k1 | exact notin_k1 | exact in_wl | exact notin_wl | exact in_wt | exact notin_wt | exact in_kd | exact notin_kd | exact eq_ww | exact ne_ww | exact any_bl | exact all_bl | rfl)
local macro_rules | `(tactic| walk_at "ev") => `(tactic| first | with_reducible exact c0 | ((with_reducible apply v0); rfl) | with_reducible exact a0 | with_reducible assumption | ((with_reducible apply aCons_ev); (focus walk_at "ev"); (focus walk_at "ev")) | ((with_reducible apply bindA_ev); (focus walk_at "ev"); (focus walk_at "op")) | ((with_reducible apply bind2_ev); (focus walk_at "ev"); (focus walk_at "ev"); (focus walk_at "op")) | ((with_reducible apply bind1_ev); (focus walk_at "ev"); (focus walk_at "op")) | ((with_reducible apply asB_ev); (focus walk_at "ev")) | ((with_reducible apply call_ev); (focus walk_at "ev"); (focus first | assumption | rfl)) | ((with_reducible apply truF_ev); (focus walk_at "ev"); (focus first | assumption | rfl)) | ((with_reducible apply notT_ev); (focus walk_at "ev")) | ((with_reducible apply andT_e); (focus walk_at "ev"); (focus (intro hq; walk_at "ev"))) | ((with_reducible apply orT_e); (focus walk_at "ev"); (focus (intro hq; walk_at "ev"))) | ((with_reducible apply seq_tup); (focus walk_at "ev")) | ((with_reducible apply seq_lst); (focus walk_at "ev")) | ((with_reducible apply seq_str); (focus walk_at "ev")))
theorem shaped_wds {α : Type} (f : α → List Nat) : ∀ (l : List α), (∀ x ∈ l, lowc (f x)) → plain (.lst (l.map fun a => wd (f a))) = true ∧ SeqAt.shaped (py (.lst (l.map fun a => wd (f a)))) = true := by
  intro l hl
  have h1 : plains (l.map fun a => wd (f a)) = true := by
    clear hl
    induction l with
    | nil => rfl
    | cons x l ih => simpa [plains, plain, wd] using ih
  have h2 : ∀ l : List α, (∀ x ∈ l, lowc (f x)) → PyData.canLayAll0 (pys (l.map fun a => wd (f a))) = true := by
    intro l
    induction l with
    | nil => exact fun _ => rfl
    | cons x l ih =>
      intro hl
      rw [List.map_cons]
      show (PyData.canLay0 (py (wd (f x))) && _) = true
      rw [Bool.and_eq_true]
      exact ⟨wd_good (hl x List.mem_cons_self), ih fun y hy => hl y (List.mem_cons_of_mem _ hy)⟩
  have h3 : ∀ l : List α, PyData.depthAll (pys (l.map fun a => wd (f a))) = 0 := by
    intro l
    induction l with
    | nil => rfl
    | cons x l ih => simpa [pys, py, PyData.depthAll, PyData.depth, wd] using ih
  refine ⟨by simpa [plain] using h1, ?_⟩
  simp [SeqAt.shaped, py, PyData.canLay0, PyData.depth, h2 l hl, h3 l]
theorem eq_nil (s : Sto) {ds : List Dt} (h1 : plain (.lst ds) = true) (h2 : SeqAt.shaped (py (.lst ds)) = true) : eqG s (.lst ds) (.lst []) = some (.bl ds.isEmpty) := by
  obtain ⟨h3, h4⟩ := shaped_ints []
  unfold eqG
  dsimp only
  rw [if_pos ⟨h1, h3, h2, h4⟩]
  cases ds <;> rfl
theorem eq_wds {α : Type} {s : Sto} {l : List α} {f : α → List Nat} (h : ∀ x ∈ l, lowc (f x)) : eqG s (.lst (l.map fun a => wd (f a))) (.lst []) = some (.bl l.isEmpty) := by
  rw [eq_nil s (shaped_wds f l h).1 (shaped_wds f l h).2]
  cases l <;> rfl
end DL

namespace DL
open PySem PySem.Spec PyProof.Rows L2
local macro_rules | `(tactic| walk_at "op") => `(tactic| first | assumption | with_reducible rfl | exact cat_w (by omega) | exact sub_nn (by omega) | exact add_nn | exact at_w (by omega) (by assumption) | exact len_w (by omega) | exact in_l1 | exact notin_l1 | exact in_t1 | exact notin_t1 | exact in_k1 | exact notin_k1 | exact in_wl | exact notin_wl | exact in_wt | exact notin_wt | exact in_kd | exact notin_kd | exact eq_ww | exact ne_ww | exact any_bl | exact all_bl | rfl)
local macro_rules | `(tactic| walk_at "ev") => `(tactic| first | with_reducible exact c0 | ((with_reducible apply v0); rfl) | with_reducible exact a0 | with_reducible assumption | ((with_reducible apply aCons_ev); (focus walk_at "ev"); (focus walk_at "ev")) | ((with_reducible apply bindA_ev); (focus walk_at "ev"); (focus walk_at "op")) | ((with_reducible apply bind2_ev); (focus walk_at "ev"); (focus walk_at "ev"); (focus walk_at "op")) | ((with_reducible apply bind1_ev); (focus walk_at "ev"); (focus walk_at "op")) | ((with_reducible apply asB_ev); (focus walk_at "ev")) | ((with_reducible apply call_ev); (focus walk_at "ev"); (focus first | assumption | rfl)) | ((with_reducible apply truF_ev); (focus walk_at "ev"); (focus first | assumption | rfl)) | ((with_reducible apply notT_ev); (focus walk_at "ev")) | ((with_reducible apply andT_e); (focus walk_at "ev"); (focus (intro hq; walk_at "ev"))) | ((with_reducible apply orT_e); (focus walk_at "ev"); (focus (intro hq; walk_at "ev"))) | ((with_reducible apply seq_tup); (focus walk_at "ev")) | ((with_reducible apply seq_lst); (focus walk_at "ev")) | ((with_reducible apply seq_str); (focus walk_at "ev")))
end DL

namespace DL
open PySem PySem.Spec PyProof.Rows L2
local macro_rules | `(tactic| walk_at "op") => `(tactic| first | assumption | with_reducible rfl | exact cat_w (by omega) | exact sub_nn (by omega) | exact add_nn | exact at_w (by omega) (by assumption) | exact len_w (by omega) | exact in_l1 | exact notin_l1 | exact in_t1 | exact notin_t1 | exact in_k1 | exact notin_k1 | exact in_wl | exact notin_wl | exact in_wt | exact notin_wt | exact in_kd | exact notin_kd | exact eq_ww | exact ne_ww | exact any_bl | exact all_bl | rfl)
local macro_rules | `(tactic| walk_at "ev") => `(tactic| first | with_reducible exact c0 | ((with_reducible apply v0); rfl) | with_reducible exact a0 | with_reducible assumption | ((with_reducible apply aCons_ev); (focus walk_at "ev"); (focus walk_at "ev")) | ((with_reducible apply bindA_ev); (focus walk_at "ev"); (focus walk_at "op")) | ((with_reducible apply bind2_ev); (focus walk_at "ev"); (focus walk_at "ev"); (focus walk_at "op")) | ((with_reducible apply bind1_ev); (focus walk_at "ev"); (focus walk_at "op")) | ((with_reducible apply asB_ev); (focus walk_at "ev")) | ((with_reducible apply call_ev); (focus walk_at "ev"); (focus first | assumption | rfl)) | ((with_reducible apply truF_ev); (focus walk_at "ev"); (focus first | assumption | rfl)) | ((with_reducible apply notT_ev); (focus walk_at "ev")) | ((with_reducible apply andT_e); (focus walk_at "ev"); (focus (intro hq; walk_at "ev"))) | ((with_reducible apply orT_e); (focus walk_at "ev"); (focus (intro hq; walk_at "ev"))) | ((with_reducible apply seq_tup); (focus walk_at "ev")) | ((with_reducible apply seq_lst); (focus walk_at "ev")) | ((with_reducible apply seq_str); (focus walk_at "ev")))
inductive Emb (P : Nat → Nat → Prop) : List Nat → List Nat → Prop
  | nil (v : List Nat) : Emb P [] v
  | skip {c : Nat} {u v : List Nat} : Emb P u v → Emb P u (c :: v)
  | take {a c : Nat} {u v : List Nat} : P a c → Emb P u v → Emb P (a :: u) (c :: v)
section
variable {P : Nat → Nat → Prop}
theorem Emb.pre {u v : List Nat} (h : Emb P u v) : ∀ x : List Nat, Emb P u (x ++ v)
  | [] => h
  | _ :: x => .skip (h.pre x)
theorem Emb.app {a b c d : List Nat} (h : Emb P a b) (h' : Emb P c d) : Emb P (a ++ c) (b ++ d) := by
  induction h with
  | nil v => exact h'.pre v
  | skip _ ih => exact .skip ih
  | take p _ ih => exact .take p ih
theorem Emb.refl (hp : ∀ c, P c c) : ∀ w : List Nat, Emb P w w
  | [] => .nil []
  | c :: w => .take (hp c) (Emb.refl hp w)
end
section
variable {E : Ents}
theorem split_at {w : List Nat} {k : Nat} (h : k < w.length) : w = w.take k ++ [w.getD k 0] ++ w.drop (k + 1) := by
  have e : w.getD k 0 = w[k] := by rw [List.getD_eq_getElem?_getD, List.getElem?_eq_getElem h]; rfl
  rw [e, List.append_assoc, List.singleton_append, ← List.drop_eq_getElem_cons h, List.take_append_drop]
end
end DL

namespace DL
open PySem PySem.Spec PyProof.Rows L2
local macro_rules | `(tactic| walk_at "op") => `(tactic| first | assumption | with_reducible rfl | exact cat_w (by omega) | exact sub_nn (by omega) | exact add_nn | exact at_w (by omega) (by assumption) | exact len_w (by omega) | exact in_l1 | exact notin_l1 | exact in_t1 | exact notin_t1 | exact in_k1 | exact notin_k1 | exact in_wl | exact notin_wl | exact in_wt | exact notin_wt | exact in_kd | exact notin_kd | exact eq_ww | exact ne_ww | exact any_bl | exact all_bl | rfl)
local macro_rules | `(tactic| walk_at "ev") => `(tactic| first | with_reducible exact c0 | ((with_reducible apply v0); rfl) | with_reducible exact a0 | with_reducible assumption | ((with_reducible apply aCons_ev); (focus walk_at "ev"); (focus walk_at "ev")) | ((with_reducible apply bindA_ev); (focus walk_at "ev"); (focus walk_at "op")) | ((with_reducible apply bind2_ev); (focus walk_at "ev"); (focus walk_at "ev"); (focus walk_at "op")) | ((with_reducible apply bind1_ev); (focus walk_at "ev"); (focus walk_at "op")) | ((with_reducible apply asB_ev); (focus walk_at "ev")) | ((with_reducible apply call_ev); (focus walk_at "ev"); (focus first | assumption | rfl)) | ((with_reducible apply truF_ev); (focus walk_at "ev"); (focus first | assumption | rfl)) | ((with_reducible apply notT_ev); (focus walk_at "ev")) | ((with_reducible apply andT_e); (focus walk_at "ev"); (focus (intro hq; walk_at "ev"))) | ((with_reducible apply orT_e); (focus walk_at "ev"); (focus (intro hq; walk_at "ev"))) | ((with_reducible apply seq_tup); (focus walk_at "ev")) | ((with_reducible apply seq_lst); (focus walk_at "ev")) | ((with_reducible apply seq_str); (focus walk_at "ev")))
theorem log_le {b : Int} {k : Nat} (h : b.natAbs < 2 ^ (k + 1)) : b.natAbs.log2 ≤ k := by
  by_cases hb : b.natAbs = 0
  · rw [hb]; exact Nat.zero_le _
  · exact Nat.le_of_lt_succ ((Nat.log2_lt hb).mpr h)
end DL

namespace DL
open PySem PySem.Spec PyProof.Rows L2
end DL

namespace DL
open PySem PySem.Spec PyProof.Rows L2
end DL

namespace DL
open PySem PySem.Spec PyProof.Rows L2
local macro_rules | `(tactic| walk_at "op") => `(tactic| first | assumption | with_reducible rfl | exact cat_w (by omega) | exact sub_nn (by omega) | exact add_nn | exact at_w (by omega) (by assumption) | exact len_w (by omega) | exact in_l1 | exact notin_l1 | exact in_t1 | exact notin_t1 | exact in_k1 | exact notin_k1 | exact in_wl | exact notin_wl | exact in_wt | exact notin_wt | exact in_kd | exact notin_kd | exact eq_ww | exact ne_ww | exact any_bl | exact all_bl | rfl)
local macro_rules | `(tactic| walk_at "ev") => `(tactic| first | with_reducible exact c0 | ((with_reducible apply v0); rfl) | with_reducible exact a0 | with_reducible assumption | ((with_reducible apply aCons_ev); (focus walk_at "ev"); (focus walk_at "ev")) | ((with_reducible apply bindA_ev); (focus walk_at "ev"); (focus walk_at "op")) | ((with_reducible apply bind2_ev); (focus walk_at "ev"); (focus walk_at "ev"); (focus walk_at "op")) | ((with_reducible apply bind1_ev); (focus walk_at "ev"); (focus walk_at "op")) | ((with_reducible apply asB_ev); (focus walk_at "ev")) | ((with_reducible apply call_ev); (focus walk_at "ev"); (focus first | assumption | rfl)) | ((with_reducible apply truF_ev); (focus walk_at "ev"); (focus first | assumption | rfl)) | ((with_reducible apply notT_ev); (focus walk_at "ev")) | ((with_reducible apply andT_e); (focus walk_at "ev"); (focus (intro hq; walk_at "ev"))) | ((with_reducible apply orT_e); (focus walk_at "ev"); (focus (intro hq; walk_at "ev"))) | ((with_reducible apply seq_tup); (focus walk_at "ev")) | ((with_reducible apply seq_lst); (focus walk_at "ev")) | ((with_reducible apply seq_str); (focus walk_at "ev")))
local macro_rules | `(tactic| walk_at "w1") => `(tactic| with_reducible first | refine wS_seq ?_ | refine wS_set ?_ | refine wS_ret ?_ | refine wS_if ?_ | refine wS_skip ?_ | refine wS_drop ?_ | refine wS_unp ?_ | refine wE_b2 ?_ | refine wE_b1 ?_ | refine wE_bA ?_ | refine wE_bS ?_ | refine wE_call ?_ | refine wA_c ?_ | refine wA_n ?_ | refine wE_c ?_ | refine wO_n ?_ | refine wO_s ?_ | refine wT_asB ?_ | refine wT_tru ?_ | refine wT_not ?_ | refine wT_and ?_ | refine wT_or ?_ | refine wT_yes ?_ | refine wE_and ?_ | refine wE_or ?_ | refine wE_if ?_ | refine wI_seq ?_ | refine wI_rng ?_ | refine ex_bl ?_ | refine ex_trA ?_ | refine ex_trB ?_ | refine ex_nat ?_ | refine ex_int ?_ | refine ex_unT ?_ | refine ex_unL ?_ | refine and_t ?_ | refine and_f ?_ | refine and_nt ?_ | refine and_nf ?_)
local macro_rules | `(tactic| walk_at "w") => `(tactic| repeat (first | walk_at "w1" | refine wE_v (by rfl) ?_ | ((with_reducible refine wS_par2 ?_ ?_); focus (simp; done)) | ((with_reducible refine wS_par3 ?_ ?_); focus (simp; done)) | ((with_reducible refine wS_setN ?_ ?_); focus (simp; done)) | ((with_reducible apply ex_op); focus (first | exact seqOf_wd | with_reducible exact eq_ss | with_reducible exact ne_ss | with_reducible exact eq_ww | with_reducible exact ne_ww | with_reducible exact eq_ii | with_reducible exact ne_ii | with_reducible exact lt_ii | with_reducible exact gt_ii | with_reducible exact le_ii | with_reducible exact ge_ii | exact all_true' _ _ | walk_at "op")) ))
end DL

namespace DL
open PySem PySem.Spec PyProof.Rows L2
local macro_rules | `(tactic| walk_at "op") => `(tactic| first | assumption | with_reducible rfl | exact cat_w (by omega) | exact sub_nn (by omega) | exact add_nn | exact at_w (by omega) (by assumption) | exact len_w (by omega) | exact in_l1 | exact notin_l1 | exact in_t1 | exact notin_t1 | exact in_k1 | exact notin_k1 | exact in_wl | exact notin_wl | exact in_wt | exact notin_wt | exact in_kd | exact notin_kd | exact eq_ww | exact ne_ww | exact any_bl | exact all_bl | rfl)
local macro_rules | `(tactic| walk_at "ev") => `(tactic| first | with_reducible exact c0 | ((with_reducible apply v0); rfl) | with_reducible exact a0 | with_reducible assumption | ((with_reducible apply aCons_ev); (focus walk_at "ev"); (focus walk_at "ev")) | ((with_reducible apply bindA_ev); (focus walk_at "ev"); (focus walk_at "op")) | ((with_reducible apply bind2_ev); (focus walk_at "ev"); (focus walk_at "ev"); (focus walk_at "op")) | ((with_reducible apply bind1_ev); (focus walk_at "ev"); (focus walk_at "op")) | ((with_reducible apply asB_ev); (focus walk_at "ev")) | ((with_reducible apply call_ev); (focus walk_at "ev"); (focus first | assumption | rfl)) | ((with_reducible apply truF_ev); (focus walk_at "ev"); (focus first | assumption | rfl)) | ((with_reducible apply notT_ev); (focus walk_at "ev")) | ((with_reducible apply andT_e); (focus walk_at "ev"); (focus (intro hq; walk_at "ev"))) | ((with_reducible apply orT_e); (focus walk_at "ev"); (focus (intro hq; walk_at "ev"))) | ((with_reducible apply seq_tup); (focus walk_at "ev")) | ((with_reducible apply seq_lst); (focus walk_at "ev")) | ((with_reducible apply seq_str); (focus walk_at "ev")))
variable {dp : Fn} {Sp : Addr → Nat → Sto → Prop}
section
variable {α : Type} {enc : α → Dt} {te : Fe} {tt : Ft} {fi : Fi} {w env : Env} {k : Nat} {vs : List Nat} {s s1 : Sto} {p : Addr}
theorem lcL_sp (Q : Dt → Prop) (c N : Nat) : ∀ {xs : List α} {n : Nat} {s : Sto}, Sp p n s → n + c * xs.length ≤ N → (∀ x, x ∈ xs → ∀ n s, Sp p n s → n + c ≤ N → ∃ d s', te (w.set k (some (enc x))) s = some (d, s') ∧ Q d ∧ Sp p (n + c) s') →
    ∃ ds s', lcL (tgN k) yesT te w (xs.map enc) s = some (ds, s') ∧ ds.length = xs.length ∧ (∀ d ∈ ds, Q d) ∧ Sp p (n + c * xs.length) s'
  | [], n, s, h, _, _ => ⟨[], s, rfl, rfl, fun d hd => absurd hd List.not_mem_nil, h⟩
  | x :: xs, n, s, h, hn, hs => by
    rw [List.length_cons, Nat.mul_succ] at hn
    obtain ⟨d, s1, e1, q1, h1⟩ := hs x List.mem_cons_self n s h (by omega)
    obtain ⟨ds, s2, e2, l2, q2, h2⟩ := lcL_sp Q c N (xs := xs) (n := n + c) h1 (by omega) fun y hy => hs y (List.mem_cons_of_mem _ hy)
    refine ⟨d :: ds, s2, ?_, by rw [List.length_cons, l2, List.length_cons], fun z hz => (List.mem_cons.mp hz).elim (fun e => e ▸ q1) (q2 z), by rw [List.length_cons, Nat.mul_succ]; rw [show n + (c * xs.length + c) = n + c + c * xs.length by omega]; exact h2⟩
    rw [List.map_cons]
    unfold lcL
    simp only [tgN, yesT]
    rw [e1]
    dsimp only
    rw [e2]
theorem lc_sp (Q : Dt → Prop) (c N : Nat) {xs : List α} {n : Nat} (hi : fi env s = some (xs.map enc, s1)) (hl : xs.length ≤ 16777215) (h : Sp p n s1) (hn : n + c * xs.length ≤ N) (hs : ∀ x, x ∈ xs → ∀ n s, Sp p n s → n + c ≤ N → ∃ d s', te ((wipeE env vs).set k (some (enc x))) s = some (d, s') ∧ Q d ∧ Sp p (n + c) s') :
    ∃ ds s', lcF fi (tgN k) yesT te vs env s = some (.lst ds, s') ∧ ds.length = xs.length ∧ (∀ d ∈ ds, Q d) ∧ Sp p (n + c * xs.length) s' := by
  obtain ⟨ds, s', e, l, q, h'⟩ := lcL_sp (te := te) (w := wipeE env vs) (k := k) Q c N h hn hs
  refine ⟨ds, s', ?_, l, q, h'⟩
  unfold lcF
  rw [hi]
  dsimp only
  rw [e]
  dsimp only
  rw [if_pos (small (by omega))]
end
theorem parN_ev {is : List Nat} {fs : List Fe} {env : Env} {s s' : Sto} {ds : List Dt} (h1 : is.all (fun i => decide (i < env.length)) = true) (h2 : evalL fs env s = some (ds, s')) (h3 : is.length = ds.length) : parNS is fs env s = some (.nx (setL is ds env), s') := by
  unfold parNS
  rw [if_pos h1, h2]
  dsimp only
  rw [if_pos h3]
def poolN : List Nat := "qzaybxcwdvmeuftgshrinpk".toList.map Char.toNat
end DL

namespace DL
open PySem PySem.Spec PyProof.Rows L2
local macro_rules | `(tactic| walk_at "op") => `(tactic| first | assumption | with_reducible rfl | exact cat_w (by omega) | exact sub_nn (by omega) | exact add_nn | exact at_w (by omega) (by assumption) | exact len_w (by omega) | exact in_l1 | exact notin_l1 | exact in_t1 | exact notin_t1 | exact in_k1 | exact notin_k1 | exact in_wl | exact notin_wl | exact in_wt | exact notin_wt | exact in_kd | exact notin_kd | exact eq_ww | exact ne_ww | exact any_bl | exact all_bl | rfl)
local macro_rules | `(tactic| walk_at "ev") => `(tactic| first | with_reducible exact c0 | ((with_reducible apply v0); rfl) | with_reducible exact a0 | with_reducible assumption | ((with_reducible apply aCons_ev); (focus walk_at "ev"); (focus walk_at "ev")) | ((with_reducible apply bindA_ev); (focus walk_at "ev"); (focus walk_at "op")) | ((with_reducible apply bind2_ev); (focus walk_at "ev"); (focus walk_at "ev"); (focus walk_at "op")) | ((with_reducible apply bind1_ev); (focus walk_at "ev"); (focus walk_at "op")) | ((with_reducible apply asB_ev); (focus walk_at "ev")) | ((with_reducible apply call_ev); (focus walk_at "ev"); (focus first | assumption | rfl)) | ((with_reducible apply truF_ev); (focus walk_at "ev"); (focus first | assumption | rfl)) | ((with_reducible apply notT_ev); (focus walk_at "ev")) | ((with_reducible apply andT_e); (focus walk_at "ev"); (focus (intro hq; walk_at "ev"))) | ((with_reducible apply orT_e); (focus walk_at "ev"); (focus (intro hq; walk_at "ev"))) | ((with_reducible apply seq_tup); (focus walk_at "ev")) | ((with_reducible apply seq_lst); (focus walk_at "ev")) | ((with_reducible apply seq_str); (focus walk_at "ev")))
variable {dp : Fn} {Sp : Addr → Nat → Sto → Prop}
def sortE (E : Ents) : Ents := sortK (fun e : Nat × List Nat => strW [e.1]) E
theorem sortE_perm (E : Ents) : (sortE E).Perm E := sortK_perm E
theorem range_pre {n k : Nat} {pre post : List Nat} (h : List.range n = pre ++ k :: post) : k = pre.length ∧ k < n := by
  have hl := congrArg List.length h
  rw [List.length_range, List.length_append, List.length_cons] at hl
  have h1 : (List.range n)[pre.length]? = some k := by rw [h, List.getElem?_append_right (Nat.le_refl _), Nat.sub_self]; rfl
  rw [List.getElem?_range (by omega)] at h1
  cases h1
  exact ⟨rfl, by omega⟩
structure RowE (L : List Nat) (E : Ents) : Prop where
  fst : E.map (·.1) = L
  nd : ∀ e ∈ E, e.2.Nodup
  sub : ∀ e ∈ E, ∀ d ∈ e.2, d ∈ L
  lt : ∀ e ∈ E, e.2.Pairwise (· < ·)
theorem cl_of {L : List Nat} {E : Ents} (h : RowE L E) (hnd : L.Nodup) (hL : L.length ≤ 8) (hlo : ∀ c ∈ L, 97 ≤ c ∧ c ≤ 122) : ClE (sortE E) where
  ok := ⟨by rw [((sortE_perm E).map _).nodup_iff, h.fst]; exact hnd, fun e he => by
    have m := (sortE_perm E).mem_iff.mp he
    have := nodup_le (h.nd e m) (h.sub e m)
    omega⟩
  cl := fun e he d hd => by
    rw [((sortE_perm E).map _).mem_iff, h.fst]
    exact h.sub e ((sortE_perm E).mem_iff.mp he) d hd
  n := by
    rw [(sortE_perm E).length_eq]
    have := congrArg List.length h.fst
    rw [List.length_map] at this
    omega
  lo := fun c hc => by
    rw [((sortE_perm E).map _).mem_iff, h.fst] at hc
    exact hlo c hc

end DL

namespace DL
open PySem PySem.Spec PyProof.Rows L2
local macro_rules | `(tactic| walk_at "op") => `(tactic| first | assumption | with_reducible rfl | exact cat_w (by omega) | exact sub_nn (by omega) | exact add_nn | exact at_w (by omega) (by assumption) | exact len_w (by omega) | exact in_l1 | exact notin_l1 | exact in_t1 | exact notin_t1 | exact in_k1 | exact notin_k1 | exact in_wl | exact notin_wl | exact in_wt | exact notin_wt | exact in_kd | exact notin_kd | exact eq_ww | exact ne_ww | exact any_bl | exact all_bl | rfl)
local macro_rules | `(tactic| walk_at "ev") => `(tactic| first | with_reducible exact c0 | ((with_reducible apply v0); rfl) | with_reducible exact a0 | with_reducible assumption | ((with_reducible apply aCons_ev); (focus walk_at "ev"); (focus walk_at "ev")) | ((with_reducible apply bindA_ev); (focus walk_at "ev"); (focus walk_at "op")) | ((with_reducible apply bind2_ev); (focus walk_at "ev"); (focus walk_at "ev"); (focus walk_at "op")) | ((with_reducible apply bind1_ev); (focus walk_at "ev"); (focus walk_at "op")) | ((with_reducible apply asB_ev); (focus walk_at "ev")) | ((with_reducible apply call_ev); (focus walk_at "ev"); (focus first | assumption | rfl)) | ((with_reducible apply truF_ev); (focus walk_at "ev"); (focus first | assumption | rfl)) | ((with_reducible apply notT_ev); (focus walk_at "ev")) | ((with_reducible apply andT_e); (focus walk_at "ev"); (focus (intro hq; walk_at "ev"))) | ((with_reducible apply orT_e); (focus walk_at "ev"); (focus (intro hq; walk_at "ev"))) | ((with_reducible apply seq_tup); (focus walk_at "ev")) | ((with_reducible apply seq_lst); (focus walk_at "ev")) | ((with_reducible apply seq_str); (focus walk_at "ev")))
variable {dp : Fn} {Sp : Addr → Nat → Sto → Prop}
theorem join_ones {s : Sto} {w : List Nat} (h : w.length ≤ 100000) : joinG s (.str "") (.lst (onesD w)) = some (wd w) := by
  have e : onesD w = (w.map fun c => strW [c]).map Dt.str := by unfold onesD; rw [List.map_map]; rfl
  unfold joinG
  dsimp only
  rw [e, strsOf_map]
  dsimp only
  rw [join_w, if_pos]
  · rfl
  have h3 := sum_le (l := w.map fun c => strW [c]) (k := 1) fun x hx => by
    obtain ⟨c, _, rfl⟩ := List.mem_map.mp hx
    exact Nat.le_refl 1
  rw [List.length_map] at h3
  have h4 : ("" : Str).length = 0 := rfl
  rw [h4]
  omega
theorem ones_of {L : List Nat} : ∀ {ds : List Dt}, (∀ d ∈ ds, d ∈ onesD L) → ∃ w : List Nat, ds = onesD w ∧ w.length = ds.length ∧ ∀ c ∈ w, c ∈ L
  | [], _ => ⟨[], rfl, rfl, fun c hc => absurd hc List.not_mem_nil⟩
  | d :: ds, h => by
    obtain ⟨w, e, hl, hc⟩ := ones_of (ds := ds) fun z hz => h z (List.mem_cons_of_mem _ hz)
    obtain ⟨c, hcm, rfl⟩ := List.mem_map.mp (h d List.mem_cons_self)
    refine ⟨c :: w, by rw [e]; rfl, by rw [List.length_cons, List.length_cons, hl], fun x hx => ?_⟩
    rcases List.mem_cons.mp hx with rfl | hx
    · exact hcm
    · exact hc x hx
theorem picks_sp (D : Dip dp Sp) {p : Addr} {n m k ip il : Nat} {L : List Nat} {env : Env} {vs : List Nat} {f : Fe} {s s1 : Sto} (hf : rngF1 f env s = some ((List.range m).map fun i => .int (0 + ((i : Nat) : Int)), s1)) (hm : m ≤ 100000) (hL : L ≠ []) (hl : L.length ≤ 1000) (h : Sp p n s1) (hn : n + m < 900000)
    (hp : ∀ d : Dt, ((wipeE env vs).set k (some d))[ip]? = some (some (.ref p))) (hi : ∀ d : Dt, ((wipeE env vs).set k (some d))[il]? = some (some (.lst (onesD L)))) :
    ∃ (w : List Nat) (s' : Sto), bind2 (toStrOnly (fC (.str ""))) (lcF (rngF1 f) (tgN k) yesT (callF (V_law_pick_k01 dp) (aCons (fVar ip) (aCons (fVar il) aNil))) vs) joinG env s = some (wd w, s') ∧ w.length = m ∧ (∀ c ∈ w, c ∈ L) ∧ Sp p (n + m) s' := by
  have hne : onesD L ≠ [] := by
    cases L with
    | nil => exact absurd rfl hL
    | cons => exact fun z => by cases z
  obtain ⟨ds, s2, e, hlen, hq, h2⟩ := lc_sp (te := callF (V_law_pick_k01 dp) (aCons (fVar ip) (aCons (fVar il) aNil))) (k := k) (vs := vs) (env := env) (s := s) (fun d => d ∈ onesD L) 1 900000 (xs := List.range m) (enc := fun i => .int (0 + ((i : Nat) : Int))) hf (by rw [List.length_range]; omega) h (by rw [List.length_range]; omega) (fun x hx n s h hn => by
    obtain ⟨d, s', e, hd, h'⟩ := pick_sp D (ds := onesD L) h (by omega) hne (by rw [List.length_map]; omega)
    exact ⟨d, s', call_ev (aCons_ev (v0 (hp _)) (aCons_ev (v0 (hi _)) a0)) e, hd, h'⟩)
  obtain ⟨w, rfl, hwl, hc⟩ := ones_of hq
  rw [List.length_range] at hlen h2
  rw [Nat.one_mul] at h2
  exact ⟨w, s2, bind2_ev (x := .str "") rfl e (join_ones (by omega)), by omega, hc, h2⟩
def ruL (L : List Nat) : Ru → Prop
  | .put c v _ => c ∈ L ∧ (∀ a ∈ v, a ∈ L) ∧ v ≠ [c] ∧ v.length ≤ 3
  | .drop n _ => 1 ≤ n ∧ n ≤ 4
  | _ => True
theorem eq_ones {s : Sto} {L : List Nat} (h : ∀ c ∈ L, 97 ≤ c ∧ c ≤ 122) : eqG s (.lst (onesD L)) (.lst []) = some (.bl L.isEmpty) :=
  eq_wds (l := L) (f := fun c => [c]) fun x hx c hc => by rw [List.mem_singleton.mp hc]; exact h x hx
structure Page (M R : Nat) (L : List Nat) (E : Ents) (rs : List Ru) : Prop where
  n : L.length ≤ M
  nd : L.Nodup
  lo : ∀ c ∈ L, 97 ≤ c ∧ c ≤ 122
  row : RowE L E
  rn : rs.length ≤ R
  ru : ∀ r ∈ rs, ruL L r
  pl : ∀ c ∈ L, c ∈ poolN
theorem lword_sp (D : Dip dp Sp) {p : Addr} {n M : Nat} {L : List Nat} {s : Sto} (hM : M ≤ 100) (hM1 : 1 ≤ M) (hL : L.length ≤ 8) (hlo : ∀ c ∈ L, 97 ≤ c ∧ c ≤ 122) (h : Sp p n s) (hn : n < 800000) :
    ∃ w s', (V_law_word_k01 dp) [.ref p, .lst (onesD L), .int ((M : Nat) : Int)] s = some (wd w, s') ∧ (∀ c ∈ w, c ∈ L) ∧ w.length ≤ M ∧ Sp p (n + (M + 2)) s' := by
  have t0 : asB (bind2 (fVar 1) (bindA aNil lstG) eqG) [some (.ref p), some (.lst (onesD L)), some (.int ((M : Nat) : Int)), none, none] s = some (L.isEmpty, s) := asB_ev (bind2_ev (v0 rfl) (bindA_ev a0 rfl) (eq_ones hlo))
  cases hq : L.isEmpty with
  | true =>
    rw [hq] at t0
    exact ⟨[], s, fn_rt (seq_rt ((if_t t0).trans (ret_ev c0))), fun c hc => absurd hc List.not_mem_nil, Nat.zero_le _, D.mono h (by omega)⟩
  | false =>
    rw [hq] at t0
    have hne : L ≠ [] := fun z => by rw [z] at hq; cases hq
    obtain ⟨r, s1, e1, r1, r2, h1⟩ := D.draw (m := 2) h (by omega) (by decide) (by decide)
    obtain ⟨m, s2, e2, hm, h2⟩ : ∃ (m : Nat) (s2 : Sto), ifV (asB (bind2 (callF dp (aCons (fVar 0) (aCons (fC (.int 2)) aNil))) (fC (.int 0)) eqG)) (bind2 (fVar 2) (callF dp (aCons (fVar 0) (aCons (fC (.int 2)) aNil))) subG) (callF dp (aCons (fVar 0) (aCons (bind2 (fVar 2) (fC (.int 1)) addAll) aNil))) [some (.ref p), some (.lst (onesD L)), some (.int ((M : Nat) : Int)), none, none] s = some (.int ((m : Nat) : Int), s2) ∧ m ≤ M ∧ Sp p (n + 2) s2 := by
      have t : asB (bind2 (callF dp (aCons (fVar 0) (aCons (fC (.int 2)) aNil))) (fC (.int 0)) eqG) [some (.ref p), some (.lst (onesD L)), some (.int ((M : Nat) : Int)), none, none] s = some (decide (r = 0), s1) := asB_ev (bind2_ev (call_ev (aCons_ev (v0 rfl) (aCons_ev c0 a0)) e1) c0 rfl)
      by_cases h0 : r = 0
      · rw [decide_eq_true h0] at t
        obtain ⟨q, s2, e2, q1, q2, h2⟩ := D.draw (m := 2) h1 (by omega) (by decide) (by decide)
        obtain ⟨k, rfl⟩ := Int.eq_ofNat_of_zero_le q1
        exact ⟨M - k, s2, (ifV_t t).trans (bind2_ev (v0 rfl) (call_ev (aCons_ev (v0 rfl) (aCons_ev c0 a0)) e2) (sub_nn (by omega))), by omega, h2⟩
      · rw [decide_eq_false h0] at t
        obtain ⟨q, s2, e2, q1, q2, h2⟩ := D.draw (m := ((M + 1 : Nat) : Int)) h1 (by omega) (by omega) (by omega)
        obtain ⟨m, rfl⟩ := Int.eq_ofNat_of_zero_le q1
        exact ⟨m, s2, (ifV_f t).trans (call_ev (aCons_ev (v0 rfl) (aCons_ev (bind2_ev (v0 rfl) c0 add_n1) a0)) e2), by omega, h2⟩
    obtain ⟨w, s3, e3, hwl, hw, h3⟩ := picks_sp D (m := m) (k := 4) (ip := 0) (il := 1) (vs := [4]) (L := L) (env := [some (.ref p), some (.lst (onesD L)), some (.int ((M : Nat) : Int)), some (.int ((m : Nat) : Int)), none]) (f := fVar 3) (s := s2)
      (rng_ev (m := ((m : Nat) : Int)) (v0 rfl) (by omega) (by omega)) (by omega) hne (by omega) h2 (by omega) (fun _ => rfl) fun _ => rfl
    exact ⟨w, s3, fn_rt ((seq_nx ((if_f t0).trans rfl)).trans ((seq_nx (set_ev e2)).trans (ret_ev e3))), hw, by omega, D.mono h3 (by omega)⟩
end DL

namespace DL
open PySem PySem.Spec PyProof.Rows L2
local macro_rules | `(tactic| walk_at "op") => `(tactic| first | assumption | with_reducible rfl | exact cat_w (by omega) | exact sub_nn (by omega) | exact add_nn | exact at_w (by omega) (by assumption) | exact len_w (by omega) | exact in_l1 | exact notin_l1 | exact in_t1 | exact notin_t1 | exact in_k1 | exact notin_k1 | exact in_wl | exact notin_wl | exact in_wt | exact notin_wt | exact in_kd | exact notin_kd | exact eq_ww | exact ne_ww | exact any_bl | exact all_bl | rfl)
local macro_rules | `(tactic| walk_at "ev") => `(tactic| first | with_reducible exact c0 | ((with_reducible apply v0); rfl) | with_reducible exact a0 | with_reducible assumption | ((with_reducible apply aCons_ev); (focus walk_at "ev"); (focus walk_at "ev")) | ((with_reducible apply bindA_ev); (focus walk_at "ev"); (focus walk_at "op")) | ((with_reducible apply bind2_ev); (focus walk_at "ev"); (focus walk_at "ev"); (focus walk_at "op")) | ((with_reducible apply bind1_ev); (focus walk_at "ev"); (focus walk_at "op")) | ((with_reducible apply asB_ev); (focus walk_at "ev")) | ((with_reducible apply call_ev); (focus walk_at "ev"); (focus first | assumption | rfl)) | ((with_reducible apply truF_ev); (focus walk_at "ev"); (focus first | assumption | rfl)) | ((with_reducible apply notT_ev); (focus walk_at "ev")) | ((with_reducible apply andT_e); (focus walk_at "ev"); (focus (intro hq; walk_at "ev"))) | ((with_reducible apply orT_e); (focus walk_at "ev"); (focus (intro hq; walk_at "ev"))) | ((with_reducible apply seq_tup); (focus walk_at "ev")) | ((with_reducible apply seq_lst); (focus walk_at "ev")) | ((with_reducible apply seq_str); (focus walk_at "ev")))
def lowB (E : Ents) (a c : Nat) : Bool := decide (a = c) || decide (a ∈ downN E c)
abbrev LowP (E : Ents) : Nat → Nat → Prop := fun a c => lowB E a c = true
theorem lowP_iff {E : Ents} (h : ClE E) {a c : Nat} : LowP E a c ↔ a = c ∨ Rch E c a := by
  show lowB E a c = true ↔ _
  unfold lowB
  rw [Bool.or_eq_true, decide_eq_true_iff, decide_eq_true_iff, down_mem h]
theorem lowP_trans {E : Ents} (h : ClE E) {a b c : Nat} (h1 : LowP E a b) (h2 : LowP E b c) : LowP E a c := by
  rw [lowP_iff h] at *
  rcases h1 with rfl | h1
  · exact h2
  · rcases h2 with rfl | h2
    · exact .inr h1
    · exact .inr (h2.trans h1)
section
variable {P : Nat → Nat → Prop}
theorem Emb.trans (hp : ∀ {a b c}, P a b → P b c → P a c) {x y z : List Nat} (h : Emb P x y) (h' : Emb P y z) : Emb P x z := by
  induction h' generalizing x with
  | nil v => cases h with | nil => exact .nil _
  | skip _ ih => exact .skip (ih h)
  | take p _ ih =>
    cases h with
    | nil => exact .nil _
    | skip h => exact .skip (ih h)
    | take q h => exact .take (hp q p) (ih h)
theorem Emb.len {u v : List Nat} (h : Emb P u v) : u.length ≤ v.length := by
  induction h with
  | nil v => exact Nat.zero_le _
  | skip _ ih => exact Nat.le_succ_of_le ih
  | take _ _ ih => exact Nat.succ_le_succ ih
theorem Emb.snoc {u v : List Nat} {c : Nat} : Emb P u (v ++ [c]) ↔ Emb P u v ∨ ∃ t a, u = t ++ [a] ∧ Emb P t v ∧ P a c := by
  constructor
  · intro h
    generalize hx : v ++ [c] = x at h
    induction h generalizing v with
    | nil _ => exact .inl (.nil _)
    | @skip d u' v' h ih =>
      cases v with
      | nil =>
        cases hx
        cases h
        exact .inl (.nil _)
      | cons e v =>
        cases hx
        rcases ih rfl with z | ⟨t, a, e1, e2, e3⟩
        · exact .inl (.skip z)
        · exact .inr ⟨t, a, e1, .skip e2, e3⟩
    | @take b d u' v' p h ih =>
      cases v with
      | nil =>
        cases hx
        cases h
        exact .inr ⟨[], b, rfl, .nil _, p⟩
      | cons e v =>
        cases hx
        rcases ih rfl with z | ⟨t, a, e1, e2, e3⟩
        · exact .inl (.take p z)
        · exact .inr ⟨b :: t, a, by rw [e1]; rfl, .take p e2, e3⟩
  · rintro (h | ⟨t, a, rfl, h, p⟩)
    · have := h.app (.nil [c] : Emb P [] [c])
      rwa [List.append_nil] at this
    · exact h.app (.take p (.nil []))
end
def addU (K : List (List Nat)) (x : List Nat) : List (List Nat) := if x ∈ K then K else K ++ [x]
theorem addU_mem {K : List (List Nat)} {x y : List Nat} : y ∈ addU K x ↔ y ∈ K ∨ y = x := by
  unfold addU
  split
  · rename_i h
    exact ⟨.inl, fun z => z.elim (fun z => z) fun z => z ▸ h⟩
  · rw [List.mem_append, List.mem_singleton]
def addsU (K l : List (List Nat)) : List (List Nat) := l.foldl addU K
theorem addsU_mem {y : List Nat} : ∀ {l K : List (List Nat)}, y ∈ addsU K l ↔ y ∈ K ∨ y ∈ l
  | [], K => ⟨.inl, fun h => h.elim (fun z => z) fun z => absurd z List.not_mem_nil⟩
  | x :: l, K => by
    show y ∈ addsU (addU K x) l ↔ _
    rw [addsU_mem, addU_mem, List.mem_cons, or_assoc]
def moreW (E : Ents) (c : Nat) (t : List Nat) : List (List Nat) := (c :: downN E c).map fun a => t ++ [a]
def tamS (E : Ents) (K : List (List Nat)) (c : Nat) : List (List Nat) := addsU K (K.flatMap (moreW E c))
def tamN (E : Ents) (w : List Nat) : List (List Nat) := w.foldl (tamS E) [[]]
theorem tam_snoc (E : Ents) (w : List Nat) (c : Nat) : tamN E (w ++ [c]) = tamS E (tamN E w) c := by unfold tamN; rw [List.foldl_append]; rfl
theorem moreW_mem {E : Ents} {c : Nat} {t y : List Nat} : y ∈ moreW E c t ↔ ∃ a, y = t ++ [a] ∧ LowP E a c := by
  unfold moreW
  rw [List.mem_map]
  constructor
  · rintro ⟨a, ha, rfl⟩
    refine ⟨a, rfl, ?_⟩
    show lowB E a c = true
    unfold lowB
    rcases List.mem_cons.mp ha with rfl | ha
    · rw [decide_eq_true rfl]; rfl
    · rw [decide_eq_true ha, Bool.or_true]
  · rintro ⟨a, rfl, ha⟩
    refine ⟨a, ?_, rfl⟩
    have ha' : lowB E a c = true := ha
    unfold lowB at ha'
    rw [Bool.or_eq_true, decide_eq_true_iff, decide_eq_true_iff] at ha'
    exact List.mem_cons.mpr ha'
theorem list_snoc {α : Type} {p : List α → Prop} (h0 : p []) (h1 : ∀ l a, p l → p (l ++ [a])) (l : List α) : p l := by
  have key : ∀ n (l : List α), l.length = n → p l := by
    intro n
    induction n with
    | zero => intro l hl; rw [List.eq_nil_of_length_eq_zero hl]; exact h0
    | succ n ih =>
      intro l hl
      have hne : l ≠ [] := fun z => by rw [z] at hl; cases hl
      rw [← List.dropLast_concat_getLast hne]
      exact h1 _ _ (ih _ (by rw [List.length_dropLast]; omega))
  exact key l.length l rfl
theorem tam_mem {E : Ents} (w : List Nat) : ∀ {y : List Nat}, y ∈ tamN E w ↔ Emb (LowP E) y w := by
  refine list_snoc (p := fun w => ∀ {y : List Nat}, y ∈ tamN E w ↔ Emb (LowP E) y w) ?_ ?_ w
  · intro y
    show y ∈ [[]] ↔ _
    rw [List.mem_singleton]
    constructor
    · rintro rfl; exact .nil _
    · intro h
      have := h.len
      exact List.eq_nil_of_length_eq_zero (by simpa using this)
  · intro w c ih y
    rw [tam_snoc, Emb.snoc]
    unfold tamS
    rw [addsU_mem, ih, List.mem_flatMap]
    refine or_congr_right ?_
    constructor
    · rintro ⟨t, ht, hy⟩
      obtain ⟨a, rfl, ha⟩ := moreW_mem.mp hy
      exact ⟨t, a, rfl, ih.mp ht, ha⟩
    · rintro ⟨t, a, rfl, ht, ha⟩
      exact ⟨t, ih.mpr ht, moreW_mem.mpr ⟨a, rfl, ha⟩⟩
theorem flat_len {α β : Type} {f : α → List β} {m : Nat} : ∀ {l : List α}, (∀ x ∈ l, (f x).length ≤ m) → (l.flatMap f).length ≤ l.length * m
  | [], _ => Nat.zero_le _
  | x :: l, h => by
    rw [List.flatMap_cons, List.length_append, List.length_cons, Nat.succ_mul]
    have h1 := h x List.mem_cons_self
    have h2 := flat_len (l := l) fun y hy => h y (List.mem_cons_of_mem _ hy)
    omega
def sortW (K : List (List Nat)) : List (List Nat) := sortK (fun w => strW w) K
theorem sortW_eq {K K' : List (List Nat)} (h : K.Nodup) (h' : K'.Nodup) (e : ∀ y, y ∈ K ↔ y ∈ K') : sortW K = sortW K' := by
  have p : K.Perm K' := (List.perm_ext_iff_of_nodup h h').mpr e
  exact sortK_eq ((sortK_perm K).trans p) (sortK_sorted K) fun a b _ _ z => strW_inj z
end DL

namespace DL
open PySem PySem.Spec PyProof.Rows L2
local macro_rules | `(tactic| walk_at "op") => `(tactic| first | assumption | with_reducible rfl | exact cat_w (by omega) | exact sub_nn (by omega) | exact add_nn | exact at_w (by omega) (by assumption) | exact len_w (by omega) | exact in_l1 | exact notin_l1 | exact in_t1 | exact notin_t1 | exact in_k1 | exact notin_k1 | exact in_wl | exact notin_wl | exact in_wt | exact notin_wt | exact in_kd | exact notin_kd | exact eq_ww | exact ne_ww | exact any_bl | exact all_bl | rfl)
local macro_rules | `(tactic| walk_at "ev") => `(tactic| first | with_reducible exact c0 | ((with_reducible apply v0); rfl) | with_reducible exact a0 | with_reducible assumption | ((with_reducible apply aCons_ev); (focus walk_at "ev"); (focus walk_at "ev")) | ((with_reducible apply bindA_ev); (focus walk_at "ev"); (focus walk_at "op")) | ((with_reducible apply bind2_ev); (focus walk_at "ev"); (focus walk_at "ev"); (focus walk_at "op")) | ((with_reducible apply bind1_ev); (focus walk_at "ev"); (focus walk_at "op")) | ((with_reducible apply asB_ev); (focus walk_at "ev")) | ((with_reducible apply call_ev); (focus walk_at "ev"); (focus first | assumption | rfl)) | ((with_reducible apply truF_ev); (focus walk_at "ev"); (focus first | assumption | rfl)) | ((with_reducible apply notT_ev); (focus walk_at "ev")) | ((with_reducible apply andT_e); (focus walk_at "ev"); (focus (intro hq; walk_at "ev"))) | ((with_reducible apply orT_e); (focus walk_at "ev"); (focus (intro hq; walk_at "ev"))) | ((with_reducible apply seq_tup); (focus walk_at "ev")) | ((with_reducible apply seq_lst); (focus walk_at "ev")) | ((with_reducible apply seq_str); (focus walk_at "ev")))
section
variable {α : Type} {enc : α → Dt} {fi : Fi} {tk te : Fe} {w env : Env} {k : Nat} {vs : List Nat} {s s1 : Sto} {f : α → List Nat} {g : α → Dt}
theorem dcL_e : ∀ {xs pre : List α}, ((pre ++ xs).map f).Nodup → (pre ++ xs).length < 16777215 → (∀ x, x ∈ xs → tk (w.set k (some (enc x))) s = some (wd (f x), s)) → (∀ x, x ∈ xs → te (w.set k (some (enc x))) s = some (g x, s)) →
    dcL (tgN k) yesT tk te w (xs.map enc) (pre.map fun x => (.inr (strW (f x)), g x)) s = some ((pre ++ xs).map fun x => (.inr (strW (f x)), g x), s)
  | [], pre, _, _, _, _ => by rw [List.append_nil]; rfl
  | x :: xs, pre, hn, hl, h1, h2 => by
    rw [List.map_cons]
    unfold dcL
    simp only [tgN, yesT]
    rw [h1 x List.mem_cons_self]
    dsimp only
    rw [h2 x List.mem_cons_self]
    dsimp only
    have hk : keyOf (wd (f x)) = some (.inr (strW (f x))) := rfl
    rw [hk]
    dsimp only
    rw [if_pos (by rw [List.length_map]; exact small' (by rw [List.length_append, List.length_cons] at hl; omega))]
    have hx : f x ∉ pre.map f := fun hm => by
      rw [List.map_append] at hn
      exact (List.nodup_append.mp hn).2.2 _ hm _ List.mem_cons_self rfl
    rw [put_new hx]
    have ih := dcL_e (xs := xs) (pre := pre ++ [x]) (by rw [List.append_assoc]; exact hn) (by rw [List.append_assoc]; exact hl) (fun y hy => h1 y (List.mem_cons_of_mem _ hy)) fun y hy => h2 y (List.mem_cons_of_mem _ hy)
    rw [List.map_append, List.append_assoc] at ih
    exact ih
theorem dc_e {xs : List α} (hi : fi env s = some (xs.map enc, s1)) (hn : (xs.map f).Nodup) (hl : xs.length < 16777215) (h1 : ∀ x, x ∈ xs → tk ((wipeE env vs).set k (some (enc x))) s1 = some (wd (f x), s1)) (h2 : ∀ x, x ∈ xs → te ((wipeE env vs).set k (some (enc x))) s1 = some (g x, s1)) :
    dcF fi (tgN k) yesT tk te vs env s = some (.dct (xs.map fun x => (.inr (strW (f x)), g x)), s1) := by
  unfold dcF
  rw [hi]
  dsimp only
  have := dcL_e (tk := tk) (te := te) (w := wipeE env vs) (k := k) (s := s1) (f := f) (g := g) (xs := xs) (pre := []) hn hl h1 h2
  have e : dcL (tgN k) yesT tk te (wipeE env vs) (xs.map enc) [] s1 = some (xs.map fun x => (.inr (strW (f x)), g x), s1) := this
  rw [e]
end
section
variable {E : Ents} {s : Sto}
theorem get_kd {g : Nat → Dt} {c : Nat} : ∀ {l : List Nat}, c ∈ l → valD (l.map fun c => ((.inr (strW [c]) : Key), g c)) (.inr (strW [c])) = some (g c)
  | [], h => absurd h List.not_mem_nil
  | d :: l, h => by
    have ih := get_kd (g := g) (c := c) (l := l)
    rw [List.map_cons]
    unfold valD at ih ⊢
    rw [List.find?_cons]
    by_cases e : d = c
    · subst e
      rw [show decide ((.inr (strW [d]) : Key) = .inr (strW [d])) = true from decide_eq_true rfl]
      rfl
    · rw [show decide ((.inr (strW [d]) : Key) = .inr (strW [c])) = false from decide_eq_false fun z => e (by have := strW_inj (Sum.inr.inj z); cases this; rfl)]
      exact ih ((List.mem_cons.mp h).elim (fun z => absurd z.symm e) fun z => z)
end

end DL

namespace DL
open PySem PySem.Spec PyProof.Rows L2
local macro_rules | `(tactic| walk_at "op") => `(tactic| first | assumption | with_reducible rfl | exact cat_w (by omega) | exact sub_nn (by omega) | exact add_nn | exact at_w (by omega) (by assumption) | exact len_w (by omega) | exact in_l1 | exact notin_l1 | exact in_t1 | exact notin_t1 | exact in_k1 | exact notin_k1 | exact in_wl | exact notin_wl | exact in_wt | exact notin_wt | exact in_kd | exact notin_kd | exact eq_ww | exact ne_ww | exact any_bl | exact all_bl | rfl)
local macro_rules | `(tactic| walk_at "ev") => `(tactic| first | with_reducible exact c0 | ((with_reducible apply v0); rfl) | with_reducible exact a0 | with_reducible assumption | ((with_reducible apply aCons_ev); (focus walk_at "ev"); (focus walk_at "ev")) | ((with_reducible apply bindA_ev); (focus walk_at "ev"); (focus walk_at "op")) | ((with_reducible apply bind2_ev); (focus walk_at "ev"); (focus walk_at "ev"); (focus walk_at "op")) | ((with_reducible apply bind1_ev); (focus walk_at "ev"); (focus walk_at "op")) | ((with_reducible apply asB_ev); (focus walk_at "ev")) | ((with_reducible apply call_ev); (focus walk_at "ev"); (focus first | assumption | rfl)) | ((with_reducible apply truF_ev); (focus walk_at "ev"); (focus first | assumption | rfl)) | ((with_reducible apply notT_ev); (focus walk_at "ev")) | ((with_reducible apply andT_e); (focus walk_at "ev"); (focus (intro hq; walk_at "ev"))) | ((with_reducible apply orT_e); (focus walk_at "ev"); (focus (intro hq; walk_at "ev"))) | ((with_reducible apply seq_tup); (focus walk_at "ev")) | ((with_reducible apply seq_lst); (focus walk_at "ev")) | ((with_reducible apply seq_str); (focus walk_at "ev")))

end DL

namespace DL
open PySem PySem.Spec PyProof.Rows L2
end DL

namespace DL
open PySem PySem.Spec PyProof.Rows L2
local macro_rules | `(tactic| walk_at "op") => `(tactic| first | assumption | with_reducible rfl | exact cat_w (by omega) | exact sub_nn (by omega) | exact add_nn | exact at_w (by omega) (by assumption) | exact len_w (by omega) | exact in_l1 | exact notin_l1 | exact in_t1 | exact notin_t1 | exact in_k1 | exact notin_k1 | exact in_wl | exact notin_wl | exact in_wt | exact notin_wt | exact in_kd | exact notin_kd | exact eq_ww | exact ne_ww | exact any_bl | exact all_bl | rfl)
local macro_rules | `(tactic| walk_at "ev") => `(tactic| first | with_reducible exact c0 | ((with_reducible apply v0); rfl) | with_reducible exact a0 | with_reducible assumption | ((with_reducible apply aCons_ev); (focus walk_at "ev"); (focus walk_at "ev")) | ((with_reducible apply bindA_ev); (focus walk_at "ev"); (focus walk_at "op")) | ((with_reducible apply bind2_ev); (focus walk_at "ev"); (focus walk_at "ev"); (focus walk_at "op")) | ((with_reducible apply bind1_ev); (focus walk_at "ev"); (focus walk_at "op")) | ((with_reducible apply asB_ev); (focus walk_at "ev")) | ((with_reducible apply call_ev); (focus walk_at "ev"); (focus first | assumption | rfl)) | ((with_reducible apply truF_ev); (focus walk_at "ev"); (focus first | assumption | rfl)) | ((with_reducible apply notT_ev); (focus walk_at "ev")) | ((with_reducible apply andT_e); (focus walk_at "ev"); (focus (intro hq; walk_at "ev"))) | ((with_reducible apply orT_e); (focus walk_at "ev"); (focus (intro hq; walk_at "ev"))) | ((with_reducible apply seq_tup); (focus walk_at "ev")) | ((with_reducible apply seq_lst); (focus walk_at "ev")) | ((with_reducible apply seq_str); (focus walk_at "ev")))
structure BIn (r a r' a' pre : List Nat) : Prop where
  nd : r'.Nodup
  sub : ∀ x ∈ r', x ∈ r ∨ x ∈ pre
  old : ∀ x ∈ r, x ∈ r'
  al : ∀ x ∈ pre, x ∈ r'
  aold : ∀ x ∈ a, x ∈ a'
  anew : ∀ x ∈ a', x ∈ a ∨ x ∈ r'
  rnew : ∀ x ∈ r', x ∈ r ∨ x ∈ a'
  len : a'.length + r.length = a.length + r'.length
theorem BIn.start {r a : List Nat} (h : r.Nodup) : BIn r a r a [] := ⟨h, fun x hx => .inl hx, fun x hx => hx, fun x hx => absurd hx List.not_mem_nil, fun x hx => hx, fun x hx => .inl hx, fun x hx => .inl hx, rfl⟩
theorem BIn.skip {r a r' a' pre : List Nat} {d : Nat} (h : BIn r a r' a' pre) (hd : d ∈ r') : BIn r a r' a' (pre ++ [d]) :=
  ⟨h.nd, fun x hx => (h.sub x hx).imp (fun z => z) fun z => List.mem_append_left _ z, h.old, fun x hx => (List.mem_append.mp hx).elim (h.al x) fun z => by rw [List.mem_singleton.mp z]; exact hd, h.aold, h.anew, h.rnew, h.len⟩
theorem BIn.take {r a r' a' pre : List Nat} {d : Nat} (h : BIn r a r' a' pre) (hd : d ∉ r') : BIn r a (r' ++ [d]) (a' ++ [d]) (pre ++ [d]) where
  nd := List.nodup_append.mpr ⟨h.nd, List.pairwise_singleton _ _, fun x hx y hy e => hd (by rw [List.mem_singleton.mp hy] at e; exact e ▸ hx)⟩
  sub := fun x hx => (List.mem_append.mp hx).elim (fun z => (h.sub x z).imp (fun z => z) fun z => List.mem_append_left _ z) fun z => .inr (List.mem_append_right _ z)
  old := fun x hx => List.mem_append_left _ (h.old x hx)
  al := fun x hx => (List.mem_append.mp hx).elim (fun z => List.mem_append_left _ (h.al x z)) fun z => List.mem_append_right _ z
  aold := fun x hx => List.mem_append_left _ (h.aold x hx)
  anew := fun x hx => (List.mem_append.mp hx).elim (fun z => (h.anew x z).imp (fun z => z) fun z => List.mem_append_left _ z) fun z => .inr (List.mem_append_right _ z)
  rnew := fun x hx => (List.mem_append.mp hx).elim (fun z => (h.rnew x z).imp (fun z => z) fun z => List.mem_append_left _ z) fun z => .inr (List.mem_append_right _ z)
  len := by have := h.len; rw [List.length_append, List.length_append, List.length_singleton]; omega
structure Bel (E : Ents) (c : Nat) (r a : List Nat) : Prop where
  nd : r.Nodup
  rr : ∀ x ∈ r, Rch E c x
  ra : ∀ x ∈ a, x = c ∨ x ∈ r
  on : ∀ x, x = c ∨ x ∈ r → x ∈ a ∨ ∀ d ∈ lesN E x, d ∈ r
theorem Bel.go {E : Ents} {c d : Nat} {r a r' a' : List Nat} (h : Bel E c r (a ++ [d])) (i : BIn r a r' a' (lesN E d)) : Bel E c r' a' where
  nd := i.nd
  rr := fun x hx => by
    rcases i.sub x hx with z | z
    · exact h.rr x z
    · rcases h.ra d (List.mem_append_right _ List.mem_cons_self) with rfl | hd
      · exact .one z
      · exact .more (h.rr d hd) z
  ra := fun x hx => by
    rcases i.anew x hx with z | z
    · exact (h.ra x (List.mem_append_left _ z)).imp (fun z => z) fun z => i.old x z
    · exact .inr z
  on := fun x hx => by
    have main : x = c ∨ x ∈ r → x ∈ a' ∨ ∀ d ∈ lesN E x, d ∈ r' := fun hx => by
      rcases h.on x hx with z | z
      · rcases List.mem_append.mp z with z | z
        · exact .inl (i.aold x z)
        · rw [List.mem_singleton.mp z]; exact .inr i.al
      · exact .inr fun d hd => i.old d (z d hd)
    rcases hx with hx | hx
    · exact main (.inl hx)
    · rcases i.rnew x hx with z | z
      · exact main (.inr z)
      · exact .inl z
theorem Bel.all {E : Ents} {c : Nat} {r : List Nat} (h : Bel E c r []) (x : Nat) : x ∈ r ↔ Rch E c x := by
  refine ⟨h.rr x, fun z => ?_⟩
  have cl : ∀ x, x = c ∨ x ∈ r → ∀ d ∈ lesN E x, d ∈ r := fun x hx => (h.on x hx).elim (fun z => absurd z List.not_mem_nil) fun z => z
  induction z with
  | one h => exact cl _ (.inl rfl) _ h
  | more _ h ih => exact cl _ (.inr ih) _ h
theorem Bel.start (E : Ents) (c : Nat) : Bel E c [] [c] := ⟨.nil, fun x hx => absurd hx List.not_mem_nil, fun x hx => .inl (List.mem_singleton.mp hx), fun x hx => .inl (hx.elim (fun e => List.mem_singleton.mpr e) fun z => absurd z List.not_mem_nil)⟩

end DL

namespace DL
open PySem PySem.Spec PyProof.Rows L2
end DL

namespace DL
open PySem PySem.Spec PyProof.Rows L2
local macro_rules | `(tactic| walk_at "op") => `(tactic| first | assumption | with_reducible rfl | exact cat_w (by omega) | exact sub_nn (by omega) | exact add_nn | exact at_w (by omega) (by assumption) | exact len_w (by omega) | exact in_l1 | exact notin_l1 | exact in_t1 | exact notin_t1 | exact in_k1 | exact notin_k1 | exact in_wl | exact notin_wl | exact in_wt | exact notin_wt | exact in_kd | exact notin_kd | exact eq_ww | exact ne_ww | exact any_bl | exact all_bl | rfl)
local macro_rules | `(tactic| walk_at "ev") => `(tactic| first | with_reducible exact c0 | ((with_reducible apply v0); rfl) | with_reducible exact a0 | with_reducible assumption | ((with_reducible apply aCons_ev); (focus walk_at "ev"); (focus walk_at "ev")) | ((with_reducible apply bindA_ev); (focus walk_at "ev"); (focus walk_at "op")) | ((with_reducible apply bind2_ev); (focus walk_at "ev"); (focus walk_at "ev"); (focus walk_at "op")) | ((with_reducible apply bind1_ev); (focus walk_at "ev"); (focus walk_at "op")) | ((with_reducible apply asB_ev); (focus walk_at "ev")) | ((with_reducible apply call_ev); (focus walk_at "ev"); (focus first | assumption | rfl)) | ((with_reducible apply truF_ev); (focus walk_at "ev"); (focus first | assumption | rfl)) | ((with_reducible apply notT_ev); (focus walk_at "ev")) | ((with_reducible apply andT_e); (focus walk_at "ev"); (focus (intro hq; walk_at "ev"))) | ((with_reducible apply orT_e); (focus walk_at "ev"); (focus (intro hq; walk_at "ev"))) | ((with_reducible apply seq_tup); (focus walk_at "ev")) | ((with_reducible apply seq_lst); (focus walk_at "ev")) | ((with_reducible apply seq_str); (focus walk_at "ev")))
theorem while_rm {c : Ft} {F : Fs} (R : Nat → Env → Sto → Prop) (P : Out → Sto → Prop) (hs : ∀ n env s, R n env s → (c env s = some (false, s) ∧ P (.nx env) s) ∨ ∃ s1, c env s = some (true, s1) ∧ ((∃ e' s' m, F env s1 = some (.nx e', s') ∧ m < n ∧ R m e' s') ∨ ∃ d s', F env s1 = some (.rt d, s') ∧ P (.rt d) s')) :
    ∀ (n : Nat) (env : Env) (s : Sto), R n env s → ∃ o s', whileL c F (n + 1) env s = some (o, s') ∧ P o s' := by
  intro n
  induction n using Nat.strongRecOn with
  | ind n ih =>
    intro env s h
    rcases hs n env s h with ⟨h1, h2⟩ | ⟨s1, h1, ⟨e', s', m, h2, h3, h4⟩ | ⟨d, s', h2, h3⟩⟩
    · exact ⟨_, s, by unfold whileL; rw [h1], h2⟩
    · obtain ⟨e2, s2, h5, h6⟩ := ih m h3 e' s' h4
      refine ⟨e2, s2, ?_, h6⟩
      unfold whileL
      rw [h1]
      dsimp only
      rw [h2]
      exact whileL_mono h5 (by omega)
    · exact ⟨.rt d, s', by unfold whileL; rw [h1]; dsimp only; rw [h2], h3⟩
theorem while_r {c : Ft} {F : Fs} {n : Nat} {env : Env} {s : Sto} (R : Nat → Env → Sto → Prop) (P : Out → Sto → Prop) (h0 : R n env s) (hn : n < FUEL) (hs : ∀ n env s, R n env s → (c env s = some (false, s) ∧ P (.nx env) s) ∨ ∃ s1, c env s = some (true, s1) ∧ ((∃ e' s' m, F env s1 = some (.nx e', s') ∧ m < n ∧ R m e' s') ∨ ∃ d s', F env s1 = some (.rt d, s') ∧ P (.rt d) s')) :
    ∃ o s', whileS c F FUEL env s = some (o, s') ∧ P o s' := by
  obtain ⟨o, s', h1, h2⟩ := while_rm R P hs n env s h0
  exact ⟨o, s', whileL_mono h1 hn, h2⟩
def stepK (E : Ents) (x : List Nat) (k : Nat) : List (List Nat) := (x.take k ++ x.drop (k + 1)) :: (lesN E (x.getD k 0)).map fun d => x.take k ++ [d] ++ x.drop (k + 1)
def stepW (E : Ents) (x : List Nat) : List (List Nat) := (List.range x.length).flatMap (stepK E x)
theorem low_refl {E : Ents} (c : Nat) : LowP E c c := by show lowB E c c = true; unfold lowB; rw [decide_eq_true rfl]; rfl
theorem step_emb {E : Ents} (h : ClE E) {x y : List Nat} (hy : y ∈ stepW E x) : Emb (LowP E) y x := by
  obtain ⟨k, hk, hy⟩ := List.mem_flatMap.mp hy
  have hk' := List.mem_range.mp hk
  have e := split_at hk'
  have key : ∀ m, Emb (LowP E) m [x.getD k 0] → Emb (LowP E) (x.take k ++ m ++ x.drop (k + 1)) x := fun m hm => by
    have := ((Emb.refl low_refl (x.take k)).app hm).app (Emb.refl low_refl (x.drop (k + 1)))
    rw [← e] at this
    exact this
  rcases List.mem_cons.mp hy with rfl | hy
  · have := key [] (.nil _)
    rwa [List.append_nil] at this
  · obtain ⟨d, hd, rfl⟩ := List.mem_map.mp hy
    exact key [d] (.take ((lowP_iff h).mpr (.inr (.one hd))) (.nil _))
theorem step_at {E : Ents} {p v : List Nat} {c : Nat} : p ++ v ∈ stepW E (p ++ c :: v) ∧ ∀ d ∈ lesN E c, p ++ d :: v ∈ stepW E (p ++ c :: v) := by
  have hk : p.length ∈ List.range (p ++ c :: v).length := List.mem_range.mpr (by rw [List.length_append, List.length_cons]; omega)
  have e1 : (p ++ c :: v).take p.length = p := List.take_left
  have e2 : (p ++ c :: v).drop (p.length + 1) = v := by rw [List.drop_append]; simp
  have e3 : (p ++ c :: v).getD p.length 0 = c := by rw [List.getD_eq_getElem?_getD, List.getElem?_append_right (Nat.le_refl _), Nat.sub_self]; rfl
  refine ⟨List.mem_flatMap.mpr ⟨_, hk, ?_⟩, fun d hd => List.mem_flatMap.mpr ⟨_, hk, ?_⟩⟩
  · unfold stepK
    rw [e1, e2]
    exact List.mem_cons_self
  · unfold stepK
    rw [e1, e2, e3]
    refine List.mem_cons_of_mem _ (List.mem_map.mpr ⟨d, hd, ?_⟩)
    rw [List.append_assoc]; rfl
theorem closed_all {E : Ents} (h : ClE E) {K : List (List Nat)} (hK : ∀ x ∈ K, ∀ y ∈ stepW E x, y ∈ K) {u v : List Nat} (he : Emb (LowP E) u v) : ∀ {p : List Nat}, p ++ v ∈ K → p ++ u ∈ K := by
  induction he with
  | nil v =>
    induction v with
    | nil => exact fun h => h
    | cons c v ih => exact fun {p} hp => ih (hK _ hp _ step_at.1)
  | @skip c u v _ ih => exact fun {p} hp => ih (hK _ hp _ step_at.1)
  | @take a c u v q _ ih =>
    intro p hp
    have h1 : p ++ a :: v ∈ K := by
      rcases (lowP_iff h).mp q with rfl | z
      · exact hp
      · induction z with
        | one z => exact hK _ hp _ (step_at.2 _ z)
        | more _ z ih2 => exact hK _ (ih2 ((lowP_iff h).mpr (.inr (by assumption)))) _ (step_at.2 _ z)
    have h2 := ih (p := p ++ [a]) (by rw [List.append_assoc]; exact h1)
    rw [List.append_assoc] at h2
    exact h2
structure Wal (E : Ents) (w : List Nat) (K a : List (List Nat)) : Prop where
  nd : K.Nodup
  kk : ∀ x ∈ K, Emb (LowP E) x w
  aa : ∀ x ∈ a, Emb (LowP E) x w
  st : w ∈ K ∨ w ∈ a
  on : ∀ x ∈ K, ∀ y ∈ stepW E x, y ∈ K ∨ y ∈ a
theorem Wal.skip {E : Ents} {w x : List Nat} {K a : List (List Nat)} (h : Wal E w K (a ++ [x])) (hx : x ∈ K) : Wal E w K a where
  nd := h.nd
  kk := h.kk
  aa := fun y hy => h.aa y (List.mem_append_left _ hy)
  st := h.st.elim .inl fun z => (List.mem_append.mp z).elim .inr fun z => .inl (by rw [List.mem_singleton.mp z]; exact hx)
  on := fun y hy z hz => (h.on y hy z hz).elim .inl fun q => (List.mem_append.mp q).elim .inr fun q => .inl (by rw [List.mem_singleton.mp q]; exact hx)
theorem Wal.take {E : Ents} (hE : ClE E) {w x : List Nat} {K a : List (List Nat)} (h : Wal E w K (a ++ [x])) (hx : x ∉ K) : Wal E w (K ++ [x]) (a ++ stepW E x) where
  nd := List.nodup_append.mpr ⟨h.nd, List.pairwise_singleton _ _, fun y hy z hz e => hx (by rw [List.mem_singleton.mp hz] at e; exact e ▸ hy)⟩
  kk := fun y hy => (List.mem_append.mp hy).elim (h.kk y) fun z => by rw [List.mem_singleton.mp z]; exact h.aa x (List.mem_append_right _ List.mem_cons_self)
  aa := fun y hy => (List.mem_append.mp hy).elim (fun z => h.aa y (List.mem_append_left _ z)) fun z => Emb.trans (P := LowP E) (fun h1 h2 => lowP_trans hE h1 h2) (step_emb hE z) (h.aa x (List.mem_append_right _ List.mem_cons_self))
  st := h.st.elim (fun z => .inl (List.mem_append_left _ z)) fun z => (List.mem_append.mp z).elim (fun z => .inr (List.mem_append_left _ z)) fun z => .inl (List.mem_append_right _ z)
  on := fun y hy z hz => by
    rcases List.mem_append.mp hy with q | q
    · rcases h.on y q z hz with r | r
      · exact .inl (List.mem_append_left _ r)
      · rcases List.mem_append.mp r with r | r
        · exact .inr (List.mem_append_left _ r)
        · exact .inl (List.mem_append_right _ r)
    · rw [List.mem_singleton.mp q] at hz
      exact .inr (List.mem_append_right _ hz)
theorem Wal.all {E : Ents} (hE : ClE E) {w : List Nat} {K : List (List Nat)} (h : Wal E w K []) (y : List Nat) : y ∈ K ↔ y ∈ tamN E w := by
  rw [tam_mem]
  refine ⟨h.kk y, fun z => ?_⟩
  have hw : w ∈ K := h.st.elim (fun z => z) fun z => absurd z List.not_mem_nil
  exact closed_all hE (fun x hx y hy => (h.on x hx y hy).elim (fun z => z) fun z => absurd z List.not_mem_nil) z (p := []) hw
theorem Wal.few {E : Ents} {w : List Nat} {K a : List (List Nat)} (h : Wal E w K a) : K.length ≤ (tamN E w).length := by
  have key : ∀ {l m : List (List Nat)}, l.Nodup → (∀ x ∈ l, x ∈ m) → l.length ≤ m.length := by
    intro l
    induction l with
    | nil => exact fun _ _ => Nat.zero_le _
    | cons x l ih =>
      intro m h hs
      obtain ⟨h1, h2⟩ := List.nodup_cons.mp h
      have ih := ih (m := m.erase x) h2 fun y hy => (List.mem_erase_of_ne (fun e => h1 (by rw [← e]; exact hy))).mpr (hs y (List.mem_cons_of_mem _ hy))
      have hx := hs x List.mem_cons_self
      have := List.length_erase_of_mem hx
      have := List.length_pos_of_mem hx
      rw [List.length_cons]
      omega
  exact key h.nd fun x hx => (tam_mem w).mpr (h.kk x hx)


end DL

namespace DL
open PySem PySem.Spec PyProof.Rows L2
local macro_rules | `(tactic| walk_at "op") => `(tactic| first | assumption | with_reducible rfl | exact cat_w (by omega) | exact sub_nn (by omega) | exact add_nn | exact at_w (by omega) (by assumption) | exact len_w (by omega) | exact in_l1 | exact notin_l1 | exact in_t1 | exact notin_t1 | exact in_k1 | exact notin_k1 | exact in_wl | exact notin_wl | exact in_wt | exact notin_wt | exact in_kd | exact notin_kd | exact eq_ww | exact ne_ww | exact any_bl | exact all_bl | rfl)
local macro_rules | `(tactic| walk_at "ev") => `(tactic| first | with_reducible exact c0 | ((with_reducible apply v0); rfl) | with_reducible exact a0 | with_reducible assumption | ((with_reducible apply aCons_ev); (focus walk_at "ev"); (focus walk_at "ev")) | ((with_reducible apply bindA_ev); (focus walk_at "ev"); (focus walk_at "op")) | ((with_reducible apply bind2_ev); (focus walk_at "ev"); (focus walk_at "ev"); (focus walk_at "op")) | ((with_reducible apply bind1_ev); (focus walk_at "ev"); (focus walk_at "op")) | ((with_reducible apply asB_ev); (focus walk_at "ev")) | ((with_reducible apply call_ev); (focus walk_at "ev"); (focus first | assumption | rfl)) | ((with_reducible apply truF_ev); (focus walk_at "ev"); (focus first | assumption | rfl)) | ((with_reducible apply notT_ev); (focus walk_at "ev")) | ((with_reducible apply andT_e); (focus walk_at "ev"); (focus (intro hq; walk_at "ev"))) | ((with_reducible apply orT_e); (focus walk_at "ev"); (focus (intro hq; walk_at "ev"))) | ((with_reducible apply seq_tup); (focus walk_at "ev")) | ((with_reducible apply seq_lst); (focus walk_at "ev")) | ((with_reducible apply seq_str); (focus walk_at "ev")))

end DL

namespace DL
open PySem PySem.Spec PyProof.Rows L2
local macro_rules | `(tactic| walk_at "op") => `(tactic| first | assumption | with_reducible rfl | exact cat_w (by omega) | exact sub_nn (by omega) | exact add_nn | exact at_w (by omega) (by assumption) | exact len_w (by omega) | exact in_l1 | exact notin_l1 | exact in_t1 | exact notin_t1 | exact in_k1 | exact notin_k1 | exact in_wl | exact notin_wl | exact in_wt | exact notin_wt | exact in_kd | exact notin_kd | exact eq_ww | exact ne_ww | exact any_bl | exact all_bl | rfl)
local macro_rules | `(tactic| walk_at "ev") => `(tactic| first | with_reducible exact c0 | ((with_reducible apply v0); rfl) | with_reducible exact a0 | with_reducible assumption | ((with_reducible apply aCons_ev); (focus walk_at "ev"); (focus walk_at "ev")) | ((with_reducible apply bindA_ev); (focus walk_at "ev"); (focus walk_at "op")) | ((with_reducible apply bind2_ev); (focus walk_at "ev"); (focus walk_at "ev"); (focus walk_at "op")) | ((with_reducible apply bind1_ev); (focus walk_at "ev"); (focus walk_at "op")) | ((with_reducible apply asB_ev); (focus walk_at "ev")) | ((with_reducible apply call_ev); (focus walk_at "ev"); (focus first | assumption | rfl)) | ((with_reducible apply truF_ev); (focus walk_at "ev"); (focus first | assumption | rfl)) | ((with_reducible apply notT_ev); (focus walk_at "ev")) | ((with_reducible apply andT_e); (focus walk_at "ev"); (focus (intro hq; walk_at "ev"))) | ((with_reducible apply orT_e); (focus walk_at "ev"); (focus (intro hq; walk_at "ev"))) | ((with_reducible apply seq_tup); (focus walk_at "ev")) | ((with_reducible apply seq_lst); (focus walk_at "ev")) | ((with_reducible apply seq_str); (focus walk_at "ev")))
theorem Emb.last {P : Nat → Nat → Prop} {u : List Nat} {a : Nat} (w : List Nat) : Emb P (u ++ [a]) w ↔ ∃ j, j < w.length ∧ P a (w.getD j 0) ∧ Emb P u (w.take j) := by
  refine list_snoc (p := fun w => Emb P (u ++ [a]) w ↔ ∃ j, j < w.length ∧ P a (w.getD j 0) ∧ Emb P u (w.take j)) ?_ (fun w c ih => ?_) w
  · constructor
    · intro h
      have := h.len
      rw [List.length_append, List.length_singleton] at this
      simp only [List.length_nil] at this
      omega
    · rintro ⟨j, h, _⟩
      exact absurd h (Nat.not_lt_zero _)
  · rw [Emb.snoc, ih]
    constructor
    · rintro (⟨j, h1, h2, h3⟩ | ⟨t, b, e, h, p⟩)
      · refine ⟨j, by rw [List.length_append]; omega, ?_, ?_⟩
        · rw [List.getD_eq_getElem?_getD, List.getElem?_append_left h1, ← List.getD_eq_getElem?_getD]; exact h2
        · rw [List.take_append_of_le_length (by omega)]; exact h3
      · have e2 := List.append_inj' e rfl
        obtain ⟨rfl, e3⟩ := e2
        cases e3
        refine ⟨w.length, by rw [List.length_append, List.length_singleton]; omega, ?_, ?_⟩
        · rw [List.getD_eq_getElem?_getD, List.getElem?_append_right (Nat.le_refl _), Nat.sub_self]; exact p
        · rw [List.take_append_of_le_length (Nat.le_refl _), List.take_length]; exact h
    · rintro ⟨j, h1, h2, h3⟩
      rw [List.length_append, List.length_singleton] at h1
      by_cases hj : j < w.length
      · refine .inl ⟨j, hj, ?_, ?_⟩
        · rw [List.getD_eq_getElem?_getD, List.getElem?_append_left hj, ← List.getD_eq_getElem?_getD] at h2; exact h2
        · rw [List.take_append_of_le_length (by omega)] at h3; exact h3
      · have hj' : j = w.length := by omega
        subst hj'
        refine .inr ⟨u, a, rfl, ?_, ?_⟩
        · rw [List.take_append_of_le_length (Nat.le_refl _), List.take_length] at h3; exact h3
        · rw [List.getD_eq_getElem?_getD, List.getElem?_append_right (Nat.le_refl _), Nat.sub_self] at h2; exact h2
def condN (E : Ents) (v : List Nat) (a : Nat) (S : List Nat) (k : Nat) : Bool := lowB E a (v.getD k 0) && !(S.filter fun q => decide (q ≤ k)).isEmpty
def nextN (E : Ents) (v : List Nat) (a : Nat) (S : List Nat) : List Nat := ((List.range v.length).filter (condN E v a S)).map (· + 1)
structure Spt (E : Ents) (v u S : List Nat) : Prop where
  at_ : ∀ k, k ≤ v.length → ((∃ q ∈ S, q ≤ k) ↔ Emb (LowP E) u (v.take k))
  le : ∀ q ∈ S, q ≤ v.length
theorem filt_ne {S : List Nat} {k : Nat} : (!(S.filter fun q => decide (q ≤ k)).isEmpty) = true ↔ ∃ q ∈ S, q ≤ k := by
  rw [Bool.not_eq_true', List.isEmpty_eq_false_iff]
  constructor
  · intro h
    obtain ⟨q, hq⟩ := List.exists_mem_of_ne_nil _ h
    exact ⟨q, (List.mem_filter.mp hq).1, of_decide_eq_true (List.mem_filter.mp hq).2⟩
  · rintro ⟨q, h1, h2⟩ h
    have : q ∈ S.filter fun q => decide (q ≤ k) := List.mem_filter.mpr ⟨h1, decide_eq_true h2⟩
    rw [h] at this
    exact absurd this List.not_mem_nil
theorem Spt.next {E : Ents} {v u S : List Nat} (h : Spt E v u S) (a : Nat) : Spt E v (u ++ [a]) (nextN E v a S) where
  at_ := fun k hk => by
    rw [Emb.last]
    unfold nextN
    constructor
    · rintro ⟨q, hq, hqk⟩
      obtain ⟨j, hj, rfl⟩ := List.mem_map.mp hq
      obtain ⟨hj1, hj2⟩ := List.mem_filter.mp hj
      have hj1 := List.mem_range.mp hj1
      unfold condN at hj2
      rw [Bool.and_eq_true, filt_ne] at hj2
      refine ⟨j, by rw [List.length_take]; omega, ?_, ?_⟩
      · rw [List.getD_eq_getElem?_getD, List.getElem?_take_of_lt (by omega), ← List.getD_eq_getElem?_getD]; exact hj2.1
      · rw [List.take_take, Nat.min_eq_left (by omega)]; exact (h.at_ j (by omega)).mp hj2.2
    · rintro ⟨j, h1, h2, h3⟩
      rw [List.length_take] at h1
      rw [List.getD_eq_getElem?_getD, List.getElem?_take_of_lt (by omega), ← List.getD_eq_getElem?_getD] at h2
      rw [List.take_take, Nat.min_eq_left (by omega)] at h3
      refine ⟨j + 1, List.mem_map.mpr ⟨j, List.mem_filter.mpr ⟨List.mem_range.mpr (by omega), ?_⟩, rfl⟩, by omega⟩
      unfold condN
      rw [Bool.and_eq_true, filt_ne]
      exact ⟨h2, (h.at_ j (by omega)).mpr h3⟩
  le := fun q hq => by
    obtain ⟨j, hj, rfl⟩ := List.mem_map.mp hq
    have := List.mem_range.mp (List.mem_filter.mp hj).1
    omega

end DL

namespace DL
open PySem PySem.Spec PyProof.Rows L2
local macro_rules | `(tactic| walk_at "op") => `(tactic| first | assumption | with_reducible rfl | exact cat_w (by omega) | exact sub_nn (by omega) | exact add_nn | exact at_w (by omega) (by assumption) | exact len_w (by omega) | exact in_l1 | exact notin_l1 | exact in_t1 | exact notin_t1 | exact in_k1 | exact notin_k1 | exact in_wl | exact notin_wl | exact in_wt | exact notin_wt | exact in_kd | exact notin_kd | exact eq_ww | exact ne_ww | exact any_bl | exact all_bl | rfl)
local macro_rules | `(tactic| walk_at "ev") => `(tactic| first | with_reducible exact c0 | ((with_reducible apply v0); rfl) | with_reducible exact a0 | with_reducible assumption | ((with_reducible apply aCons_ev); (focus walk_at "ev"); (focus walk_at "ev")) | ((with_reducible apply bindA_ev); (focus walk_at "ev"); (focus walk_at "op")) | ((with_reducible apply bind2_ev); (focus walk_at "ev"); (focus walk_at "ev"); (focus walk_at "op")) | ((with_reducible apply bind1_ev); (focus walk_at "ev"); (focus walk_at "op")) | ((with_reducible apply asB_ev); (focus walk_at "ev")) | ((with_reducible apply call_ev); (focus walk_at "ev"); (focus first | assumption | rfl)) | ((with_reducible apply truF_ev); (focus walk_at "ev"); (focus first | assumption | rfl)) | ((with_reducible apply notT_ev); (focus walk_at "ev")) | ((with_reducible apply andT_e); (focus walk_at "ev"); (focus (intro hq; walk_at "ev"))) | ((with_reducible apply orT_e); (focus walk_at "ev"); (focus (intro hq; walk_at "ev"))) | ((with_reducible apply seq_tup); (focus walk_at "ev")) | ((with_reducible apply seq_lst); (focus walk_at "ev")) | ((with_reducible apply seq_str); (focus walk_at "ev")))
structure OkD (W D : Nat) (d : Dt) : Prop where
  g : good d = true
  w : wt d ≤ W
  d : dep d ≤ D
theorem okds {W D : Nat} : ∀ {ds : List Dt}, (∀ d ∈ ds, OkD W D d) → goods ds = true ∧ wts ds ≤ ds.length * (W + 2) ∧ deps ds ≤ D
  | [], _ => ⟨rfl, Nat.zero_le _, Nat.zero_le _⟩
  | d :: ds, h => by
    obtain ⟨a1, a2, a3⟩ := h d List.mem_cons_self
    obtain ⟨b1, b2, b3⟩ := okds (ds := ds) fun y hy => h y (List.mem_cons_of_mem _ hy)
    refine ⟨?_, ?_, ?_⟩
    · show (good d && goods ds) = true
      rw [a1, b1]; rfl
    · show wt d + 2 + wts ds ≤ _
      rw [List.length_cons, Nat.succ_mul]; omega
    · show max (dep d) (deps ds) ≤ D
      exact Nat.max_le.mpr ⟨a3, b3⟩
theorem OkD.tup {W D n : Nat} {ds : List Dt} (h : ∀ d ∈ ds, OkD W D d) (hn : ds.length ≤ n) : OkD (n * (W + 2) + 3) (D + 1) (.tup ds) := by
  obtain ⟨h1, h2, h3⟩ := okds h
  have := Nat.mul_le_mul_right (W + 2) hn
  exact ⟨h1, by show wts ds + 3 ≤ _; omega, Nat.succ_le_succ h3⟩
theorem OkD.lst {W D n : Nat} {ds : List Dt} (h : ∀ d ∈ ds, OkD W D d) (hn : ds.length ≤ n) : OkD (n * (W + 2) + 3) (D + 1) (.lst ds) := by
  obtain ⟨h1, h2, h3⟩ := okds h
  have := Nat.mul_le_mul_right (W + 2) hn
  exact ⟨h1, by show wts ds + 2 ≤ _; omega, Nat.succ_le_succ h3⟩
theorem OkD.mono {W D W' D' : Nat} {d : Dt} (h : OkD W D d) (h1 : W ≤ W') (h2 : D ≤ D') : OkD W' D' d := ⟨h.g, Nat.le_trans h.w h1, Nat.le_trans h.d h2⟩
theorem okd_wd {w : List Nat} (h : lowc w) {n : Nat} (hn : w.length ≤ n) : OkD (10 * n + 2) 0 (wd w) := ⟨wd_good h, by rw [wd_wt]; omega, Nat.le_refl _⟩
theorem OkD.repr {W D : Nat} {d : Dt} (h : OkD W D d) (hW : W ≤ 16777216) (hD : D ≤ 60) (s : Sto) : reprG s [d] = some (.str (showD d)) := if_pos ⟨h.g, Nat.le_trans h.w hW, Nat.le_trans h.d hD⟩
theorem OkD.shaped {W D : Nat} {d : Dt} (h : OkD W D d) (hD : D ≤ 60) : plain d = true ∧ SeqAt.shaped (py d) = true := by
  obtain ⟨p1, p2, _, _, p5⟩ := good_plain d h.g
  have := h.d
  refine ⟨p1, ?_⟩
  unfold SeqAt.shaped
  rw [p2, p5]
  exact decide_eq_true (by omega)
theorem okd_side (b : Bool) : OkD 60 0 (sideD b) := by cases b <;> exact ⟨by decide +kernel, by decide +kernel, by decide +kernel⟩
theorem log_small {n : Nat} (h : n ≤ 100) : ((n : Int)).natAbs.log2 ≤ 7 := log_le (by omega)
theorem okd_ru {r : Ru} (h1 : okR r = true) (h2 : lowRb r = true) : OkD 1000 1 r.d := by
  have st : ∀ x : Str, PyData.strOk x = true → x.length ≤ 10 → OkD 150 0 (.str x) := fun x h1 h2 => ⟨h1, by show 10 * x.length + 2 ≤ 150; omega, Nat.le_refl _⟩
  have key : ∀ ds : List Dt, ds.length ≤ 4 → (∀ d ∈ ds, OkD 150 0 d) → OkD 1000 1 (.tup ds) := fun ds hl h => (OkD.tup h hl).mono (by decide) (by decide)
  have sd : ∀ b, OkD 150 0 (sideD b) := fun b => (okd_side b).mono (by decide) (Nat.le_refl _)
  cases r with
  | drop n l =>
    refine key _ (by show 3 ≤ 4; decide) fun d hd => ?_
    rcases List.mem_cons.mp hd with rfl | hd
    · exact st _ (by decide +kernel) (by decide +kernel)
    rcases List.mem_cons.mp hd with rfl | hd
    · have hn : n ≤ 10 := of_decide_eq_true h1
      have := log_small (n := n) (by omega)
      exact ⟨decide_eq_true (by omega), by show ((n : Int)).natAbs.log2 + 2 ≤ 150; omega, Nat.le_refl _⟩
    rw [List.mem_singleton.mp hd]; exact sd l
  | half l =>
    refine key _ (by show 2 ≤ 4; decide) fun d hd => ?_
    rcases List.mem_cons.mp hd with rfl | hd
    · exact st _ (by decide +kernel) (by decide +kernel)
    rw [List.mem_singleton.mp hd]; exact sd l
  | empty =>
    refine key _ (by show 1 ≤ 4; decide) fun d hd => ?_
    rw [List.mem_singleton.mp hd]; exact st _ (by decide +kernel) (by decide +kernel)
  | lower l =>
    refine key _ (by show 2 ≤ 4; decide) fun d hd => ?_
    rcases List.mem_cons.mp hd with rfl | hd
    · exact st _ (by decide +kernel) (by decide +kernel)
    rw [List.mem_singleton.mp hd]; exact sd l
  | put c v l =>
    have hv : v.length ≤ 10 := of_decide_eq_true h1
    have hlow : ∀ a ∈ c :: v, 97 ≤ a ∧ a ≤ 122 := fun a ha => of_decide_eq_true (List.all_eq_true.mp h2 a ha)
    refine key _ (by show 4 ≤ 4; decide) fun d hd => ?_
    rcases List.mem_cons.mp hd with rfl | hd
    · exact st _ (by decide +kernel) (by decide +kernel)
    rcases List.mem_cons.mp hd with rfl | hd
    · exact (okd_wd (w := [c]) (n := 10) (fun a ha => hlow a (by rw [List.mem_singleton.mp ha]; exact List.mem_cons_self)) (show 1 ≤ 10 by decide)).mono (by decide) (Nat.le_refl _)
    rcases List.mem_cons.mp hd with rfl | hd
    · exact (okd_wd (w := v) (n := 10) (fun a ha => hlow a (List.mem_cons_of_mem _ ha)) hv).mono (by decide) (Nat.le_refl _)
    rw [List.mem_singleton.mp hd]; exact sd l
theorem okd_ones {l : List Nat} (h : lowc l) : ∀ d ∈ onesD l, OkD 12 0 d := fun d hd => by
  obtain ⟨c, hc, rfl⟩ := List.mem_map.mp hd
  exact okd_wd (n := 1) (fun a ha => by rw [List.mem_singleton.mp ha]; exact h c hc) (Nat.le_refl _)
theorem ru_okR {L : List Nat} {r : Ru} (h : ruL L r) (hlo : ∀ c ∈ L, 97 ≤ c ∧ c ≤ 122) : okR r = true ∧ lowRb r = true := by
  cases r with
  | drop n l => exact ⟨decide_eq_true (by have := h.2; omega), rfl⟩
  | half l => exact ⟨rfl, rfl⟩
  | empty => exact ⟨rfl, rfl⟩
  | lower l => exact ⟨rfl, rfl⟩
  | put c v l =>
    obtain ⟨h1, h2, _, h4⟩ := h
    refine ⟨decide_eq_true (by omega), ?_⟩
    unfold lowRb
    rw [List.all_eq_true]
    intro a ha
    refine decide_eq_true ?_
    rcases List.mem_cons.mp ha with rfl | ha
    · exact hlo a h1
    · exact hlo a (h2 a ha)
theorem Page.cl {M R : Nat} {L : List Nat} {E : Ents} {rs : List Ru} (h : Page M R L E rs) (hM : M ≤ 8) : ClE (sortE E) := cl_of h.row h.nd (Nat.le_trans h.n hM) h.lo
theorem Page.okR {M R : Nat} {L : List Nat} {E : Ents} {rs : List Ru} (h : Page M R L E rs) : ∀ r ∈ rs, DL.okR r = true ∧ lowRb r = true := fun r hr => ru_okR (h.ru r hr) h.lo
theorem Page.len {M R : Nat} {L : List Nat} {E : Ents} {rs : List Ru} (h : Page M R L E rs) : (sortE E).length = L.length := by
  have := congrArg List.length h.row.fst
  rw [List.length_map] at this
  rw [(sortE_perm E).length_eq, this]
theorem Page.fst {M R : Nat} {L : List Nat} {E : Ents} {rs : List Ru} (h : Page M R L E rs) (c : Nat) : c ∈ (sortE E).map (·.1) ↔ c ∈ L := by
  rw [((sortE_perm E).map _).mem_iff, h.row.fst]

end DL

namespace DL
open PySem PySem.Spec PyProof.Rows L2
local macro_rules | `(tactic| walk_at "op") => `(tactic| first | assumption | with_reducible rfl | exact cat_w (by omega) | exact sub_nn (by omega) | exact add_nn | exact at_w (by omega) (by assumption) | exact len_w (by omega) | exact in_l1 | exact notin_l1 | exact in_t1 | exact notin_t1 | exact in_k1 | exact notin_k1 | exact in_wl | exact notin_wl | exact in_wt | exact notin_wt | exact in_kd | exact notin_kd | exact eq_ww | exact ne_ww | exact any_bl | exact all_bl | rfl)
local macro_rules | `(tactic| walk_at "ev") => `(tactic| first | with_reducible exact c0 | ((with_reducible apply v0); rfl) | with_reducible exact a0 | with_reducible assumption | ((with_reducible apply aCons_ev); (focus walk_at "ev"); (focus walk_at "ev")) | ((with_reducible apply bindA_ev); (focus walk_at "ev"); (focus walk_at "op")) | ((with_reducible apply bind2_ev); (focus walk_at "ev"); (focus walk_at "ev"); (focus walk_at "op")) | ((with_reducible apply bind1_ev); (focus walk_at "ev"); (focus walk_at "op")) | ((with_reducible apply asB_ev); (focus walk_at "ev")) | ((with_reducible apply call_ev); (focus walk_at "ev"); (focus first | assumption | rfl)) | ((with_reducible apply truF_ev); (focus walk_at "ev"); (focus first | assumption | rfl)) | ((with_reducible apply notT_ev); (focus walk_at "ev")) | ((with_reducible apply andT_e); (focus walk_at "ev"); (focus (intro hq; walk_at "ev"))) | ((with_reducible apply orT_e); (focus walk_at "ev"); (focus (intro hq; walk_at "ev"))) | ((with_reducible apply seq_tup); (focus walk_at "ev")) | ((with_reducible apply seq_lst); (focus walk_at "ev")) | ((with_reducible apply seq_str); (focus walk_at "ev")))
def wE (f : Fe) (env : Env) (s : Sto) (Q : Dt → Sto → Prop) : Prop := ∃ d s', f env s = some (d, s') ∧ Q d s'
def wA (f : Fa) (env : Env) (s : Sto) (Q : List Dt → Sto → Prop) : Prop := ∃ d s', f env s = some (d, s') ∧ Q d s'
def wI (f : Fi) (env : Env) (s : Sto) (Q : List Dt → Sto → Prop) : Prop := ∃ d s', f env s = some (d, s') ∧ Q d s'
def wT (f : Ft) (env : Env) (s : Sto) (Q : Bool → Sto → Prop) : Prop := ∃ d s', f env s = some (d, s') ∧ Q d s'
def wO (f : Fo) (env : Env) (s : Sto) (Q : Option Int → Sto → Prop) : Prop := ∃ d s', f env s = some (d, s') ∧ Q d s'
def wF (F : List Dt → Sto → Option (Dt × Sto)) (ds : List Dt) (s : Sto) (Q : Dt → Sto → Prop) : Prop := ∃ d s', F ds s = some (d, s') ∧ Q d s'
def wS (F : Fs) (env : Env) (s : Sto) (N : Env → Sto → Prop) (R : Dt → Sto → Prop) : Prop := ∃ o s', F env s = some (o, s') ∧ ((∃ e, o = .nx e ∧ N e s') ∨ ∃ d, o = .rt d ∧ R d s')
section
variable {f g fa fb fc : Fe} {c c2 : Ft} {A B : Fs} {r : Fa} {env : Env} {s s' : Sto} {d x : Dt} {i j k m : Nat} {Q : Dt → Sto → Prop} {QA : List Dt → Sto → Prop} {QT : Bool → Sto → Prop} {N : Env → Sto → Prop} {R : Dt → Sto → Prop} {Fn : List Dt → Sto → Option (Dt × Sto)} {ds : List Dt}
theorem wF_eq (h : Fn ds s = some (d, s')) (q : Q d s') : wF Fn ds s Q := ⟨d, s', h, q⟩
theorem wE_eq (h : f env s = some (d, s')) (q : Q d s') : wE f env s Q := ⟨d, s', h, q⟩
theorem wF_out (h : wF Fn ds s fun d' s'' => d' = d ∧ s'' = s') : Fn ds s = some (d, s') := by obtain ⟨_, _, e, rfl, rfl⟩ := h; exact e
theorem wE_out (h : wE f env s fun d' s'' => d' = d ∧ s'' = s') : f env s = some (d, s') := by obtain ⟨_, _, e, rfl, rfl⟩ := h; exact e
theorem wF_fn {F : Fs} (h : wS F (ds.map some ++ List.replicate (m - ds.length) none) s (fun _ s' => Q .non s') Q) : wF (fnV m F) ds s Q := by
  obtain ⟨o, s', e, ⟨e', rfl, q⟩ | ⟨d, rfl, q⟩⟩ := h
  · exact ⟨_, s', fn_nx e, q⟩
  · exact ⟨_, s', fn_rt e, q⟩
theorem wE_v (h : env[i]? = some (some d)) (q : Q d s) : wE (fVar i) env s Q := ⟨d, s, v0 h, q⟩
theorem wE_c (q : Q d s) : wE (fC d) env s Q := ⟨d, s, rfl, q⟩
theorem wE_b2 {g : Sto → Dt → Dt → Option Dt} (h : wE fa env s fun x s1 => wE fb env s1 fun y s2 => ∃ z, g s2 x y = some z ∧ Q z s2) : wE (bind2 fa fb g) env s Q := by
  obtain ⟨x, s1, e1, y, s2, e2, z, e3, q⟩ := h
  exact ⟨z, s2, bind2_ev e1 e2 e3, q⟩
theorem wE_b1 {g : Sto → Dt → Option Dt} (h : wE fa env s fun x s1 => ∃ z, g s1 x = some z ∧ Q z s1) : wE (bind1 fa g) env s Q := by
  obtain ⟨x, s1, e1, z, e3, q⟩ := h
  exact ⟨z, s1, bind1_ev e1 e3, q⟩
theorem wE_bA {g : Sto → List Dt → Option Dt} (h : wA r env s fun x s1 => ∃ z, g s1 x = some z ∧ Q z s1) : wE (bindA r g) env s Q := by
  obtain ⟨x, s1, e1, z, e3, q⟩ := h
  exact ⟨z, s1, bindA_ev e1 e3, q⟩
theorem wE_bS {l h : Fo} {g : Sto → Dt → Option Int → Option Int → Option Dt} (w : wE fa env s fun x s1 => wO l env s1 fun a s2 => wO h env s2 fun b s3 => ∃ z, g s3 x a b = some z ∧ Q z s3) : wE (bindS fa l h g) env s Q := by
  obtain ⟨x, s1, e1, a, s2, e2, b, s3, e3, z, e4, q⟩ := w
  refine ⟨z, s3, ?_, q⟩
  unfold bindS
  rw [e1]; simp only [Option.bind_eq_bind, Option.bind_some]; rw [e2]; simp only [Option.bind_some]; rw [e3]; simp only [Option.bind_some]; rw [e4]; rfl
theorem wO_n {Q : Option Int → Sto → Prop} (q : Q none s) : wO oNone env s Q := ⟨none, s, rfl, q⟩
theorem wO_s {Q : Option Int → Sto → Prop} (h : wE f env s fun d s' => ∃ i, d = .int i ∧ Q (some i) s') : wO (oSome f) env s Q := by
  obtain ⟨d, s', e, i, rfl, q⟩ := h
  exact ⟨some i, s', by unfold oSome; rw [e], q⟩
theorem wA_n (q : QA [] s) : wA aNil env s QA := ⟨[], s, rfl, q⟩
theorem wA_c (h : wE f env s fun x s1 => wA r env s1 fun xs s2 => QA (x :: xs) s2) : wA (aCons f r) env s QA := by
  obtain ⟨x, s1, e1, xs, s2, e2, q⟩ := h
  exact ⟨_, s2, aCons_ev e1 e2, q⟩
theorem wE_call (h : wA r env s fun ds s1 => wF Fn ds s1 Q) : wE (callF Fn r) env s Q := by
  obtain ⟨x, s1, e1, d, s2, e2, q⟩ := h
  exact ⟨d, s2, call_ev e1 e2, q⟩
theorem wT_asB (h : wE f env s fun d s' => ∃ b, d = .bl b ∧ QT b s') : wT (asB f) env s QT := by
  obtain ⟨d, s', e, b, rfl, q⟩ := h
  exact ⟨b, s', asB_ev e, q⟩
theorem wT_tru (h : wE f env s fun d s' => ∃ b, truA s' d = some b ∧ QT b s') : wT (truF f) env s QT := by
  obtain ⟨d, s', e, b, e2, q⟩ := h
  exact ⟨b, s', truF_ev e e2, q⟩
theorem wT_not (h : wT c env s fun b s' => QT (!b) s') : wT (notT c) env s QT := by
  obtain ⟨b, s', e, q⟩ := h
  exact ⟨!b, s', notT_ev e, q⟩
theorem wT_and (h : wT c env s fun b s' => (b = true → wT c2 env s' QT) ∧ (b = false → QT false s')) : wT (andT c c2) env s QT := by
  obtain ⟨b, s', e, h1, h2⟩ := h
  cases b with
  | true =>
    obtain ⟨b, s2, e2, q⟩ := h1 rfl
    exact ⟨b, s2, by unfold andT; rw [e]; simpa using e2, q⟩
  | false => exact ⟨false, s', by unfold andT; rw [e]; rfl, h2 rfl⟩
theorem wT_or (h : wT c env s fun b s' => (b = true → QT true s') ∧ (b = false → wT c2 env s' QT)) : wT (orT c c2) env s QT := by
  obtain ⟨b, s', e, h1, h2⟩ := h
  cases b with
  | false =>
    obtain ⟨b, s2, e2, q⟩ := h2 rfl
    exact ⟨b, s2, by unfold orT; rw [e]; simpa using e2, q⟩
  | true => exact ⟨true, s', by unfold orT; rw [e]; rfl, h1 rfl⟩
theorem wT_yes (q : QT true s) : wT yesT env s QT := ⟨true, s, rfl, q⟩
theorem wE_and (h : wE f env s fun d s' => ∃ b, truB s' d = some b ∧ (b = true → wE g env s' Q) ∧ (b = false → Q d s')) : wE (andV f g) env s Q := by
  obtain ⟨d, s', e, b, e2, h1, h2⟩ := h
  cases b with
  | true =>
    obtain ⟨y, s2, e3, q⟩ := h1 rfl
    exact ⟨y, s2, by unfold andV; rw [e]; simp only [Option.bind_eq_bind, Option.bind_some]; rw [e2]; simpa using e3, q⟩
  | false => exact ⟨d, s', by unfold andV; rw [e]; simp only [Option.bind_eq_bind, Option.bind_some]; rw [e2]; rfl, h2 rfl⟩
theorem wE_or (h : wE f env s fun d s' => ∃ b, truB s' d = some b ∧ (b = true → Q d s') ∧ (b = false → wE g env s' Q)) : wE (orV f g) env s Q := by
  obtain ⟨d, s', e, b, e2, h1, h2⟩ := h
  cases b with
  | false =>
    obtain ⟨y, s2, e3, q⟩ := h2 rfl
    exact ⟨y, s2, by unfold orV; rw [e]; simp only [Option.bind_eq_bind, Option.bind_some]; rw [e2]; simpa using e3, q⟩
  | true => exact ⟨d, s', by unfold orV; rw [e]; simp only [Option.bind_eq_bind, Option.bind_some]; rw [e2]; rfl, h1 rfl⟩
theorem wE_if (h : wT c env s fun b s' => (b = true → wE f env s' Q) ∧ (b = false → wE g env s' Q)) : wE (ifV c f g) env s Q := by
  obtain ⟨b, s', e, h1, h2⟩ := h
  cases b with
  | true => obtain ⟨d, s2, e2, q⟩ := h1 rfl; exact ⟨d, s2, (ifV_t e).trans e2, q⟩
  | false => obtain ⟨d, s2, e2, q⟩ := h2 rfl; exact ⟨d, s2, (ifV_f e).trans e2, q⟩
theorem wS_seq (h : wS A env s (fun e s' => wS B e s' N R) R) : wS (seqS A B) env s N R := by
  obtain ⟨o, s', e, ⟨e', rfl, o2, s2, e2, q⟩ | ⟨d, rfl, q⟩⟩ := h
  · exact ⟨o2, s2, (seq_nx e).trans e2, q⟩
  · exact ⟨.rt d, s', seq_rt e, .inr ⟨d, rfl, q⟩⟩
theorem wS_skip (h : N env s) : wS skipS env s N R := ⟨.nx env, s, rfl, .inl ⟨env, rfl, h⟩⟩
theorem wS_set (h : wE f env s fun d s' => N (env.set i (some d)) s') : wS (setS i f) env s N R := by
  obtain ⟨d, s', e, q⟩ := h
  exact ⟨_, s', set_ev e, .inl ⟨_, rfl, q⟩⟩
theorem wS_setN (hi : i < env.length) (h : wE f env s fun d s' => N (env.set i (some d)) s') : wS (setNS i f) env s N R := by
  obtain ⟨d, s', e, q⟩ := h
  exact ⟨_, s', setN_ev hi e, .inl ⟨_, rfl, q⟩⟩
theorem wS_ret (h : wE f env s R) : wS (retS f) env s N R := by
  obtain ⟨d, s', e, q⟩ := h
  exact ⟨_, s', ret_ev e, .inr ⟨_, rfl, q⟩⟩
theorem wS_drop (h : wE f env s fun _ s' => N env s') : wS (dropS f) env s N R := by
  obtain ⟨d, s', e, q⟩ := h
  exact ⟨_, s', dropS_ev e, .inl ⟨_, rfl, q⟩⟩
theorem wS_if (h : wT c env s fun b s' => (b = true → wS A env s' N R) ∧ (b = false → wS B env s' N R)) : wS (ifS c A B) env s N R := by
  obtain ⟨b, s', e, h1, h2⟩ := h
  cases b with
  | true => obtain ⟨d, s2, e2, q⟩ := h1 rfl; exact ⟨d, s2, (if_t e).trans e2, q⟩
  | false => obtain ⟨d, s2, e2, q⟩ := h2 rfl; exact ⟨d, s2, (if_f e).trans e2, q⟩
theorem wS_unp (h : wE f env s fun d s' => ∃ x y, (d = .tup [x, y] ∨ d = .lst [x, y]) ∧ N ((env.set i (some x)).set k (some y)) s') : wS (unpS i k f) env s N R := by
  obtain ⟨d, s', e, x, y, rfl | rfl, q⟩ := h
  · exact ⟨_, s', unpT_ev e, .inl ⟨_, rfl, q⟩⟩
  · exact ⟨_, s', unpL_ev e, .inl ⟨_, rfl, q⟩⟩
theorem wS_par2 (hi : i < env.length ∧ k < env.length) (h : wE f env s fun x s1 => wE g env s1 fun y s2 => N ((env.set i (some x)).set k (some y)) s2) : wS (par2S i k f g) env s N R := by
  obtain ⟨x, s1, e1, y, s2, e2, q⟩ := h
  exact ⟨_, s2, par_ev hi e1 e2, .inl ⟨_, rfl, q⟩⟩
theorem wS_par3 (hi : i < env.length ∧ j < env.length ∧ k < env.length) (h : wE fa env s fun x s1 => wE fb env s1 fun y s2 => wE fc env s2 fun z s3 => N (((env.set i (some x)).set j (some y)).set k (some z)) s3) : wS (par3S i j k fa fb fc) env s N R := by
  obtain ⟨x, s1, e1, y, s2, e2, z, s3, e3, q⟩ := h
  refine ⟨_, s3, ?_, .inl ⟨_, rfl, q⟩⟩
  unfold par3S; rw [if_pos hi, e1]; dsimp only; rw [e2]; dsimp only; rw [e3]
theorem wS_app {l : List Dt} (hi : env[i]? = some (some (.lst l))) (h : wE f env s fun d s' => l.length < 16777215 ∧ N (env.set i (some (.lst (l ++ [d])))) s') : wS (appS i f) env s N R := by
  obtain ⟨d, s', e, hl, q⟩ := h
  exact ⟨_, s', app_ev e hi (small' hl), .inl ⟨_, rfl, q⟩⟩
theorem wS_dput {l : List (Key × Dt)} (hi : env[i]? = some (some (.dct l))) (h : wE fa env s fun v s1 => wE fb env s1 fun kd s2 => ∃ key, keyOf kd = some key ∧ l.length < 16777215 ∧ N (env.set i (some (.dct (putD l key v)))) s2) : wS (dputS i fb fa) env s N R := by
  obtain ⟨v, s1, e1, kd, s2, e2, key, hk, hl, q⟩ := h
  exact ⟨_, s2, dput_e e1 e2 hi hk (small' hl), .inl ⟨_, rfl, q⟩⟩
theorem wI_str (h : wE f env s fun d s' => ∃ w, d = wd w ∧ QA (w.map fun c => wd [c]) s') : wI (seqF f) env s QA := by
  obtain ⟨d, s', e, l, rfl, q⟩ := h
  exact ⟨_, s', seq_str e, q⟩
theorem wI_rng (h : wE f env s fun d s' => ∃ n : Nat, d = .int (n : Int) ∧ n < 4611686018427387904 ∧ QA ((List.range n).map fun i => Dt.int (0 + (i : Nat))) s') : wI (rngF1 f) env s QA := by
  obtain ⟨d, s', e, n, rfl, hn, q⟩ := h
  exact ⟨_, s', rng_ev e (by omega) (by omega), q⟩
section
variable {α : Type} {enc : α → Dt} {fi : Fi} {tt : Ft} {te : Fe} {vs : List Nat} {st : Tg}
theorem wE_lc {xs : List α} (q : α → Bool) (g : α → Dt) (h : wI fi env s fun ds s1 => ds = xs.map enc ∧ xs.length ≤ 16777215 ∧ (∀ x, x ∈ xs → wT tt ((wipeE env vs).set k (some (enc x))) s1 fun b s2 => b = q x ∧ s2 = s1) ∧
    (∀ x, x ∈ xs → q x = true → wE te ((wipeE env vs).set k (some (enc x))) s1 fun d s2 => d = g x ∧ s2 = s1) ∧ Q (.lst ((xs.filter q).map g)) s1) : wE (lcF fi (tgN k) tt te vs) env s Q := by
  obtain ⟨_, s1, e, rfl, hl, h1, h2, q0⟩ := h
  refine ⟨_, s1, lc_e e (small hl) (fun x hx => ?_) (fun x hx hq => wE_out (h2 x hx hq)), q0⟩
  obtain ⟨_, _, e, rfl, rfl⟩ := h1 x hx
  exact e
theorem wE_lcy {xs : List α} (g : α → Dt) (h : wI fi env s fun ds s1 => ds = xs.map enc ∧ xs.length ≤ 16777215 ∧
    (∀ x, x ∈ xs → wE te ((wipeE env vs).set k (some (enc x))) s1 fun d s2 => d = g x ∧ s2 = s1) ∧ Q (.lst (xs.map g)) s1) : wE (lcF fi (tgN k) yesT te vs) env s Q := by
  obtain ⟨_, s1, e, rfl, hl, h2, q0⟩ := h
  exact ⟨_, s1, lc_y e (small hl) (fun x hx => wE_out (h2 x hx)), q0⟩
theorem wS_for {xs : List α} (I : List α → Env → Sto → Prop) (h : wI fi env s fun ds s1 => ds = xs.map enc ∧ I [] env s1 ∧ (∀ pre x post env s, xs = pre ++ x :: post → I pre env s → ∃ e1, st env (enc x) = some e1 ∧ wS A e1 s (fun e s' => I (pre ++ [x]) e s') R) ∧
    ∀ env s', I xs env s' → N env s') : wS (forF fi st A) env s N R := by
  obtain ⟨_, s1, e, rfl, h0, h1, h2⟩ := h
  obtain ⟨o, s', e1, h3⟩ := loop_pre (st := st) (F := A) (enc := enc) (xs := xs) I R (fun pre x post env s he hi => by
    obtain ⟨e1, q1, o, s', q2, q3⟩ := h1 pre x post env s he hi
    exact ⟨e1, o, s', q1, q2, q3⟩) xs [] env s1 rfl h0
  refine ⟨o, s', by unfold forF; rw [e]; exact e1, h3.imp (fun ⟨e', h4, h5⟩ => ⟨e', h4, h2 _ _ h5⟩) fun h => h⟩
end
theorem wS_while {n : Nat} (I : Nat → Env → Sto → Prop) (hn : n < FUEL) (h0 : I n env s) (hs : ∀ n env s, I n env s → wT c env s fun b s1 => (b = false → s1 = s ∧ N env s) ∧ (b = true → wS A env s1 (fun e s' => ∃ m, m < n ∧ I m e s') R)) :
    wS (whileS c A FUEL) env s N R := by
  obtain ⟨o, s', h1, h2⟩ := while_r (c := c) (F := A) (n := n) (env := env) (s := s) I (fun o s' => (∃ e, o = .nx e ∧ N e s') ∨ ∃ d, o = .rt d ∧ R d s') h0 hn (fun n env s hi => by
    obtain ⟨b, s1, e1, h1, h2⟩ := hs n env s hi
    cases b with
    | false => obtain ⟨rfl, q⟩ := h1 rfl; exact .inl ⟨e1, .inl ⟨env, rfl, q⟩⟩
    | true =>
      obtain ⟨o, s', e2, ⟨e', rfl, m, hm, q⟩ | ⟨d, rfl, q⟩⟩ := h2 rfl
      · exact .inr ⟨s1, e1, .inl ⟨e', s', m, e2, hm, q⟩⟩
      · exact .inr ⟨s1, e1, .inr ⟨d, s', e2, .inr ⟨d, rfl, q⟩⟩⟩)
  exact ⟨o, s', h1, h2⟩
theorem wF_draw {dp : List Dt → Sto → Option (Dt × Sto)} {Sp : Addr → Nat → Sto → Prop} (D : Dip dp Sp) {p : Addr} {n : Nat} {i : Int} (h : Sp p n s) (hn : n < 1000000) (h0 : 0 < i) (h1 : i < 1073741824) (q : ∀ (r : Nat) s', (r : Int) < i → Sp p (n + 1) s' → Q (.int r) s') : wF dp [.ref p, .int i] s Q := by
  obtain ⟨r, s', e, r1, r2, h'⟩ := D.draw h hn h0 h1
  obtain ⟨a, rfl⟩ := Int.eq_ofNat_of_zero_le r1
  exact ⟨_, s', e, q a s' r2 h'⟩
end

section
variable {g : Option Dt} {z : Dt} {QD : Dt → Prop} {b : Bool} {QB : Bool → Prop} {s : Sto} {P R : Prop} {l : List Dt} {QL : List Dt → Prop} {i : Int} {QI : Int → Prop}
theorem ex_op {α : Type} {g : Option α} {z : α} {QD : α → Prop} (h : g = some z) (q : QD z) : ∃ z, g = some z ∧ QD z := ⟨z, h, q⟩
theorem eq_ss {a b : Str} : eqG s (.str a) (.str b) = some (.bl (decide (a = b))) := rfl
theorem ne_ss {a b : Str} : neG s (.str a) (.str b) = some (.bl (!decide (a = b))) := rfl
theorem eq_ii {a b : Int} : eqG s (.int a) (.int b) = some (.bl (decide (a = b))) := rfl
theorem ne_ii {a b : Int} : neG s (.int a) (.int b) = some (.bl (!decide (a = b))) := rfl
theorem lt_ii {a b : Int} : ltG s (.int a) (.int b) = some (.bl (decide (a < b))) := rfl
theorem gt_ii {a b : Int} : gtG s (.int a) (.int b) = some (.bl (decide (b < a))) := rfl
theorem le_ii {a b : Int} : leG s (.int a) (.int b) = some (.bl (decide (a ≤ b))) := rfl
theorem ge_ii {a b : Int} : geG s (.int a) (.int b) = some (.bl (decide (b ≤ a))) := rfl
theorem ex_bl (q : QB b) : ∃ b', Dt.bl b = Dt.bl b' ∧ QB b' := ⟨b, rfl, q⟩
theorem ex_trA (q : QB b) : ∃ b', truA s (Dt.bl b) = some b' ∧ QB b' := ⟨b, rfl, q⟩
theorem ex_trB (q : QB b) : ∃ b', truB s (Dt.bl b) = some b' ∧ QB b' := ⟨b, rfl, q⟩
theorem ex_int (q : QI i) : ∃ j, Dt.int i = Dt.int j ∧ QI j := ⟨i, rfl, q⟩
theorem and_t (h : P) : (true = true → P) ∧ (true = false → R) := ⟨fun _ => h, fun h => by cases h⟩
theorem and_f (h : R) : (false = true → P) ∧ (false = false → R) := ⟨fun h => (by cases h), fun _ => h⟩
theorem and_nt (h : R) : ((!true) = true → P) ∧ ((!true) = false → R) := ⟨fun h => (by cases h), fun _ => h⟩
theorem and_nf (h : P) : ((!false) = true → P) ∧ ((!false) = false → R) := ⟨fun _ => h, fun h => by cases h⟩
theorem all_true' {α : Type} (s : Sto) (l : List α) : allG s [.lst (l.map fun _ => Dt.bl true)] = some (.bl true) := by
  rw [all_bl]; congr 2; exact List.all_eq_true.mpr fun _ _ => rfl
end

section
variable {f : Fe} {env : Env} {s : Sto} {QA : List Dt → Sto → Prop} {x y : Dt} {QX : Dt → Dt → Prop} {n : Nat} {QN : Nat → Prop} {w : List Nat}
theorem seqOf_wd : seqOf (wd w) = some (w.map fun c => wd [c]) := by
  show some (w.toArray.toList.map fun c => Dt.str ⟨#[c]⟩) = _
  rw [List.toList_toArray]; rfl
theorem wI_seq (h : wE f env s fun d s' => ∃ l, seqOf d = some l ∧ QA l s') : wI (seqF f) env s QA := by
  obtain ⟨d, s', e, l, e2, q⟩ := h
  refine ⟨l, s', ?_, q⟩
  unfold seqF
  rw [e]
  show (seqOf d).bind _ = _
  rw [e2]
  rfl
theorem ex_unT (q : QX x y) : ∃ x' y', (Dt.tup [x, y] = .tup [x', y'] ∨ Dt.tup [x, y] = .lst [x', y']) ∧ QX x' y' := ⟨x, y, .inl rfl, q⟩
theorem ex_unL (q : QX x y) : ∃ x' y', (Dt.lst [x, y] = .tup [x', y'] ∨ Dt.lst [x, y] = .lst [x', y']) ∧ QX x' y' := ⟨x, y, .inr rfl, q⟩
theorem ex_nat (q : QN n) : ∃ m : Nat, Dt.int ((n : Nat) : Int) = Dt.int ((m : Nat) : Int) ∧ QN m := ⟨n, rfl, q⟩
end

end DL

namespace DL
open PySem PySem.Spec PyProof.Rows L2
local macro_rules | `(tactic| walk_at "op") => `(tactic| first | assumption | with_reducible rfl | exact cat_w (by omega) | exact sub_nn (by omega) | exact add_nn | exact at_w (by omega) (by assumption) | exact len_w (by omega) | exact in_l1 | exact notin_l1 | exact in_t1 | exact notin_t1 | exact in_k1 | exact notin_k1 | exact in_wl | exact notin_wl | exact in_wt | exact notin_wt | exact in_kd | exact notin_kd | exact eq_ww | exact ne_ww | exact any_bl | exact all_bl | rfl)
local macro_rules | `(tactic| walk_at "ev") => `(tactic| first | with_reducible exact c0 | ((with_reducible apply v0); rfl) | with_reducible exact a0 | with_reducible assumption | ((with_reducible apply aCons_ev); (focus walk_at "ev"); (focus walk_at "ev")) | ((with_reducible apply bindA_ev); (focus walk_at "ev"); (focus walk_at "op")) | ((with_reducible apply bind2_ev); (focus walk_at "ev"); (focus walk_at "ev"); (focus walk_at "op")) | ((with_reducible apply bind1_ev); (focus walk_at "ev"); (focus walk_at "op")) | ((with_reducible apply asB_ev); (focus walk_at "ev")) | ((with_reducible apply call_ev); (focus walk_at "ev"); (focus first | assumption | rfl)) | ((with_reducible apply truF_ev); (focus walk_at "ev"); (focus first | assumption | rfl)) | ((with_reducible apply notT_ev); (focus walk_at "ev")) | ((with_reducible apply andT_e); (focus walk_at "ev"); (focus (intro hq; walk_at "ev"))) | ((with_reducible apply orT_e); (focus walk_at "ev"); (focus (intro hq; walk_at "ev"))) | ((with_reducible apply seq_tup); (focus walk_at "ev")) | ((with_reducible apply seq_lst); (focus walk_at "ev")) | ((with_reducible apply seq_str); (focus walk_at "ev")))
local macro_rules | `(tactic| walk_at "w1") => `(tactic| with_reducible first | refine wS_seq ?_ | refine wS_set ?_ | refine wS_ret ?_ | refine wS_if ?_ | refine wS_skip ?_ | refine wS_drop ?_ | refine wS_unp ?_ | refine wE_b2 ?_ | refine wE_b1 ?_ | refine wE_bA ?_ | refine wE_bS ?_ | refine wE_call ?_ | refine wA_c ?_ | refine wA_n ?_ | refine wE_c ?_ | refine wO_n ?_ | refine wO_s ?_ | refine wT_asB ?_ | refine wT_tru ?_ | refine wT_not ?_ | refine wT_and ?_ | refine wT_or ?_ | refine wT_yes ?_ | refine wE_and ?_ | refine wE_or ?_ | refine wE_if ?_ | refine wI_seq ?_ | refine wI_rng ?_ | refine ex_bl ?_ | refine ex_trA ?_ | refine ex_trB ?_ | refine ex_nat ?_ | refine ex_int ?_ | refine ex_unT ?_ | refine ex_unL ?_ | refine and_t ?_ | refine and_f ?_ | refine and_nt ?_ | refine and_nf ?_)
local macro_rules | `(tactic| walk_at "w") => `(tactic| repeat (first | walk_at "w1" | refine wE_v (by rfl) ?_ | ((with_reducible refine wS_par2 ?_ ?_); focus (simp; done)) | ((with_reducible refine wS_par3 ?_ ?_); focus (simp; done)) | ((with_reducible refine wS_setN ?_ ?_); focus (simp; done)) | ((with_reducible apply ex_op); focus (first | exact seqOf_wd | with_reducible exact eq_ss | with_reducible exact ne_ss | with_reducible exact eq_ww | with_reducible exact ne_ww | with_reducible exact eq_ii | with_reducible exact ne_ii | with_reducible exact lt_ii | with_reducible exact gt_ii | with_reducible exact le_ii | with_reducible exact ge_ii | exact all_true' _ _ | walk_at "op")) ))
def ddW : List (List Nat) → List (List Nat)
  | [] => []
  | x :: r => if x ∈ r then ddW r else x :: ddW r
theorem ddW_mem {y : List Nat} : ∀ {l : List (List Nat)}, y ∈ ddW l ↔ y ∈ l
  | [] => Iff.rfl
  | x :: r => by
    unfold ddW
    split
    · rename_i h
      rw [ddW_mem]
      exact ⟨fun z => List.mem_cons_of_mem _ z, fun z => (List.mem_cons.mp z).elim (fun e => e ▸ h) fun z => z⟩
    · rw [List.mem_cons, List.mem_cons, ddW_mem]
theorem ddW_nd : ∀ {l : List (List Nat)}, (ddW l).Nodup
  | [] => .nil
  | x :: r => by
    unfold ddW
    split
    · exact ddW_nd
    · rename_i h
      exact List.nodup_cons.mpr ⟨fun z => h (ddW_mem.mp z), ddW_nd⟩
section
variable {dp : Fn} {Sp : Addr → Nat → Sto → Prop}
theorem wF_pick (D : Dip dp Sp) {p : Addr} {n : Nat} {s : Sto} {ds : List Dt} {Q : Dt → Sto → Prop} (h : Sp p n s) (hn : n < 1000000) (h0 : ds ≠ []) (hl : ds.length < 1000000) (q : ∀ d s', d ∈ ds → Sp p (n + 1) s' → Q d s') : wF (V_law_pick_k01 dp) [.ref p, .lst ds] s Q := by
  obtain ⟨d, s', e, hd, h'⟩ := pick_sp D h hn h0 hl
  exact ⟨d, s', e, q d s' hd h'⟩
end
theorem wE_toStr {f : Fe} {env : Env} {s : Sto} {Q : Dt → Sto → Prop} (h : wE f env s fun d s' => ∃ z, d = .str z ∧ Q d s') : wE (toStrOnly f) env s Q := by
  obtain ⟨d, s', e, z, rfl, q⟩ := h
  refine ⟨_, s', ?_, q⟩
  unfold toStrOnly
  rw [e]
theorem wS_go {A : Fs} {env e' : Env} {s s' : Sto} {N : Env → Sto → Prop} {R : Dt → Sto → Prop} (h : A env s = some (.nx e', s')) (q : N e' s') : wS A env s N R := ⟨_, s', h, .inl ⟨_, rfl, q⟩⟩
theorem lst_w {s : Sto} {w : List Nat} (h : w.length ≤ 1000) : toLstSG s [wd w] = some (.lst (w.map fun c => wd [c])) := by
  show (if (⟨w.toArray⟩ : Str).length ≤ sizeLine then _ else _) = _
  rw [if_pos (show (⟨w.toArray⟩ : Str).length ≤ sizeLine from small (show w.length ≤ 16777215 by omega))]
  show some (Dt.lst (w.toArray.toList.map fun c => Dt.str ⟨#[c]⟩)) = _
  rw [List.toList_toArray]; rfl
theorem fil_any {α : Type} (l : List α) (q : α → Bool) : (!(l.filter q).isEmpty) = l.any q := by
  induction l with
  | nil => rfl
  | cons x r ih =>
    rw [List.filter_cons, List.any_cons]
    cases q x with
    | true => rfl
    | false => exact ih

end DL

namespace DL
open PySem PySem.Spec PyProof.Rows L2
local macro_rules | `(tactic| walk_at "op") => `(tactic| first | assumption | with_reducible rfl | exact cat_w (by omega) | exact sub_nn (by omega) | exact add_nn | exact at_w (by omega) (by assumption) | exact len_w (by omega) | exact in_l1 | exact notin_l1 | exact in_t1 | exact notin_t1 | exact in_k1 | exact notin_k1 | exact in_wl | exact notin_wl | exact in_wt | exact notin_wt | exact in_kd | exact notin_kd | exact eq_ww | exact ne_ww | exact any_bl | exact all_bl | rfl)
local macro_rules | `(tactic| walk_at "ev") => `(tactic| first | with_reducible exact c0 | ((with_reducible apply v0); rfl) | with_reducible exact a0 | with_reducible assumption | ((with_reducible apply aCons_ev); (focus walk_at "ev"); (focus walk_at "ev")) | ((with_reducible apply bindA_ev); (focus walk_at "ev"); (focus walk_at "op")) | ((with_reducible apply bind2_ev); (focus walk_at "ev"); (focus walk_at "ev"); (focus walk_at "op")) | ((with_reducible apply bind1_ev); (focus walk_at "ev"); (focus walk_at "op")) | ((with_reducible apply asB_ev); (focus walk_at "ev")) | ((with_reducible apply call_ev); (focus walk_at "ev"); (focus first | assumption | rfl)) | ((with_reducible apply truF_ev); (focus walk_at "ev"); (focus first | assumption | rfl)) | ((with_reducible apply notT_ev); (focus walk_at "ev")) | ((with_reducible apply andT_e); (focus walk_at "ev"); (focus (intro hq; walk_at "ev"))) | ((with_reducible apply orT_e); (focus walk_at "ev"); (focus (intro hq; walk_at "ev"))) | ((with_reducible apply seq_tup); (focus walk_at "ev")) | ((with_reducible apply seq_lst); (focus walk_at "ev")) | ((with_reducible apply seq_str); (focus walk_at "ev")))
variable {dp : Fn} {Sp : Addr → Nat → Sto → Prop}
structure Bk (M : Nat) (E : Ents) (rs : List Ru) : Prop where
  cl : ClE E
  n : E.length ≤ M
  rn : rs.length ≤ 10
  ok : ∀ r ∈ rs, okR r = true ∧ lowRb r = true
theorem Page.bk {M R : Nat} {L : List Nat} {E : Ents} {rs : List Ru} (h : Page M R L E rs) (hM : M ≤ 8) (hR : R ≤ 10) : Bk M (sortE E) rs := ⟨h.cl hM, by rw [h.len]; exact h.n, Nat.le_trans h.rn hR, h.okR⟩
theorem Bk.word (D : Dip dp Sp) {p : Addr} {n M m : Nat} {E : Ents} {rs : List Ru} {s : Sto} (h : Bk M E rs) (hM : M ≤ 8) (hm : m ≤ 100) (hm1 : 1 ≤ m) (hs : Sp p n s) (hn : n < 800000) :
    ∃ w s', callF (V_law_word_k01 dp) (aCons (fC (.ref p)) (aCons (fC (.lst (onesD (E.map (·.1))))) (aCons (fC (.int ((m : Nat) : Int))) aNil))) [] s = some (wd w, s') ∧ (∀ c ∈ w, c ∈ E.map (·.1)) ∧ w.length ≤ m ∧ Sp p (n + (m + 2)) s' := by
  obtain ⟨w, s', e, h1, h2, h3⟩ := lword_sp D (L := E.map (·.1)) (M := m) hm hm1 (by rw [List.length_map]; have := h.n; omega) h.cl.lo hs hn
  exact ⟨w, s', call_ev (aCons_ev c0 (aCons_ev c0 (aCons_ev c0 a0))) e, h1, h2, h3⟩
end DL

namespace DL
open PySem PySem.Spec PyProof.Rows L2
local macro_rules | `(tactic| walk_at "op") => `(tactic| first | assumption | with_reducible rfl | exact cat_w (by omega) | exact sub_nn (by omega) | exact add_nn | exact at_w (by omega) (by assumption) | exact len_w (by omega) | exact in_l1 | exact notin_l1 | exact in_t1 | exact notin_t1 | exact in_k1 | exact notin_k1 | exact in_wl | exact notin_wl | exact in_wt | exact notin_wt | exact in_kd | exact notin_kd | exact eq_ww | exact ne_ww | exact any_bl | exact all_bl | rfl)
local macro_rules | `(tactic| walk_at "ev") => `(tactic| first | with_reducible exact c0 | ((with_reducible apply v0); rfl) | with_reducible exact a0 | with_reducible assumption | ((with_reducible apply aCons_ev); (focus walk_at "ev"); (focus walk_at "ev")) | ((with_reducible apply bindA_ev); (focus walk_at "ev"); (focus walk_at "op")) | ((with_reducible apply bind2_ev); (focus walk_at "ev"); (focus walk_at "ev"); (focus walk_at "op")) | ((with_reducible apply bind1_ev); (focus walk_at "ev"); (focus walk_at "op")) | ((with_reducible apply asB_ev); (focus walk_at "ev")) | ((with_reducible apply call_ev); (focus walk_at "ev"); (focus first | assumption | rfl)) | ((with_reducible apply truF_ev); (focus walk_at "ev"); (focus first | assumption | rfl)) | ((with_reducible apply notT_ev); (focus walk_at "ev")) | ((with_reducible apply andT_e); (focus walk_at "ev"); (focus (intro hq; walk_at "ev"))) | ((with_reducible apply orT_e); (focus walk_at "ev"); (focus (intro hq; walk_at "ev"))) | ((with_reducible apply seq_tup); (focus walk_at "ev")) | ((with_reducible apply seq_lst); (focus walk_at "ev")) | ((with_reducible apply seq_str); (focus walk_at "ev")))
local macro_rules | `(tactic| walk_at "w1") => `(tactic| with_reducible first | refine wS_seq ?_ | refine wS_set ?_ | refine wS_ret ?_ | refine wS_if ?_ | refine wS_skip ?_ | refine wS_drop ?_ | refine wS_unp ?_ | refine wE_b2 ?_ | refine wE_b1 ?_ | refine wE_bA ?_ | refine wE_bS ?_ | refine wE_call ?_ | refine wA_c ?_ | refine wA_n ?_ | refine wE_c ?_ | refine wO_n ?_ | refine wO_s ?_ | refine wT_asB ?_ | refine wT_tru ?_ | refine wT_not ?_ | refine wT_and ?_ | refine wT_or ?_ | refine wT_yes ?_ | refine wE_and ?_ | refine wE_or ?_ | refine wE_if ?_ | refine wI_seq ?_ | refine wI_rng ?_ | refine ex_bl ?_ | refine ex_trA ?_ | refine ex_trB ?_ | refine ex_nat ?_ | refine ex_int ?_ | refine ex_unT ?_ | refine ex_unL ?_ | refine and_t ?_ | refine and_f ?_ | refine and_nt ?_ | refine and_nf ?_)
local macro_rules | `(tactic| walk_at "w") => `(tactic| repeat (first | walk_at "w1" | refine wE_v (by rfl) ?_ | ((with_reducible refine wS_par2 ?_ ?_); focus (simp; done)) | ((with_reducible refine wS_par3 ?_ ?_); focus (simp; done)) | ((with_reducible refine wS_setN ?_ ?_); focus (simp; done)) | ((with_reducible apply ex_op); focus (first | exact seqOf_wd | with_reducible exact eq_ss | with_reducible exact ne_ss | with_reducible exact eq_ww | with_reducible exact ne_ww | with_reducible exact eq_ii | with_reducible exact ne_ii | with_reducible exact lt_ii | with_reducible exact gt_ii | with_reducible exact le_ii | with_reducible exact ge_ii | exact all_true' _ _ | walk_at "op")) ))
theorem nd_inj : ∀ {E : Ents}, (E.map (·.1)).Nodup → ∀ {a b : Nat × List Nat}, a ∈ E → b ∈ E → a.1 = b.1 → a = b
  | [], _, _, _, h, _, _ => absurd h List.not_mem_nil
  | e :: E, hn, a, b, ha, hb, h => by
    rw [List.map_cons] at hn
    obtain ⟨h1, h2⟩ := List.nodup_cons.mp hn
    rcases List.mem_cons.mp ha with ea | ea <;> rcases List.mem_cons.mp hb with eb | eb
    · rw [ea, eb]
    · exact absurd (List.mem_map.mpr ⟨b, eb, by rw [← h, ea]⟩) h1
    · exact absurd (List.mem_map.mpr ⟨a, ea, by rw [h, eb]⟩) h1
    · exact nd_inj h2 ea eb h
theorem les_eq {E : Ents} (hn : (E.map (·.1)).Nodup) {e : Nat × List Nat} (he : e ∈ E) : lesN E e.1 = e.2 := by
  unfold lesN
  cases q : E.find? fun x => decide (x.1 = e.1) with
  | none =>
    have := List.find?_eq_none.mp q e he
    simp at this
  | some x =>
    have h2 : x.1 = e.1 := by simpa using List.find?_some q
    have := nd_inj hn (List.mem_of_find?_eq_some q) he h2
    subst this
    rfl
theorem map_nd {α β : Type} {f : α → β} : ∀ {l : List α}, l.Nodup → (∀ a ∈ l, ∀ b ∈ l, f a = f b → a = b) → (l.map f).Nodup
  | [], _, _ => .nil
  | x :: l, hn, hi => by
    obtain ⟨h1, h2⟩ := List.nodup_cons.mp hn
    rw [List.map_cons]
    refine List.nodup_cons.mpr ⟨fun hm => ?_, map_nd h2 fun a ha b hb => hi a (List.mem_cons_of_mem _ ha) b (List.mem_cons_of_mem _ hb)⟩
    obtain ⟨y, hy, e⟩ := List.mem_map.mp hm
    have := hi y (List.mem_cons_of_mem _ hy) x List.mem_cons_self e
    subst this
    exact h1 hy
theorem map_on {f : Nat → Nat} {L : List Nat} (hi : ∀ a ∈ L, ∀ b ∈ L, f a = f b → a = b) : ∀ {u v : List Nat}, (∀ a ∈ u, a ∈ L) → (∀ a ∈ v, a ∈ L) → u.map f = v.map f → u = v
  | [], [], _, _, _ => rfl
  | [], _ :: _, _, _, h => by cases h
  | _ :: _, [], _, _, h => by cases h
  | a :: u, b :: v, hu, hv, h => by
    rw [List.map_cons, List.map_cons] at h
    obtain ⟨h1, h2⟩ := List.cons.inj h
    rw [hi a (hu a List.mem_cons_self) b (hv b List.mem_cons_self) h1, map_on hi (fun x hx => hu x (List.mem_cons_of_mem _ hx)) (fun x hx => hv x (List.mem_cons_of_mem _ hx)) h2]
def nearN (E : Ents) (c : Nat) : List Nat := (lesN E c).filter fun a => !decide (a ∈ (lesN E c).flatMap (downN E))
theorem near_mem {E : Ents} {c x : Nat} : x ∈ nearN E c ↔ x ∈ lesN E c ∧ ∀ d ∈ lesN E c, x ∉ downN E d := by
  unfold nearN
  rw [List.mem_filter, Bool.not_eq_true', decide_eq_false_iff_not, List.mem_flatMap]
  exact and_congr_right fun _ => ⟨fun h d hd z => h ⟨d, hd, z⟩, fun h ⟨d, hd, z⟩ => h d hd z⟩
def wordsN (E : Ents) (c : Nat) : List (List Nat) := if lesN E c = [] then [[]] else (nearN E c).map fun a => [a]
def nlK (E : Ents) (x : List Nat) (k : Nat) : List (List Nat) := (wordsN E (x.getD k 0)).map fun v => x.take k ++ v ++ x.drop (k + 1)
def nlN (E : Ents) (x : List Nat) : List (List Nat) := (List.range x.length).flatMap (nlK E x)
theorem nl_mem {E : Ents} {x y : List Nat} : y ∈ nlN E x ↔ ∃ k, k < x.length ∧ ∃ v ∈ wordsN E (x.getD k 0), y = x.take k ++ v ++ x.drop (k + 1) := by
  unfold nlN nlK
  simp only [List.mem_flatMap, List.mem_range, List.mem_map]
  constructor
  · rintro ⟨k, hk, v, hv, rfl⟩; exact ⟨k, hk, v, hv, rfl⟩
  · rintro ⟨k, hk, v, hv, rfl⟩; exact ⟨k, hk, v, hv, rfl⟩
theorem words_in {E : Ents} (h : ClE E) {c : Nat} : ∀ v ∈ wordsN E c, (∀ a ∈ v, a ∈ E.map (·.1)) ∧ v.length ≤ 1 := fun v hv => by
  unfold wordsN at hv
  split at hv
  · rw [List.mem_singleton.mp hv]
    exact ⟨fun a ha => absurd ha List.not_mem_nil, Nat.zero_le _⟩
  · obtain ⟨a, ha, rfl⟩ := List.mem_map.mp hv
    exact ⟨fun b hb => by rw [List.mem_singleton.mp hb]; exact h.let (near_mem.mp ha).1, Nat.le_refl _⟩
theorem nl_let {E : Ents} (h : ClE E) {x y : List Nat} (hx : ∀ c ∈ x, c ∈ E.map (·.1)) (hy : y ∈ nlN E x) : (∀ c ∈ y, c ∈ E.map (·.1)) ∧ y.length ≤ x.length := by
  obtain ⟨k, hk, v, hv, rfl⟩ := nl_mem.mp hy
  obtain ⟨h1, h2⟩ := words_in h v hv
  refine ⟨fun c hc => ?_, ?_⟩
  · rcases List.mem_append.mp hc with hc | hc
    · rcases List.mem_append.mp hc with hc | hc
      · exact hx c (List.mem_of_mem_take hc)
      · exact h1 c hc
    · exact hx c (List.mem_of_mem_drop hc)
  · rw [List.length_append, List.length_append, List.length_take, List.length_drop]; omega
def IncL (E : Ents) : Prop := ∀ e ∈ E, e.2.Pairwise (· < ·)
theorem lt_nd {l : List Nat} (h : l.Pairwise (· < ·)) : l.Nodup := h.imp fun h => Nat.ne_of_lt h
structure Mor (f : Nat → Nat) (E E' : Ents) : Prop where
  inj : ∀ a ∈ E.map (·.1), ∀ b ∈ E.map (·.1), f a = f b → a = b
  le : ∀ c ∈ E.map (·.1), f c ∈ E'.map (·.1)
  les : ∀ c ∈ E.map (·.1), ∀ x, x ∈ lesN E' (f c) ↔ ∃ a ∈ lesN E c, x = f a
section
variable {f : Nat → Nat} {E E' : Ents}
theorem Mor.rch (m : Mor f E E') (h : ClE E) {c x : Nat} (hc : c ∈ E.map (·.1)) : Rch E' (f c) x ↔ ∃ a, Rch E c a ∧ x = f a := by
  constructor
  · intro hr
    induction hr with
    | one hd =>
      obtain ⟨a, ha, rfl⟩ := (m.les c hc _).mp hd
      exact ⟨a, .one ha, rfl⟩
    | more hr hd ih =>
      obtain ⟨a, ha, rfl⟩ := ih
      obtain ⟨b, hb, rfl⟩ := (m.les a (h.rch ha) _).mp hd
      exact ⟨b, .more ha hb, rfl⟩
  · rintro ⟨a, ha, rfl⟩
    induction ha with
    | one hd => exact .one ((m.les _ hc _).mpr ⟨_, hd, rfl⟩)
    | more hr hd ih => exact .more ih ((m.les _ (h.rch hr) _).mpr ⟨_, hd, rfl⟩)
theorem Mor.down (m : Mor f E E') (h : ClE E) (h' : ClE E') {c : Nat} (hc : c ∈ E.map (·.1)) (x : Nat) : x ∈ downN E' (f c) ↔ ∃ a ∈ downN E c, x = f a := by
  rw [down_mem h', m.rch h hc]
  exact exists_congr fun a => and_congr_left fun _ => (down_mem h).symm
theorem down_let (h : ClE E) {c a : Nat} (ha : a ∈ downN E c) : a ∈ E.map (·.1) := h.rch ((down_mem h).mp ha)
theorem Mor.near (m : Mor f E E') (h : ClE E) (h' : ClE E') {c : Nat} (hc : c ∈ E.map (·.1)) (x : Nat) : x ∈ nearN E' (f c) ↔ ∃ a ∈ nearN E c, x = f a := by
  rw [near_mem, m.les c hc]
  constructor
  · rintro ⟨⟨a, ha, rfl⟩, hx⟩
    exact ⟨a, near_mem.mpr ⟨ha, fun d hd z => hx (f d) ((m.les c hc _).mpr ⟨d, hd, rfl⟩) ((m.down h h' (h.let hd) _).mpr ⟨a, z, rfl⟩)⟩, rfl⟩
  · rintro ⟨a, ha, rfl⟩
    obtain ⟨h1, h2⟩ := near_mem.mp ha
    refine ⟨⟨a, h1, rfl⟩, fun d hd z => ?_⟩
    obtain ⟨b, hb, rfl⟩ := (m.les c hc _).mp hd
    obtain ⟨a', z', e⟩ := (m.down h h' (h.let hb) _).mp z
    have := m.inj a (h.let h1) a' (down_let h z') e
    subst this
    exact h2 b hb z'
theorem maps_nd {E : Ents} (m : Mor f E E') {l : List (List Nat)} (hn : l.Nodup) (hl : ∀ x ∈ l, ∀ c ∈ x, c ∈ E.map (·.1)) : (l.map (List.map f)).Nodup := map_nd hn fun a ha b hb => map_on m.inj (hl a ha) (hl b hb)
theorem Mor.words (m : Mor f E E') (h : ClE E) (h' : ClE E') {c : Nat} (hc : c ∈ E.map (·.1)) (v : List Nat) : v ∈ wordsN E' (f c) ↔ ∃ u ∈ wordsN E c, v = u.map f := by
  have e0 : lesN E' (f c) = [] ↔ lesN E c = [] := by
    rw [List.eq_nil_iff_forall_not_mem, List.eq_nil_iff_forall_not_mem]
    exact ⟨fun q a ha => q (f a) ((m.les c hc _).mpr ⟨a, ha, rfl⟩), fun q x hx => by obtain ⟨a, ha, _⟩ := (m.les c hc _).mp hx; exact q a ha⟩
  unfold wordsN
  by_cases q : lesN E c = []
  · rw [if_pos q, if_pos (e0.mpr q)]
    simp
  · rw [if_neg q, if_neg fun z => q (e0.mp z)]
    constructor
    · intro z
      obtain ⟨x, hx, rfl⟩ := List.mem_map.mp z
      obtain ⟨a, ha, rfl⟩ := (m.near h h' hc _).mp hx
      exact ⟨[a], List.mem_map.mpr ⟨a, ha, rfl⟩, rfl⟩
    · rintro ⟨u, hu, rfl⟩
      obtain ⟨a, ha, rfl⟩ := List.mem_map.mp hu
      exact List.mem_map.mpr ⟨f a, (m.near h h' hc _).mpr ⟨a, ha, rfl⟩, rfl⟩
theorem Mor.nlm (m : Mor f E E') (h : ClE E) (h' : ClE E') {w : List Nat} (hw : ∀ c ∈ w, c ∈ E.map (·.1)) (y : List Nat) : y ∈ nlN E' (w.map f) ↔ ∃ u ∈ nlN E w, y = u.map f := by
  have g : ∀ k, k < w.length → (w.map f).getD k 0 = f (w.getD k 0) ∧ w.getD k 0 ∈ E.map (·.1) := fun k hk => by
    rw [List.getD_eq_getElem?_getD, List.getD_eq_getElem?_getD, List.getElem?_map, List.getElem?_eq_getElem hk]
    exact ⟨rfl, hw _ (List.getElem_mem hk)⟩
  rw [nl_mem, List.length_map]
  constructor
  · rintro ⟨k, hk, v, hv, rfl⟩
    obtain ⟨g1, g2⟩ := g k hk
    rw [g1] at hv
    obtain ⟨u, hu, rfl⟩ := (m.words h h' g2 v).mp hv
    exact ⟨_, nl_mem.mpr ⟨k, hk, u, hu, rfl⟩, by rw [List.map_append, List.map_append, List.map_take, List.map_drop]⟩
  · rintro ⟨u, hu, rfl⟩
    obtain ⟨k, hk, v, hv, rfl⟩ := nl_mem.mp hu
    obtain ⟨g1, g2⟩ := g k hk
    exact ⟨k, hk, v.map f, by rw [g1]; exact (m.words h h' g2 _).mpr ⟨v, hv, rfl⟩, by rw [List.map_append, List.map_append, List.map_take, List.map_drop]⟩
theorem Mor.nl (m : Mor f E E') (h : ClE E) (h' : ClE E') {w : List Nat} (hw : ∀ c ∈ w, c ∈ E.map (·.1)) : sortW (ddW (nlN E' (w.map f))) = sortW ((ddW (nlN E w)).map (List.map f)) :=
  sortW_eq ddW_nd (maps_nd m ddW_nd fun x hx => (nl_let h hw (ddW_mem.mp hx)).1) fun y => by
    rw [ddW_mem, m.nlm h h' hw, List.mem_map]
    exact exists_congr fun a => by rw [ddW_mem, eq_comm]
end

end DL

namespace DL
open PySem PySem.Spec PyProof.Rows L2
local macro_rules | `(tactic| walk_at "op") => `(tactic| first | assumption | with_reducible rfl | exact cat_w (by omega) | exact sub_nn (by omega) | exact add_nn | exact at_w (by omega) (by assumption) | exact len_w (by omega) | exact in_l1 | exact notin_l1 | exact in_t1 | exact notin_t1 | exact in_k1 | exact notin_k1 | exact in_wl | exact notin_wl | exact in_wt | exact notin_wt | exact in_kd | exact notin_kd | exact eq_ww | exact ne_ww | exact any_bl | exact all_bl | rfl)
local macro_rules | `(tactic| walk_at "ev") => `(tactic| first | with_reducible exact c0 | ((with_reducible apply v0); rfl) | with_reducible exact a0 | with_reducible assumption | ((with_reducible apply aCons_ev); (focus walk_at "ev"); (focus walk_at "ev")) | ((with_reducible apply bindA_ev); (focus walk_at "ev"); (focus walk_at "op")) | ((with_reducible apply bind2_ev); (focus walk_at "ev"); (focus walk_at "ev"); (focus walk_at "op")) | ((with_reducible apply bind1_ev); (focus walk_at "ev"); (focus walk_at "op")) | ((with_reducible apply asB_ev); (focus walk_at "ev")) | ((with_reducible apply call_ev); (focus walk_at "ev"); (focus first | assumption | rfl)) | ((with_reducible apply truF_ev); (focus walk_at "ev"); (focus first | assumption | rfl)) | ((with_reducible apply notT_ev); (focus walk_at "ev")) | ((with_reducible apply andT_e); (focus walk_at "ev"); (focus (intro hq; walk_at "ev"))) | ((with_reducible apply orT_e); (focus walk_at "ev"); (focus (intro hq; walk_at "ev"))) | ((with_reducible apply seq_tup); (focus walk_at "ev")) | ((with_reducible apply seq_lst); (focus walk_at "ev")) | ((with_reducible apply seq_str); (focus walk_at "ev")))
local macro_rules | `(tactic| walk_at "w1") => `(tactic| with_reducible first | refine wS_seq ?_ | refine wS_set ?_ | refine wS_ret ?_ | refine wS_if ?_ | refine wS_skip ?_ | refine wS_drop ?_ | refine wS_unp ?_ | refine wE_b2 ?_ | refine wE_b1 ?_ | refine wE_bA ?_ | refine wE_bS ?_ | refine wE_call ?_ | refine wA_c ?_ | refine wA_n ?_ | refine wE_c ?_ | refine wO_n ?_ | refine wO_s ?_ | refine wT_asB ?_ | refine wT_tru ?_ | refine wT_not ?_ | refine wT_and ?_ | refine wT_or ?_ | refine wT_yes ?_ | refine wE_and ?_ | refine wE_or ?_ | refine wE_if ?_ | refine wI_seq ?_ | refine wI_rng ?_ | refine ex_bl ?_ | refine ex_trA ?_ | refine ex_trB ?_ | refine ex_nat ?_ | refine ex_int ?_ | refine ex_unT ?_ | refine ex_unL ?_ | refine and_t ?_ | refine and_f ?_ | refine and_nt ?_ | refine and_nf ?_)
local macro_rules | `(tactic| walk_at "w") => `(tactic| repeat (first | walk_at "w1" | refine wE_v (by rfl) ?_ | ((with_reducible refine wS_par2 ?_ ?_); focus (simp; done)) | ((with_reducible refine wS_par3 ?_ ?_); focus (simp; done)) | ((with_reducible refine wS_setN ?_ ?_); focus (simp; done)) | ((with_reducible apply ex_op); focus (first | exact seqOf_wd | with_reducible exact eq_ss | with_reducible exact ne_ss | with_reducible exact eq_ww | with_reducible exact ne_ww | with_reducible exact eq_ii | with_reducible exact ne_ii | with_reducible exact lt_ii | with_reducible exact gt_ii | with_reducible exact le_ii | with_reducible exact ge_ii | exact all_true' _ _ | walk_at "op")) ))
variable {dp : Fn} {Sp : Addr → Nat → Sto → Prop}
def lrN (E : Ents) : Nat → List Nat
  | 0 => E.map (·.1)
  | j + 1 => (lrN E j).filter fun c => (lesN E c).any fun a => decide (a ∈ lrN E j)
structure Ef (E : Ents) : Prop where
  cl : ClE E
  n : E.length ≤ 3
  n0 : E ≠ []
  i : IncL E
  up : (E.map (·.1)).Pairwise (· < ·)
  self : ∀ e ∈ E, e.1 ∉ e.2
  ac : lrN E E.length = []
end DL

namespace DL
open PySem PySem.Spec PyProof.Rows L2
local macro_rules | `(tactic| walk_at "op") => `(tactic| first | assumption | with_reducible rfl | exact cat_w (by omega) | exact sub_nn (by omega) | exact add_nn | exact at_w (by omega) (by assumption) | exact len_w (by omega) | exact in_l1 | exact notin_l1 | exact in_t1 | exact notin_t1 | exact in_k1 | exact notin_k1 | exact in_wl | exact notin_wl | exact in_wt | exact notin_wt | exact in_kd | exact notin_kd | exact eq_ww | exact ne_ww | exact any_bl | exact all_bl | rfl)
local macro_rules | `(tactic| walk_at "ev") => `(tactic| first | with_reducible exact c0 | ((with_reducible apply v0); rfl) | with_reducible exact a0 | with_reducible assumption | ((with_reducible apply aCons_ev); (focus walk_at "ev"); (focus walk_at "ev")) | ((with_reducible apply bindA_ev); (focus walk_at "ev"); (focus walk_at "op")) | ((with_reducible apply bind2_ev); (focus walk_at "ev"); (focus walk_at "ev"); (focus walk_at "op")) | ((with_reducible apply bind1_ev); (focus walk_at "ev"); (focus walk_at "op")) | ((with_reducible apply asB_ev); (focus walk_at "ev")) | ((with_reducible apply call_ev); (focus walk_at "ev"); (focus first | assumption | rfl)) | ((with_reducible apply truF_ev); (focus walk_at "ev"); (focus first | assumption | rfl)) | ((with_reducible apply notT_ev); (focus walk_at "ev")) | ((with_reducible apply andT_e); (focus walk_at "ev"); (focus (intro hq; walk_at "ev"))) | ((with_reducible apply orT_e); (focus walk_at "ev"); (focus (intro hq; walk_at "ev"))) | ((with_reducible apply seq_tup); (focus walk_at "ev")) | ((with_reducible apply seq_lst); (focus walk_at "ev")) | ((with_reducible apply seq_str); (focus walk_at "ev")))
local macro_rules | `(tactic| walk_at "w1") => `(tactic| with_reducible first | refine wS_seq ?_ | refine wS_set ?_ | refine wS_ret ?_ | refine wS_if ?_ | refine wS_skip ?_ | refine wS_drop ?_ | refine wS_unp ?_ | refine wE_b2 ?_ | refine wE_b1 ?_ | refine wE_bA ?_ | refine wE_bS ?_ | refine wE_call ?_ | refine wA_c ?_ | refine wA_n ?_ | refine wE_c ?_ | refine wO_n ?_ | refine wO_s ?_ | refine wT_asB ?_ | refine wT_tru ?_ | refine wT_not ?_ | refine wT_and ?_ | refine wT_or ?_ | refine wT_yes ?_ | refine wE_and ?_ | refine wE_or ?_ | refine wE_if ?_ | refine wI_seq ?_ | refine wI_rng ?_ | refine ex_bl ?_ | refine ex_trA ?_ | refine ex_trB ?_ | refine ex_nat ?_ | refine ex_int ?_ | refine ex_unT ?_ | refine ex_unL ?_ | refine and_t ?_ | refine and_f ?_ | refine and_nt ?_ | refine and_nf ?_)
local macro_rules | `(tactic| walk_at "w") => `(tactic| repeat (first | walk_at "w1" | refine wE_v (by rfl) ?_ | ((with_reducible refine wS_par2 ?_ ?_); focus (simp; done)) | ((with_reducible refine wS_par3 ?_ ?_); focus (simp; done)) | ((with_reducible refine wS_setN ?_ ?_); focus (simp; done)) | ((with_reducible apply ex_op); focus (first | exact seqOf_wd | with_reducible exact eq_ss | with_reducible exact ne_ss | with_reducible exact eq_ww | with_reducible exact ne_ww | with_reducible exact eq_ii | with_reducible exact ne_ii | with_reducible exact lt_ii | with_reducible exact gt_ii | with_reducible exact le_ii | with_reducible exact ge_ii | exact all_true' _ _ | walk_at "op")) ))
variable {dp : Fn} {Sp : Addr → Nat → Sto → Prop}
structure Fb (E : Ents) (rs : List Ru) : Prop where
  e : Ef E
  n : rs.length ≤ 4
  r : ∀ r ∈ rs, ruL (E.map (·.1)) r
def isP (c : Nat) : Ru → Bool
  | .put d _ _ => decide (d = c)
  | _ => false
def wordR : Ru → List Nat
  | .put _ v _ => v
  | _ => []
def isLow : Ru → Bool
  | .lower _ => true
  | _ => false
def putsL (rs : List Ru) (c : Nat) : List (List Nat) := (rs.filter (isP c)).map wordR
def givW (E : Ents) (rs : List Ru) (c : Nat) : List (List Nat) := putsL rs c ++ (if rs.any isLow = true then (lesN E c).map (fun a => [a]) else [])
def gN (E : Ents) (rs : List Ru) (c : Nat) : List Nat := (putsL rs c).flatten ++ (if rs.any isLow = true then lesN E c else [])
theorem flat_ones (l : List Nat) : (l.map fun a => [a]).flatten = l := by
  induction l with
  | nil => rfl
  | cons a l ih => rw [List.map_cons, List.flatten_cons, ih]; rfl
theorem giv_flat (E : Ents) (rs : List Ru) (c : Nat) : (givW E rs c).flatten = gN E rs c := by
  unfold givW gN
  rw [List.flatten_append]
  split
  · rw [flat_ones]
  · rfl
theorem joinK : ∀ K : List (List Nat), TL.joinL [] K = K.flatten
  | [] => rfl
  | [c] => by simp [TL.joinL]
  | c :: d :: r => by
    show c ++ ([] ++ TL.joinL [] (d :: r)) = _
    rw [joinK (d :: r)]
    rfl
theorem join_words {s : Sto} {K : List (List Nat)} (h1 : ∀ v ∈ K, v.length ≤ 100) (h2 : K.length ≤ 1000) : joinG s (.str "") (.lst (K.map wd)) = some (wd K.flatten) := by
  have e : K.map wd = (K.map strW).map Dt.str := by rw [List.map_map]; rfl
  unfold joinG
  dsimp only
  rw [e, strsOf_map]
  dsimp only
  have hl : ((K.map strW).map (·.length)).sum ≤ K.length * 100 := by
    rw [List.map_map]
    clear e h2
    induction K with
    | nil => exact Nat.le_refl _
    | cons v K ih =>
      rw [List.map_cons, List.sum_cons, List.length_cons, Nat.succ_mul]
      have := ih fun x hx => h1 x (List.mem_cons_of_mem _ hx)
      have h3 : ((fun x => x.length) ∘ strW) v ≤ 100 := h1 v List.mem_cons_self
      omega
  rw [if_pos (by
    have : ("" : Str).length = 0 := rfl
    rw [this]
    have := Nat.mul_le_mul_right 100 h2
    omega)]
  have h : TL.tl (Txt.join "" (K.map strW)) = K.flatten := by
    rw [TL.join_eq, TL.tl_join, List.map_map]
    have : K.map (TL.tl ∘ strW) = K := by
      have := List.map_congr_left (l := K) (f := TL.tl ∘ strW) (g := id) fun x _ => rfl
      rw [this, List.map_id]
    rw [this]
    exact joinK K
  rw [strW_tl (Txt.join "" (K.map strW)), h]
  rfl
section
variable {E : Ents} {rs : List Ru} {s : Sto}
theorem wE_puts {fr fc : Fe} {env : Env} {k : Nat} {c : Nat} {vs : List Nat} (hn : rs.length ≤ 1000) (h1 : fr env s = some (.tup (rs.map Ru.d), s)) (h2 : ∀ x : Option Dt, fc ((wipeE env vs).set k x) s = some (wd [c], s)) (h3 : ∀ x : Dt, ((wipeE env vs).set k (some x))[k]? = some (some x)) :
    lcF (seqF fr) (tgN k) (andT (asB (bind2 (bind2 (fVar k) (fC (.int 0)) ixA) (fC (.str "put")) eqG)) (asB (bind2 (bind2 (fVar k) (fC (.int 1)) ixA) fc eqG))) (bind2 (fVar k) (fC (.int 2)) ixA) vs env s = some (.lst ((putsL rs c).map wd), s) := by
  have q := lc_e (xs := rs) (enc := Ru.d) (q := isP c) (g := fun r => wd (wordR r)) (fi := seqF fr) (tt := andT (asB (bind2 (bind2 (fVar k) (fC (.int 0)) ixA) (fC (.str "put")) eqG)) (asB (bind2 (bind2 (fVar k) (fC (.int 1)) ixA) fc eqG))) (te := bind2 (fVar k) (fC (.int 2)) ixA) (k := k) (vs := vs) (env := env) (s := s) (s1 := s) (seq_tup h1) (small (by omega)) (fun r hr => ?_) (fun r hr hq => ?_)
  · rw [q]
    unfold putsL
    rw [List.map_map]
    rfl
  · have v := v0 (s := s) (h3 r.d)
    have e0 : ∀ y, eqG s (.str y) (.str "put") = some (.bl (decide (y = ("put" : Str)))) := fun y => rfl
    cases r with
    | put d w l =>
      refine (andT_e (a := true) (b := decide ([d] = [c])) (asB_ev (bind2_ev (bind2_ev v c0 (z := .str "put") rfl) c0 rfl)) fun _ => asB_ev (bind2_ev (bind2_ev v c0 (z := wd [d]) rfl) (h2 _) eq_ww)).trans ?_
      show some (true && decide ([d] = [c]), s) = some (decide (d = c), s)
      rw [Bool.true_and, show decide ([d] = [c]) = decide (d = c) from decide_eq_decide.mpr ⟨fun z => by cases z; rfl, fun z => by rw [z]⟩]
    | drop m l => exact andT_e (a := false) (b := false) (asB_ev (bind2_ev (bind2_ev v c0 (z := .str "drop") rfl) c0 rfl)) fun h => by cases h
    | half l => exact andT_e (a := false) (b := false) (asB_ev (bind2_ev (bind2_ev v c0 (z := .str "half") rfl) c0 rfl)) fun h => by cases h
    | empty => exact andT_e (a := false) (b := false) (asB_ev (bind2_ev (bind2_ev v c0 (z := .str "empty") rfl) c0 rfl)) fun h => by cases h
    | lower l => exact andT_e (a := false) (b := false) (asB_ev (bind2_ev (bind2_ev v c0 (z := .str "lower") rfl) c0 rfl)) fun h => by cases h
  · have v := v0 (s := s) (h3 r.d)
    cases r with
    | put d w l => exact bind2_ev v c0 rfl
    | drop m l => cases hq
    | half l => cases hq
    | empty => cases hq
    | lower l => cases hq
theorem is_lower (r : Ru) : ∃ x : Str, ixA s r.d (.int 0) = some (.str x) ∧ eqG s (.str x) (.str "lower") = some (.bl (isLow r)) := by
  cases r with
  | put d w l => exact ⟨"put", rfl, rfl⟩
  | drop m l => exact ⟨"drop", rfl, rfl⟩
  | half l => exact ⟨"half", rfl, rfl⟩
  | empty => exact ⟨"empty", rfl, rfl⟩
  | lower l => exact ⟨"lower", rfl, rfl⟩
def kp (E : Ents) (rs : List Ru) (R : List Nat) : List Nat := R.filter fun c => (gN E rs c).any fun a => decide (a ∈ R)
def kpi (E : Ents) (rs : List Ru) : Nat → List Nat
  | 0 => E.map (·.1)
  | j + 1 => kp E rs (kpi E rs j)
def ringN (E : Ents) (rs : List Ru) : List Nat := kpi E rs E.length
theorem kp_sub (E : Ents) (rs : List Ru) (R : List Nat) : (kp E rs R).Sublist R := List.filter_sublist
theorem kpi_sub (E : Ents) (rs : List Ru) : ∀ j, (kpi E rs j).Sublist (E.map (·.1))
  | 0 => List.Sublist.refl _
  | j + 1 => (kp_sub E rs _).trans (kpi_sub E rs j)
theorem kpi_stay {j : Nat} (h : kp E rs (kpi E rs j) = kpi E rs j) : ∀ i, kpi E rs (j + i) = kpi E rs j
  | 0 => rfl
  | i + 1 => by
    show kp E rs (kpi E rs (j + i)) = _
    rw [kpi_stay h i, h]
theorem ring_of_fix {j : Nat} (h : kp E rs (kpi E rs j) = kpi E rs j) (hj : j ≤ E.length) : ringN E rs = kpi E rs j := by
  have := kpi_stay h (E.length - j)
  rw [show j + (E.length - j) = E.length by omega] at this
  exact this
theorem eqv_onesL : ∀ A B : List Nat, PyData.eqvAll (pys (onesD A)) (pys (onesD B)) = decide (A = B)
  | [], [] => rfl
  | [], _ :: _ => rfl
  | _ :: _, [] => rfl
  | a :: A, b :: B => by
    have ih := eqv_onesL A B
    show (PyData.eqv (.str (strW [a])) (.str (strW [b])) && PyData.eqvAll (pys (onesD A)) (pys (onesD B))) = _
    rw [ih]
    have e : PyData.eqv (.str (strW [a])) (.str (strW [b])) = decide (a = b) := by
      show (strW [a] == strW [b]) = _
      rw [Bool.eq_iff_iff, beq_iff_eq, decide_eq_true_iff]
      exact ⟨fun z => by have := strW_inj z; simpa using this, fun z => by rw [z]⟩
    rw [e, Bool.eq_iff_iff, Bool.and_eq_true, decide_eq_true_iff, decide_eq_true_iff, decide_eq_true_iff]
    exact ⟨fun ⟨h1, h2⟩ => by rw [h1, h2], fun h => by cases h; exact ⟨rfl, rfl⟩⟩
theorem eq_onesT {A B : List Nat} (hA : ∀ c ∈ A, 97 ≤ c ∧ c ≤ 122) (hB : ∀ c ∈ B, 97 ≤ c ∧ c ≤ 122) : eqG s (.tup (onesD A)) (.tup (onesD B)) = some (.bl (decide (A = B))) := by
  obtain ⟨a1, a2⟩ := (OkD.tup (W := 12) (D := 0) (n := A.length) (okd_ones hA) (by rw [List.length_map]; exact Nat.le_refl _)).shaped (by decide)
  obtain ⟨b1, b2⟩ := (OkD.tup (W := 12) (D := 0) (n := B.length) (okd_ones hB) (by rw [List.length_map]; exact Nat.le_refl _)).shaped (by decide)
  unfold eqG
  dsimp only
  rw [if_pos ⟨a1, b1, a2, b2⟩]
  show some (Dt.bl (PyData.eqvAll (pys (onesD A)) (pys (onesD B)))) = _
  rw [eqv_onesL]
end

end DL

namespace DL
open PySem PySem.Spec PyProof.Rows L2
end DL

namespace DL
open PySem PySem.Spec PyProof.Rows L2
end DL

namespace DL
open PySem PySem.Spec PyProof.Rows L2
def hlst (s : Sto) (a : Addr) : Option (List Dt) := match s.lookup a with
  | some (.lst xs) => some xs
  | _ => none
theorem hlst_some {s : Sto} {a : Addr} {xs : List Dt} (h : hlst s a = some xs) : s.lookup a = some (.lst xs) := by
  unfold hlst at h
  split at h
  · rename_i q; cases h; exact q
  · cases h
theorem fresh_addr (L : List Addr) : ∃ p : Addr, p ∉ L := by
  have key : ∀ L : List Nat, ∀ a ∈ L, a < L.sum + 1 := by
    intro L
    induction L with
    | nil => intro a ha; cases ha
    | cons b L ih =>
      intro a ha
      rw [List.sum_cons]
      rcases List.mem_cons.mp ha with rfl | ha
      · omega
      · have := ih a ha; omega
  exact ⟨(L : List Nat).sum + 1, fun h => Nat.lt_irrefl _ (key L _ h)⟩
end DL

namespace DL
open PySem PySem.Spec PyProof.Rows L2
end DL

namespace DL
open PySem PySem.Spec PyProof.Rows L2
end DL

namespace DL
open PySem PySem.Spec PyProof.Rows L2
end DL

namespace DL
open PySem PySem.Spec PyProof.Rows L2
end DL

namespace DL
open PySem PySem.Spec PyProof.Rows L2
section
variable {prog : Program} {w : World} {A : Around} {E : Value → Shared → Prop} {s : Shared} {l : Addr} {its : List Value} {ns : List Int} {dv : Value} {Q : Value → Shared → Prop}
theorem moved_eq {wr : List Addr} {s s' : Shared} (m : Moved wr (fun a b => b = a) s s') : s' = { s with heap := s'.heap, toks := s'.toks } := by
  obtain ⟨h, g, d, o, t⟩ := m
  cases s; cases s'
  simp only at g d o
  subst g; subst d; subst o
  rfl
theorem max_rawD (hh : A.handled = none) (hl : s.heap.IsList l its.toArray) (hi : IntsAre its ns)
    (h0 : ns = [] → ∀ h' tk, (∀ b o, s.heap.get? b = some o → h'.get? b = some o) → Q dv { s with heap := h', toks := tk })
    (h1 : 0 < ns.length → ∀ h' tk M t', (∀ b o, s.heap.get? b = some o → h'.get? b = some o) → M ∈ ns → (∀ a, a ∈ ns → a ≤ M) → Q (.int M t') { s with heap := h', toks := tk }) :
    wpAny (model prog w) A (call (.builtin "max") [.ref l] [(Str.ofString "default", dv)]) Q E s := by
  obtain ⟨xs, e⟩ := hi.allInts.items
  have hn : numsOf (intItems xs).toList = ns := by rw [← e]; exact hi.numsOf
  rw [nums_intItems] at hn
  subst hn
  rw [e] at hl
  refine call_max_walkD (iter_intList hl fun s₂ e st hfp hlI => ?_)
  subst e
  have hlt : ∀ b o, s.heap.get? b = some o → b ∉ [s.heap.objs.size] := fun b o q hm => by
    exact absurd (List.mem_singleton.mp hm ▸ Heap.lt_size q) (Nat.lt_irrefl _)
  refine ⟨_, _, _, _, _, _, _, s.heap, fun i j => decide (numAt xs i > numAt xs j), rfl, (Walks.list (A := A.in1) hh _ l hlI (intItems xs)).toS, st, hfp, hlt, fun b o q => Heap.get?_push_of_some _ q, fun hz s' m => ?_, fun hz => ⟨fun i j vi vj s3 Q3 E3 _ hi hj q => CmpOf.ints_gt (numAt xs) (fun _ _ => intItems_at) i j vi vj s3 Q3 E3 hi hj q, fun v s' hP m => ?_⟩⟩
  · rw [moved_eq m]
    exact h0 (by
      have : xs.size = 0 := by simpa [intItems] using hz
      rw [List.map_eq_nil_iff]
      exact List.eq_nil_of_length_eq_zero (by rw [Array.length_toList]; exact this)) _ _ (old_kept fun b o hb q => m.heap b o hb q)
  · have hsz : 0 < xs.size := by simpa [intItems] using hz
    have hv : (intItems xs)[argBest (fun i j => decide (numAt xs i > numAt xs j)) (xs.size - 1)]? = some v := by simpa [intItems] using hP
    obtain ⟨t, rfl⟩ := intItems_at hv
    obtain ⟨k1, k2⟩ := argBest_gt (numAt xs) (xs.size - 1)
    rw [moved_eq m]
    refine h1 (by rw [List.length_map, Array.length_toList]; exact hsz) _ _ _ t (old_kept fun b o hb q => m.heap b o hb q) ?_ fun a ha => ?_
    · rw [numAt_eq]; exact PySem.getD_mem (by rw [List.length_map, Array.length_toList]; omega)
    · obtain ⟨j, hj, rfl⟩ := mem_getD ha
      rw [List.length_map, Array.length_toList] at hj
      rw [← numAt_eq]; exact k2 j (by omega)
end
def rMaxDf (K : PySem.W.Frag) : List V → List V → Hp → VK → Prop := fun vs zs H Q => ∃ (a : Addr) (ns : List Int) (d : Int), vs = [V.ref a] ∧ zs = [V.int d] ∧ SqL K H a (ns.map V.int) ∧ (ns = [] → Q (.int d) H) ∧ (0 < ns.length → ∀ m, m ∈ ns → (∀ y, y ∈ ns → y ≤ m) → Q (.int m) H)
theorem cr_maxDf {X : Cx} (hc : X.calm = true) : CallRK X (.builtin "max") ["default"] (rMaxDf X.K) := by
  intro pins s σ H xs zs us ws Q I rx rz h
  obtain ⟨a, ns, d, rfl, rfl, hs, q0, q1⟩ := h
  obtain ⟨its, rv, hl, _⟩ := I.list hs
  rw [Vals.ref1 rx]
  obtain ⟨u, rfl, t, rfl⟩ := Vals.one rz
  exact max_rawD (I.ok.hd hc) hl.isList rv.ints (fun hz h' tk hk => ⟨.int _, H, I.kept hk, ⟨_, rfl⟩, q0 hz⟩) fun hz h' tk m t' hk h1 h2 => ⟨.int _, H, I.kept hk, ⟨_, rfl⟩, q1 hz m h1 h2⟩
def maxDG (_ : Sto) (x y : Dt) : Option Dt := match x, y with
  | .lst xs, .int d => match intsOf xs with
    | some (m :: r) => some (.int (maxI m r))
    | some [] => some (.int d)
    | none => none
  | _, _ => none
theorem opd_maxD {K : PySem.W.Frag} : OpD K (fun v w H Q => rMaxDf K [v] [w] H Q) maxDG := by
  intro ft F H s v w x y z Q b rx ry hg k
  unfold maxDG at hg
  split at hg
  · rename_i ds d
    obtain ⟨a, vs, rfl, e, rs⟩ := rx.lst b
    split at hg
    · rename_i m r q
      cases hg
      rw [ints_map q] at rs
      rw [rs.of_ints] at e
      refine ⟨a, m :: r, d, rfl, by rw [ry.int], SqL.of e, fun z => (by cases z), fun _ y hy hm => ?_⟩
      obtain ⟨h1, h2⟩ := maxI_ok r m
      have : y = maxI m r := Int.le_antisymm (h2 y hy) (hm _ h1)
      rw [this]
      exact k _ F H Go.refl b (.int _)
    · rename_i q
      cases hg
      rw [ints_map q] at rs
      rw [rs.of_ints] at e
      exact ⟨a, [], d, rfl, by rw [ry.int], SqL.of e, fun _ => k _ F H Go.refl b (.int _), fun z => absurd z (Nat.lt_irrefl _)⟩
    · cases hg
  · cases hg
theorem d_maxD {X : Cx} {O : List Nat} {e f : Expr} {p pos kp : Pos} {fa fb : Fe} (hc : X.calm = true) (hg : Gl X "max") (hm : X.mg "max" = none) (ha : PE X e (tB X.K O fa)) (hb : PE X f (tB X.K O fb))
    (he : backTo pos (starEach [e] X.env) = (false, eval e X.env) :: backTo pos (starEach [] X.env) := by rfl) (hs : starEach [e] X.env = (false, eval e X.env) :: starEach [] X.env := by rfl) (hpl : (backTo pos (starEach [e] X.env)).any (·.1) = false := by rfl)
    (hall : (backToKw pos (keywordEach [⟨some "default", f, kp⟩] X.env)).all (·.1.isSome) = true := by rfl) (hnone : (backToKw pos (keywordEach [⟨some "default", f, kp⟩] X.env)).any (·.1.isNone) = false := by rfl) (hks : (backToKw pos (keywordEach [⟨some "default", f, kp⟩] X.env)).filterMap (·.1) = ([("default" : Str)] : List Str) := by rfl) :
    PE X (.Call (.Name "max" p) [e] [⟨some "default", f, kp⟩] pos) (tD X.K O (bind2 fa fb maxDG)) :=
  pe_imp (pe_callBK (cr_maxDf hc) hg hm rfl (pa_cons ha pa_nil hs) (pk_cons hb pk_nil) (by decide) (by decide) he hpl hall hnone hks) (fun σ H Q h => tOp_d opd_maxD σ H Q h)
end DL

namespace DL
open PySem PySem.Spec PyProof.Rows L2
end DL

namespace DL
open PySem PySem.Spec PyProof.Rows L2
inductive Rx where | ok (d : Dt) | ex (c : Str) (fs : List (Str × Dt))
abbrev Fx := Env → Sto → Option (Rx × Sto)
def RepFs (K : PySem.W.Frag) (F : Hp) (fs : List (Str × V)) (ds : List (Str × Dt)) : Prop := fs.map (·.1) = ds.map (·.1) ∧ Reps K F (fs.map (·.2)) (ds.map (·.2))
theorem RepFs.mono {K : PySem.W.Frag} {F F' : Hp} (e : Same F F') {fs : List (Str × V)} {ds : List (Str × Dt)} (h : RepFs K F fs ds) : RepFs K F' fs ds := ⟨h.1, Reps.mono e _ _ h.2⟩
def ExcAt (K : PySem.W.Frag) (mg : Str → Option Value) (F H : Hp) (cls : Value) (d : Option Addr) (c : Str) (ds : List (Str × Dt)) : Prop :=
  ∃ (C dd : Addr) (fs : List (Str × V)), cls = .ref C ∧ mg c = some (.ref C) ∧ d = some dd ∧ H dd = some (.xd fs) ∧ RepFs K F fs ds
def postRx (K : PySem.W.Frag) (mg : Str → Option Value) (ft : List Addr) (W : XK) (F H : Hp) (s' : Sto) (Q : VK) : Rx → Prop
  | .ok d => ∀ v F' H', Go ft F H F' H' → Bs K ft F' H' s' → Rep K F' v d → Q v H'
  | .ex c ds => ∀ cls d F' H', Go ft F H F' H' → Bs K ft F' H' s' → ExcAt K mg F' H' cls d c ds → W cls d H'
structure FnE (P : Program) (w : World) (K : PySem.W.Frag) (mg : Str → Option Value) (base : Heap) (k : Nat) (f : Addr) (fd : FuncData) (ps : List Str) (sp : Sp) : Prop where
  len : ∀ vs H Q E, sp vs H Q E → vs.length = ps.length
  run : ∀ (A : Around) (outer : List PySem.Env) (s : Shared) (H : Hp) (args : Args) (us : List Value) (vs : List V) (Q : VK) (E : XK), Room k A → A.guards = some [] →
    Env0 P w K mg base A outer s H → BindsTo s fd args (ps.zip us) → Vals vs us → sp vs H Q E → codeAny (model P w) A (.call (.ref f) args) (CR (L2.CX P w) outer P w H s Q E) s
inductive OutX where | of (o : Out) | ex (c : Str) (fs : List (Str × Dt))
def postSR (K : PySem.W.Frag) (mg : Str → Option Value) (E : XK) (g : Gd) (L O' : List Nat) (D : Ends) (F : Hp) (s' : Sto) : OutX → Prop
  | .of o => post K g L O' D F s' o
  | .ex c ds => ∀ cls d F' H', Go g.ft g.f0 g.he F' H' → Bs K g.ft F' H' s' → ExcAt K mg F' H' cls d c ds → E cls d H'
theorem postSR.mono {K : PySem.W.Frag} {mg : Str → Option Value} {E : XK} {g : Gd} {L O' : List Nat} {D : Ends} {F F1 : Hp} {s' : Sto} {o : OutX} (e : Same F F1) (h : postSR K mg E g L O' D F s' o) : postSR K mg E g L O' D F1 s' o := by
  cases o with
  | of o => exact post.mono e h
  | ex c ds => exact h
end DL

namespace DL
open PySem PySem.Spec PyProof.Rows L2
section
variable {X : Cx} {W : WX} {O : List Nat} {k n : Nat} {f : Addr} {fd : FuncData} {ps ks : List Str} {x : Str} {p pos kpos : Pos} {e : Expr} {es : List Expr} {kws : List Keyword} {fa fk : Fa} {sp : Sp} {Fn : Fnx}
theorem postRx.mono {K : PySem.W.Frag} {mg : Str → Option Value} {ft : List Addr} {W : XK} {F H F1 H1 : Hp} {s1 s' : Sto} {Q : VK} {r : Rx} (x1 : Go ft F H F1 H1) (b1 : Bs K ft F1 H1 s1) (h : postRx K mg ft W F H s' Q r) : postRx K mg ft W F1 H1 s' Q r := by
  cases r with
  | ok d => exact fun v F2 H2 x2 b2 r2 => h v F2 H2 (x1.trans x2 b1) b2 r2
  | ex c ds => exact fun cls d F2 H2 x2 b2 z => h cls d F2 H2 (x1.trans x2 b1) b2 z
end
end DL

namespace DL
open PySem PySem.Spec PyProof.Rows L2
theorem FnE.mono {P : Program} {w : World} {K : PySem.W.Frag} {mg : Str → Option Value} {base : Heap} {i k : Nat} {f : Addr} {fd : FuncData} {ps : List Str} {sp : Sp} (G : FnE P w K mg base i f fd ps sp) (h : i ≤ k) : FnE P w K mg base k f fd ps sp :=
  ⟨G.len, fun A outer s H args us vs Q E hr => G.run A outer s H args us vs Q E (hr.mono h)⟩
end DL

namespace DL
open PySem PySem.Spec PyProof.Rows L2
structure ESt (K : PySem.W.Frag) (mg : Str → Option Value) (cs : List Str) (i : Nat) (a : Addr) (cls : Value) (d : Option Addr) (ft : List Addr) (F : Hp) (s : Sto) (c : Str) (fs : List (Str × Dt)) (σ : L2.St) (H : Hp) : Prop where
  at_ : σ[i]? = some (some (.ref a))
  bs : Bs K ft F H s
  ex : ExcAt K mg F H cls d c fs
  mem : c ∈ cs
section
variable {K : PySem.W.Frag} {mg : Str → Option Value} {cs : List Str} {i : Nat} {a : Addr} {cls : Value} {d : Option Addr} {ft : List Addr} {F F' H H' : Hp} {s s' : Sto} {c : Str} {fs : List (Str × Dt)} {σ : L2.St}
theorem ExcAt.step (x : Go ft F H F' H') (b : Bs K ft F H s) (h : ExcAt K mg F H cls d c fs) : ExcAt K mg F' H' cls d c fs := by
  obtain ⟨C, dd, l, e1, e2, e3, e4, e5⟩ := h
  refine ⟨C, dd, l, e1, e2, e3, x.ext dd _ e4 fun hm => ?_, e5.mono x.sam⟩
  obtain ⟨d', o, _, e, r⟩ := b.has hm
  rw [e4] at e
  cases e
  cases r
theorem ESt.step (h : ESt K mg cs i a cls d ft F s c fs σ H) (x : Go ft F H F' H') (b : Bs K ft F' H' s') : ESt K mg cs i a cls d ft F' s' c fs σ H' := ⟨h.at_, b, h.ex.step x h.bs, h.mem⟩
end
end DL

namespace DL
open PySem PySem.Spec PyProof.Rows L2
end DL

namespace DL
open PySem PySem.Spec PyProof.Rows L2
end DL

namespace DL
open PySem PySem.Spec PyProof.Rows L2
end DL

namespace DL
open PySem PySem.Spec PyProof.Rows L2
structure FnAtC (K : PySem.W.Frag) (mg : Str → Option Value) (x : Str) (st : Stmt) (c : Addr) : Prop where
  ex : ∃ f fd, L2.Fun K x x st f fd ∧ mg x = some (.ref f) ∧ fd.code = .ref c
section
variable {g : Prop} {K : PySem.W.Frag} {mg : Str → Option Value} {h : Heap} {x : Str} {st : Stmt} {c P : Addr}
theorem FnAtC.fn (A : FnAtC K mg x st c) : FnAt K mg x st := by
  obtain ⟨f, fd, F, m, _⟩ := A.ex
  exact ⟨f, fd, F, m⟩
end
end DL

namespace DL
open PySem PySem.Spec PyProof.Rows L2
end DL

namespace DL
open PySem PySem.Spec PyProof.Rows L2
end DL

namespace DL
open PySem PySem.Spec PyProof.Rows L2
def Dry (F F' : Hp) : Prop := ∀ b o, F b = some o → (∀ l, o ≠ .xd l) → F' b = some o
section
variable {K : PySem.W.Frag} {F F' : Hp}
theorem Dry.seq {a : Addr} {xs : List V} (e : Dry F F') (h : SqL K F a xs) : SqL K F' a xs := by
  rcases h with (h | ⟨o, h⟩) | h
  · exact .inl (.inl (e _ _ h fun _ z => by cases z))
  · exact .inl (.inr ⟨o, e _ _ h fun _ z => by cases z⟩)
  · exact .inr h
end
end DL

namespace DL
open PySem PySem.Spec PyProof.Rows L2
end DL

open PySem PySem.Spec PyProof.Rows L2
namespace DL
end DL

namespace DL
open PySem PySem.Spec PyProof.Rows L2
end DL

namespace DL
open PySem PySem.Spec PyProof.Rows L2
end DL

namespace DL
open PySem PySem.Spec PyProof.Rows L2
section
variable {K : PySem.W.Frag} {g : Gd} {O : List Nat} {F H : Hp} {σ : L2.St} {env : Env} {s : Sto}
theorem Stt.grow {q : Addr} {o : HO} {d : Dt} (h : Stt K g O F H σ env s) (e : H q = some o) (r : ObS K F o d) (n : F q = none) (nf : q ∉ g.ft) (np : ∀ i, i ∈ O → σ[i]? ≠ some (some (.ref q))) : Stt K ⟨q :: g.ft, g.he, g.f0⟩ O F H σ env ((q, d) :: s) := by
  refine ⟨⟨h.bs.sub, ?_, List.nodup_cons.mpr ⟨nf, h.bs.nd⟩, fun a d' hm => ?_, fun a ha => ?_⟩, ⟨h.sl.len, h.sl.pu, fun j hj => ?_, h.sl.di⟩, ⟨fun a o e na => h.go.ext a o e fun z => na (List.mem_cons_of_mem _ z), h.go.sam, h.go.new⟩⟩
  · show q :: s.map (·.1) = q :: g.ft
    rw [h.bs.ad]
  · rcases List.mem_cons.mp hm with z | z
    · cases z; exact ⟨o, e, r⟩
    · exact h.bs.st a d' z
  · rcases List.mem_cons.mp ha with rfl | z
    · exact n
    · exact h.bs.fr a z
  · obtain ⟨p, o, d', e1, e2, e3, rr, n', nf', nh'⟩ := h.sl.ow j hj
    refine ⟨p, o, d', e1, e2, e3, rr, n', fun z => ?_, nh'⟩
    rcases List.mem_cons.mp z with rfl | z
    · exact np j hj e1
    · exact nf' z
theorem repk_swap {F' : Hp} {q : Addr} {key : Key} {d : Dt} (sam : Same F F') (r : Rep K F' (.ref q) d) : ∀ {vs : List (Key × V)} {ks : List (Key × Dt)}, Repk K F vs ks → (∀ kv ∈ ks, kv.1 = key → kv.2 = .ref q) → Repk K F' vs (ks.map fun kv => if kv.1 = key then (kv.1, d) else kv)
  | _, [], h, _ => by cases h; exact .nil
  | _, (k, e) :: ks, h, hk => by
    cases h with
    | cons h1 h2 =>
      have ih := repk_swap sam r h2 fun kv hm => hk kv (List.mem_cons_of_mem _ hm)
      rw [List.map_cons]
      by_cases c : k = key
      · have e1 : e = .ref q := hk (k, e) List.mem_cons_self c
        subst e1
        cases h1
        rw [if_pos c]
        exact .cons r ih
      · rw [if_neg c]
        exact .cons (Rep.mono sam _ _ h1) ih
theorem Stt.shrink {q : Addr} {ys : List Dt} {ks : List (Key × Dt)} {key : Key} {i : Nat} (h : Stt K ⟨q :: g.ft, g.he, g.f0⟩ O F H σ env ((q, .lst ys) :: s)) (hi : i ∈ O) (nh : g.he q = none) (hk : dctAt env i = some ks)
    (ha : (ks.any fun kv => decide (kv.1 = key)) = true) (hv : ∀ kv ∈ ks, kv.1 = key → kv.2 = .ref q) : ∃ F', Same F F' ∧ Stt K g O F' H σ (env.set i (some (.dct (putD ks key (.lst ys))))) s := by
  obtain ⟨o, e, r⟩ := h.bs.st q _ List.mem_cons_self
  have r := r.lstR
  cases r with
  | @lst vs ds r =>
    have hF : F q = none := h.bs.fr q List.mem_cons_self
    have sam : Same F (upd F q (.lst vs)) := fun a o e => by rw [upd_ne (ne_of_none e hF)]; exact e
    have hat : ∀ a o, upd F q (.lst vs) a = some o → (a = q ∧ o = .lst vs) ∨ F a = some o := fun a o e => by
      by_cases c : a = q
      · subst c
        rw [upd_same] at e
        cases e
        exact .inl ⟨rfl, rfl⟩
      · rw [upd_ne c] at e; exact .inr e
    have nd := List.nodup_cons.mp h.bs.nd
    refine ⟨upd F q (.lst vs), sam, ⟨⟨fun a o' e' => ?_, (List.cons.inj h.bs.ad).2, nd.2, fun a d hm => ?_, fun a ha => ?_⟩, ⟨by rw [List.length_set]; exact h.sl.len, fun j d hj ej => ?_, fun j hj => ?_, h.sl.di⟩, ⟨fun a o' e' na => ?_, h.go.sam.trans sam, fun a o' e' => ?_⟩⟩⟩
    · rcases hat a o' e' with ⟨rfl, rfl⟩ | z
      · exact e
      · exact h.bs.sub a o' z
    · obtain ⟨o', e', r'⟩ := h.bs.st a d (List.mem_cons_of_mem _ hm)
      exact ⟨o', e', r'.mono sam⟩
    · have c : a ≠ q := fun z => nd.1 (z ▸ ha)
      rw [upd_ne c]
      exact h.bs.fr a (List.mem_cons_of_mem _ ha)
    · have c : i ≠ j := fun z => hj (z ▸ hi)
      rw [List.getElem?_set_ne c] at ej
      obtain ⟨v, f1, r1⟩ := h.sl.pu j d hj ej
      exact ⟨v, f1, Rep.mono sam _ _ r1⟩
    · obtain ⟨p, o', d', e1, e2, e3, rr, n', nf', nh'⟩ := h.sl.ow j hj
      have c : p ≠ q := fun z => nf' (by rw [z]; exact List.mem_cons_self)
      have nf2 : p ∉ g.ft := fun z => nf' (List.mem_cons_of_mem _ z)
      by_cases cj : i = j
      · subst cj
        rw [dctAt_some hk] at e2
        cases e2
        have hl : i < env.length := (List.getElem?_eq_some_iff.mp (dctAt_some hk)).1
        cases rr with
        | dct rr =>
          refine ⟨p, _, _, e1, List.getElem?_set_self hl, e3, ?_, by rw [upd_ne c]; exact n', nf2, nh'⟩
          unfold putD
          rw [if_pos ha]
          refine .dct (repk_swap sam ?_ rr hv)
          exact .lst (upd_same ..) (Reps.mono sam _ _ r)
      · refine ⟨p, o', d', e1, by rw [List.getElem?_set_ne cj]; exact e2, e3, rr.mono sam, by rw [upd_ne c]; exact n', nf2, nh'⟩
    · refine h.go.ext a o' e' fun z => ?_
      rcases List.mem_cons.mp z with rfl | z
      · have e' : g.he a = some o' := e'
        rw [nh] at e'; cases e'
      · exact na z
    · rcases hat a o' e' with ⟨rfl, rfl⟩ | z
      · exact .inr nh
      · exact h.go.new a o' z
end
def NewR (A : Fs) (i : Nat) (ks : List (Key × Dt)) (key : Key) (xs : List Dt) (env : Env) (s : Sto) (r : Env × Sto) : Prop := ∀ q, q ∉ s.map (·.1) → ∃ e4 k4 ys, A (env.set i (some (.dct (putD ks key (.ref q))))) ((q, .lst xs) :: s) = some (.nx e4, (q, .lst ys) :: r.2) ∧ dctAt e4 i = some k4 ∧
  (k4.any fun kv => decide (kv.1 = key)) = true ∧ (∀ kv ∈ k4, kv.1 = key → kv.2 = .ref q) ∧ r.1 = e4.set i (some (.dct (putD k4 key (.lst ys))))
open Classical in
noncomputable def newC (A : Fs) (i : Nat) (ks : List (Key × Dt)) (key : Key) (xs : List Dt) (env : Env) (s : Sto) : Option (Env × Sto) := if h : ∃ r, NewR A i ks key xs env s r then some h.choose else none
theorem newC_ev {A : Fs} {i : Nat} {ks : List (Key × Dt)} {key : Key} {xs : List Dt} {env : Env} {s : Sto} {r : Env × Sto} (h : NewR A i ks key xs env s r) : newC A i ks key xs env s = some r := by
  unfold newC
  have he : ∃ r, NewR A i ks key xs env s r := ⟨r, h⟩
  rw [dif_pos he]
  have h2 := he.choose_spec
  obtain ⟨p, hp⟩ := fresh_addr (s.map (·.1))
  obtain ⟨e4, k4, ys, a1, a2, a3, a4, a5⟩ := h p hp
  obtain ⟨f4, l4, zs, b1, b2, b3, b4, b5⟩ := h2 p hp
  congr 1
  generalize he.choose = r' at b1 b5
  rw [a1] at b1
  injection b1 with b1
  obtain ⟨c1, c2⟩ := Prod.mk.inj b1
  injection c1 with c1
  subst c1
  obtain ⟨c3, c4⟩ := List.cons.inj c2
  obtain ⟨_, c5⟩ := Prod.mk.inj c3
  injection c5 with c5
  subst c5
  rw [a2] at b2
  cases b2
  obtain ⟨r1, r2⟩ := r
  obtain ⟨r1', r2'⟩ := r'
  dsimp only at a5 b5 c4
  rw [a5, b5, c4]
theorem newC_some {A : Fs} {i : Nat} {ks : List (Key × Dt)} {key : Key} {xs : List Dt} {env : Env} {s : Sto} {r : Env × Sto} (h : newC A i ks key xs env s = some r) : NewR A i ks key xs env s r := by
  unfold newC at h
  split at h
  · rename_i he
    cases h
    exact he.choose_spec
  · cases h
noncomputable def newhS (i : Nat) (fk fn : Fe) (A : Fs) : Fs := fun env s => match fn env s with
  | some (.lst xs, s1) => match fk env s1, dctAt env i with
    | some (kd, s2), some ks => match keyOf kd with
      | some key => if ks.length < sizeLine then (newC A i ks key xs env s2).map fun r => (.nx r.1, r.2) else none
      | none => none
    | _, _ => none
  | _ => none
section
variable {X : Cx} {L O : List Nat} {i : Nat} {fk fn fo f : Fe} {A : Fs} {o ix e call : Expr} {pos pos' : Pos} {sts : List Stmt}
theorem ss_newh (h : PS X (.Assign [.Subscript o ix pos'] e pos) (sDPut (tVar i) (tB X.K O fk) (tN X.K O fn))) (hA : PSs X sts (tS X.K L O O A)) (hi : i ∈ O := by decide) : PSs X (.Assign [.Subscript o ix pos'] e pos :: sts) (tS X.K L O O (newhS i fk fn A)) := pss_imp (pss_cons h hA) fun D σ H ⟨g, F, env, s, out, s', st, hf, k⟩ => by
  unfold newhS at hf
  split at hf
  · rename_i xs s1 q1
    split at hf
    · rename_i kd s2 ks q2 q3
      split at hf
      · rename_i key q4
        split at hf
        · rename_i hl
          cases qn : newC A i ks key xs env s2 with
          | none => rw [qn] at hf; cases hf
          | some r =>
            rw [qn] at hf
            have hf : some (Out.nx r.1, r.2) = some (out, s') := hf
            injection hf with hf
            obtain ⟨rfl, rfl⟩ := Prod.mk.inj hf
            have nr := newC_some qn
            refine ⟨g, F, env, s, _, s1, st, q1, fun q oq F1 H1 x1 b1 hq fq eq rq => ?_⟩
            have st1 := st.step x1 b1
            obtain ⟨p, op, d0, e1, e2, e3, rr, n, nf, nh⟩ := st1.sl.ow i hi
            rw [dctAt_some q3] at e2
            cases e2
            have npq : ∀ j, j ∈ O → σ[j]? ≠ some (some (.ref q)) := fun j hj z => by
              obtain ⟨pj, oj, dj, f1, f2, f3, _⟩ := st.sl.ow j hj
              rw [f1] at z
              cases z
              rw [f3] at hq; cases hq
            have nfq : q ∉ g.ft := fun z => by
              obtain ⟨dd, oo, z1, z2, _⟩ := st.bs.has z
              rw [z2] at hq; cases hq
            have nhq : g.he q = none := by
              cases z : g.he q with
              | none => rfl
              | some u =>
                have := st.go.ext q u z nfq
                rw [this] at hq; cases hq
            have npp : p ≠ q := fun z => npq i hi (by rw [← z]; exact e1)
            cases rr with
            | dct rr =>
              rename_i vs
              refine ⟨.ref p, e1, g, F1, env, s1, kd, s2, st1, q2, fun w F2 H2 x2 b2 r2 => ?_⟩
              have st2 := st1.step x2 b2
              have e4 : H2 p = some (.dK vs) := x2.ext p _ e3 nf
              have e5 : H2 q = some oq := x2.ext q _ eq nfq
              obtain rfl := keyOf_V r2 q4
              have f2q : F2 q = none := by
                cases z : F2 q with
                | none => rfl
                | some u =>
                  rcases x2.new q u z with z | z
                  · rw [fq] at z; cases z
                  · rw [eq] at z; cases z
              refine ⟨p, _, rfl, DPut.k e4 (by rw [rr.length]; exact hl), ?_⟩
              have st3 := st2.change hi e1 e4 (.dct (Repk.put key (Rep.ref q) (Repk.mono x2.sam _ _ rr)))
              have e6 : upd H2 p (.dK (putK vs key (.ref q))) q = some oq := by rw [upd_ne (Ne.symm npp)]; exact e5
              have st4 := st3.grow e6 (rq.mono x2.sam).toS f2q nfq npq
              obtain ⟨e7, k7, ys, a1, a2, a3, a4, a5⟩ := nr q (by rw [b2.ad]; exact nfq)
              refine ⟨_, F2, _, _, _, _, st4, a1, fun σ' H' F' sm st' => ?_⟩
              obtain ⟨F5, sm5, st5⟩ := st'.shrink hi nhq a2 a3 a4
              rw [← a5] at st5
              exact k σ' H' F5 ((x1.sam.trans x2.sam).trans (sm.trans sm5)) st5
        · cases hf
      · cases hf
    · cases hf
  · cases hf
def hextE (fo f : Fe) : Fs := fun env s => match fo env s with
  | some (.ref a, s1) => match hlst s1 a, f env s1 with
    | some _, some (.lst es, s2) => match hlst s2 a with
      | some xs => if xs.length + es.length ≤ sizeLine then some (.nx env, s2.map fun q => if q.1 = a then (a, .lst (xs ++ es)) else q) else none
      | none => none
    | _, _ => none
  | _ => none
theorem s_hextE (h : PE X call (tBM X.K "list" rExtend (tB X.K O fo) (tCons (tB X.K O f) tNil))) (hs : swapsWith call none pos.line X.env = pure false := by rfl) : PS X (.Expr call pos) (tS X.K L O O (hextE fo f)) := ps_imp (ps_expr h hs) fun D σ H ⟨g, F, env, s, out, s', st, hf, k⟩ => by
  unfold hextE at hf
  split at hf
  · rename_i p s1 q0
    split at hf
    · rename_i xs0 es s2 q1 q2
      split at hf
      · rename_i xs q3
        split at hf <;> cases hf
        rename_i hl
        refine ⟨g, F, env, s, _, s1, st, q0, fun v0 F0 H0 x0 b0 r0 => ?_⟩
        have st0 := st.step x0 b0
        have ev : v0 = .ref p := by
          rcases r0 with r0 | ⟨_, _, rfl, _, r0, _⟩
          · cases r0; rfl
          · cases r0
        subst ev
        obtain ⟨ob0, e0, r00⟩ := b0.st _ _ (lookup_mem (hlst_some q1))
        have r00 := r00.lstR
        cases r00 with
        | @lst vs0 ds0 r00 =>
          refine ⟨.inl ⟨rfl, vs0, SqL.of e0⟩, g, F0, env, s1, _, _, st0, q2, fun u F1 H1 x1 b1 r1 => ?_⟩
          have st1 := st0.step x1 b1
          obtain ⟨a, us, rfl, e5, r5⟩ := r1.lst b1
          obtain ⟨ob, e4, r4⟩ := b1.st _ _ (lookup_mem (hlst_some q3))
          have r4 := r4.lstR
          cases r4 with
          | @lst vs ds r4 =>
            refine ⟨p, a, vs, us, rfl, rfl, e4, e5, by rw [r4.length, r5.length]; exact hl, ?_⟩
            exact k σ _ F1 (x0.sam.trans x1.sam) (st1.put (lookup_ft b1 (hlst_some q3)) (.lst (r4.append r5)))
      · cases hf
    · cases hf
  · cases hf
end
end DL

namespace DL
open PySem PySem.Spec PyProof.Rows L2
def F_law_dip_k19 : Fs := (seqS (setS 2 (bind2 (bind2 (fVar 0) (fC (.str "count")) ixA) (fC (.int 1)) addAll)) (seqS (hputS 0 (fC (.str "count")) (fVar 2)) (seqS (ifS (asB (bind2 (bind2 (fVar 0) (fC (.str "rest")) ixA) (fC (.int 0)) gtG)) (seqS (setS 3 (bind2 (bindA (aCons (bind2 (fVar 0) (fC (.str "rest")) ixA) aNil) intG) (fVar 1) modG)) (seqS (hputS 0 (fC (.str "rest")) (bind2 (bind2 (fVar 0) (fC (.str "rest")) ixA) (fVar 1) divG)) (retS (fVar 3)))) skipS) (seqS (setS 4 (bind2 (fVar 0) (fC (.str "place")) ixA)) (seqS (hputS 0 (fC (.str "place")) (bind2 (fVar 4) (fC (.int 1)) addAll)) (seqS (setS 5 (fC (.int 104320))) (seqS (ifS (asB (bind2 (bind2 (fVar 0) (fC (.str "cells")) ixA) (bindA aNil lstG) neG)) (setS 5 (bind2 (bind2 (fVar 0) (fC (.str "cells")) ixA) (bind2 (bindA (aCons (fVar 4) aNil) intG) (bindA (aCons (bind2 (fVar 0) (fC (.str "cells")) ixA) aNil) lenG) modG) ixA)) skipS) (seqS (ifS (andT (asB (bind2 (fVar 5) (bind2 (fC (.int 10)) (fC (.int 18)) powG) geG)) (asB (bind2 (fVar 4) (bindA (aCons (bind2 (fVar 0) (fC (.str "cells")) ixA) aNil) lenG) ltG))) (seqS (hputS 0 (fC (.str "rest")) (bind2 (fVar 5) (fVar 1) divG)) (retS (bind2 (bindA (aCons (fVar 5) aNil) intG) (fVar 1) modG))) skipS) (seqS (setS 6 (bind2 (bindA (aCons (bind2 (bind2 (bind2 (bind2 (bindA (aCons (fVar 5) aNil) intG) (fC (.int 2147483353)) modG) (bind2 (fC (.int 6037)) (fVar 2) mulG) addAll) (fC (.int 229)) addAll) (fC (.int 3)) powG) aNil) intG) (fC (.int 2147483647)) modG)) (seqS (setS 6 (bind2 (bindA (aCons (bind2 (bind2 (fVar 6) (bind2 (fC (.int 40037)) (fVar 2) mulG) addAll) (fC (.int 5)) powG) aNil) intG) (fC (.int 2147483587)) modG)) (retS (bind2 (bindA (aCons (bind2 (fVar 6) (fC (.int 128)) divG) aNil) intG) (fVar 1) modG))))))))))))
def V_law_dip_k19 : List Dt → Sto → Option (Dt × Sto) := fnV 7 F_law_dip_k19
def F_law_rings_k19 : Fs := (retS (bindA (aCons (fC (.str "a b>a c;pa:c.l pc:aa.l")) (aCons (fC (.str "a b>a;ll pa:b.l")) (aCons (fC (.str "a b;pa:ba.l")) (aCons (fC (.str "a c>a;pc:a.r pa:aa.l")) (aCons (fC (.str "a b>a c;pa:bc.l pb:.l lr")) (aCons (fC (.str "a b c;pa:b.l pb:c.r pc:ab.l d1l")) aNil)))))) lstG))
def V_law_rings_k19 : List Dt → Sto → Option (Dt × Sto) := fnV 0 F_law_rings_k19
def F_law_any_book_k19 (dp : List Dt → Sto → Option (Dt × Sto)) : Fs := (seqS (ifS (asB (bind2 (callF dp (aCons (fVar 0) (aCons (fC (.int 3)) aNil))) (fC (.int 0)) eqG)) (retS (callF V_law_read_k16 (aCons (callF (V_law_pick_k01 dp) (aCons (fVar 0) (aCons (callF V_law_rings_k19 aNil) aNil))) (aCons (fVar 1) aNil)))) skipS) (retS (callF (V_law_book_k16 dp) (aCons (fVar 0) (aCons (callF V_law_scenes_k16 aNil) (aCons (callF V_law_menu_k16 aNil) (aCons (fVar 1) aNil)))))))
def V_law_any_book_k19 (dp : List Dt → Sto → Option (Dt × Sto)) : List Dt → Sto → Option (Dt × Sto) := fnV 2 (F_law_any_book_k19 dp)
end DL

namespace DL
open PySem PySem.Spec PyProof.Rows L2
end DL

namespace DL
open PySem PySem.Spec PyProof.Rows L2
end DL

namespace DL
open PySem PySem.Spec PyProof.Rows L2
end DL

namespace DL
open PySem PySem.Spec PyProof.Rows L2
end DL

namespace DL
open PySem PySem.Spec PyProof.Rows L2
end DL

namespace DL
open PySem PySem.Spec PyProof.Rows L2
end DL

namespace DL
open PySem PySem.Spec PyProof.Rows L2
end DL

namespace DL
open PySem PySem.Spec PyProof.Rows L2
end DL

namespace DL
open PySem PySem.Spec PyProof.Rows L2 PySem.SeqAt PySem.W
end DL

namespace DL
open PySem PySem.Spec PyProof.Rows L2
end DL

namespace DL
open PySem PySem.Spec PyProof.Rows L2
end DL

namespace DL
open PySem PySem.Spec PyProof.Rows L2
end DL

namespace DL
open PySem PySem.Spec PyProof.Rows L2
end DL

namespace DL
open PySem PySem.Spec PyProof.Rows L2
end DL

namespace DL
open PySem PySem.Spec PyProof.Rows L2
end DL

namespace DL
open PySem PySem.Spec PyProof.Rows L2
end DL

namespace DL
open PySem PySem.Spec PyProof.Rows L2
end DL

namespace DL
open PySem PySem.Spec PyProof.Rows L2
end DL

namespace DL
open PySem PySem.Spec PyProof.Rows L2
end DL

namespace DL
open PySem PySem.Spec PyProof.Rows L2
end DL

namespace DL
open PySem PySem.Spec PyProof.Rows L2
end DL

namespace DL
open PySem PySem.Spec PyProof.Rows L2
end DL

namespace DL
open PySem PySem.Spec PyProof.Rows L2
end DL

namespace DL
open PySem PySem.Spec PyProof.Rows L2
end DL

namespace DL
open PySem PySem.Spec PyProof.Rows L2
end DL

namespace DL
open PySem PySem.Spec PyProof.Rows L2
end DL

namespace DL
open PySem PySem.Spec PyProof.Rows L2
end DL

namespace DL
open PySem PySem.Spec PyProof.Rows L2
end DL

namespace DL
open PySem PySem.Spec PyProof.Rows L2
end DL

namespace DL
open PySem PySem.Spec PyProof.Rows L2
end DL

namespace DL
open PySem PySem.Spec PyProof.Rows L2
end DL

namespace DL
open PySem PySem.Spec PyProof.Rows L2
end DL

namespace DL
open PySem PySem.Spec PyProof.Rows L2
end DL

namespace DL
open PySem PySem.Spec PyProof.Rows L2
end DL

namespace DL
open PySem PySem.Spec PyProof.Rows L2
end DL

namespace DL
open PySem PySem.Spec PyProof.Rows L2
end DL

namespace DL
open PySem PySem.Spec PyProof.Rows L2
end DL

namespace DL
open PySem PySem.Spec PyProof.Rows L2
end DL

namespace DL
open PySem PySem.Spec PyProof.Rows L2
noncomputable section
def Fleast_weights : Fs := (seqS (dropS (callF Vneed_ending (aCons (fVar 0) aNil))) (seqS (setS 1 (dcF (seqF (callF Vletters_of (aCons (fVar 0) aNil))) (tgN 3) yesT (fVar 3) (callF Vgiven_words (aCons (fVar 0) (aCons (fVar 3) aNil))) [3])) (seqS (setNS 2 emptyG) (seqS (whileS (asB (bind2 (bindA (aCons (fVar 2) aNil) lenG) (bindA (aCons (fVar 1) aNil) lenG) ltG)) (forF (itemsI (fVar 1)) (tgP (tgN 3) (tgN 4)) (ifS (andT (asB (bind2 (fVar 3) (fVar 2) notinA)) (truF (bindA (aCons (lc2F (seqF (fVar 4)) (tgN 6) (seqF (fVar 6)) (tgN 7) yesT (bind2 (fVar 7) (fVar 2) inA) [6, 7] [7]) aNil) allG))) (seqS (setS 5 (lcF (seqF (fVar 4)) (tgN 6) yesT (bindA (aCons (lcF (seqF (fVar 6)) (tgN 7) yesT (bind2 (fVar 2) (fVar 7) ixA) [7]) aNil) sumG) [6])) (dputS 2 (fVar 3) (bind2 (fC (.int 1)) (bind2 (fVar 5) (fC (.int 0)) maxDG) addAll))) skipS)) FUEL) (retS (bindA (aCons (lcF (seqF (fVar 1)) (tgN 3) yesT (bind2 (fVar 2) (fVar 3) ixA) [3]) aNil) toTupG))))))
def Vleast_weights : List Dt → Sto → Option (Dt × Sto) := fnV 8 Fleast_weights
end
end DL

namespace DL
open PySem PySem.Spec PyProof.Rows L2
end DL

namespace DL
open PySem PySem.Spec PyProof.Rows L2
end DL

namespace DL
open PySem PySem.Spec PyProof.Rows L2
end DL

namespace DL
open PySem PySem.Spec PyProof.Rows L2
end DL

namespace DL
open PySem PySem.Spec PyProof.Rows L2
end DL

namespace DL
open PySem PySem.Spec PyProof.Rows L2
noncomputable section
def F_law_gives_k19_k19 : Fs := (seqS (setS 1 (bind2 (lcF (seqF (bind2 (fVar 0) (fC (.int 1)) ixA)) (tgN 5) (asB (bind2 (bind2 (fVar 5) (fC (.int 0)) ixA) (fC (.str "lower")) eqG)) (fVar 5) [5]) (bindA aNil lstG) neG)) (seqS (setNS 2 emptyG) (seqS (forF (seqF (bind2 (fVar 0) (fC (.int 0)) ixA)) (tgP (tgN 3) (tgN 4)) (newhS 2 (fVar 3) (ifV (truF (fVar 1)) (bindA (aCons (fVar 4) aNil) toLstG) (bindA aNil lstG)) (forF (seqF (bind2 (fVar 0) (fC (.int 1)) ixA)) (tgN 5) (ifS (andT (asB (bind2 (bind2 (fVar 5) (fC (.int 0)) ixA) (fC (.str "put")) eqG)) (asB (bind2 (bind2 (fVar 5) (fC (.int 1)) ixA) (fVar 3) eqG))) (hextE (bind2 (fVar 2) (fVar 3) ixA) (bindA (aCons (bind2 (fVar 5) (fC (.int 2)) ixA) aNil) toLstSG)) skipS)))) (retS (fVar 2)))))
def V_law_gives_k19_k19 : List Dt → Sto → Option (Dt × Sto) := fnV 6 F_law_gives_k19_k19
def F_law_ringed_k19_k19_k19 : Fs := (seqS (setS 1 (callF V_law_gives_k19_k19 (aCons (fVar 0) aNil))) (seqS (setS 2 (bindA (aCons (fVar 1) aNil) sortedKG)) (seqS (forF (rngF1 (bindA (aCons (fVar 2) aNil) lenG)) (tgN 3) (setS 2 (lcF (seqF (fVar 2)) (tgN 4) (asB (bind2 (lcF (seqF (bind2 (fVar 1) (fVar 4) ixA)) (tgN 5) (asB (bind2 (fVar 5) (fVar 2) inA)) (fVar 5) [5]) (bindA aNil lstG) neG)) (fVar 4) [4]))) (retS (fVar 2)))))
def V_law_ringed_k19_k19_k19 : List Dt → Sto → Option (Dt × Sto) := fnV 6 F_law_ringed_k19_k19_k19
def F_law_least_k19_k19 : Fs := (seqS (parNS [1, 2] [(callF V_law_gives_k19_k19 (aCons (fVar 0) aNil)), emptyG]) (seqS (setS 3 (bind2 (lcF (seqF (bind2 (fVar 0) (fC (.int 1)) ixA)) (tgN 8) (asB (bind2 (bind2 (fVar 8) (fC (.int 0)) ixA) (fC (.str "lower")) eqG)) (fVar 8) [8]) (bindA aNil lstG) neG)) (seqS (forF (seqF (fVar 1)) (tgN 4) (dputS 2 (fVar 4) (fC (.int 1)))) (seqS (forF (rngF1 (bindA (aCons (fVar 1) aNil) lenG)) (tgN 5) (forF (seqF (bind2 (fVar 0) (fC (.int 0)) ixA)) (tgP (tgN 4) (tgN 6)) (seqS (setNS 7 (bind2 (bindA (aCons (fC (.int 1)) aNil) lstG) (lcF (seqF (fVar 6)) (tgN 9) (truF (fVar 3)) (bind2 (bind2 (fVar 2) (fVar 9) ixA) (fC (.int 1)) addAll) [9]) catG)) (seqS (forF (seqF (bind2 (fVar 0) (fC (.int 1)) ixA)) (tgN 8) (ifS (andT (asB (bind2 (bind2 (fVar 8) (fC (.int 0)) ixA) (fC (.str "put")) eqG)) (asB (bind2 (bind2 (fVar 8) (fC (.int 1)) ixA) (fVar 4) eqG))) (appS 7 (bind2 (fC (.int 1)) (bindA (aCons (lcF (seqF (bind2 (fVar 8) (fC (.int 2)) ixA)) (tgN 9) yesT (bind2 (fVar 2) (fVar 9) ixA) [9]) aNil) sumG) addAll)) skipS)) (dputS 2 (fVar 4) (bindA (aCons (fVar 7) aNil) maxLG)))))) (retS (bindA (aCons (lcF (seqF (bind2 (fVar 0) (fC (.int 0)) ixA)) (tgP (tgN 4) (tgN 6)) yesT (bind2 (fVar 2) (fVar 4) ixA) [4, 6]) aNil) toTupG))))))
def V_law_least_k19_k19 : List Dt → Sto → Option (Dt × Sto) := fnV 10 F_law_least_k19_k19
end
end DL

namespace DL
open PySem PySem.Spec PyProof.Rows L2
local macro_rules | `(tactic| walk_at "op") => `(tactic| first | assumption | with_reducible rfl | exact cat_w (by omega) | exact sub_nn (by omega) | exact add_nn | exact at_w (by omega) (by assumption) | exact len_w (by omega) | exact in_l1 | exact notin_l1 | exact in_t1 | exact notin_t1 | exact in_k1 | exact notin_k1 | exact in_wl | exact notin_wl | exact in_wt | exact notin_wt | exact in_kd | exact notin_kd | exact eq_ww | exact ne_ww | exact any_bl | exact all_bl | rfl)
local macro_rules | `(tactic| walk_at "ev") => `(tactic| first | with_reducible exact c0 | ((with_reducible apply v0); rfl) | with_reducible exact a0 | with_reducible assumption | ((with_reducible apply aCons_ev); (focus walk_at "ev"); (focus walk_at "ev")) | ((with_reducible apply bindA_ev); (focus walk_at "ev"); (focus walk_at "op")) | ((with_reducible apply bind2_ev); (focus walk_at "ev"); (focus walk_at "ev"); (focus walk_at "op")) | ((with_reducible apply bind1_ev); (focus walk_at "ev"); (focus walk_at "op")) | ((with_reducible apply asB_ev); (focus walk_at "ev")) | ((with_reducible apply call_ev); (focus walk_at "ev"); (focus first | assumption | rfl)) | ((with_reducible apply truF_ev); (focus walk_at "ev"); (focus first | assumption | rfl)) | ((with_reducible apply notT_ev); (focus walk_at "ev")) | ((with_reducible apply andT_e); (focus walk_at "ev"); (focus (intro hq; walk_at "ev"))) | ((with_reducible apply orT_e); (focus walk_at "ev"); (focus (intro hq; walk_at "ev"))) | ((with_reducible apply seq_tup); (focus walk_at "ev")) | ((with_reducible apply seq_lst); (focus walk_at "ev")) | ((with_reducible apply seq_str); (focus walk_at "ev")))
local macro_rules | `(tactic| walk_at "w1") => `(tactic| with_reducible first | refine wS_seq ?_ | refine wS_set ?_ | refine wS_ret ?_ | refine wS_if ?_ | refine wS_skip ?_ | refine wS_drop ?_ | refine wS_unp ?_ | refine wE_b2 ?_ | refine wE_b1 ?_ | refine wE_bA ?_ | refine wE_bS ?_ | refine wE_call ?_ | refine wA_c ?_ | refine wA_n ?_ | refine wE_c ?_ | refine wO_n ?_ | refine wO_s ?_ | refine wT_asB ?_ | refine wT_tru ?_ | refine wT_not ?_ | refine wT_and ?_ | refine wT_or ?_ | refine wT_yes ?_ | refine wE_and ?_ | refine wE_or ?_ | refine wE_if ?_ | refine wI_seq ?_ | refine wI_rng ?_ | refine ex_bl ?_ | refine ex_trA ?_ | refine ex_trB ?_ | refine ex_nat ?_ | refine ex_int ?_ | refine ex_unT ?_ | refine ex_unL ?_ | refine and_t ?_ | refine and_f ?_ | refine and_nt ?_ | refine and_nf ?_)
local macro_rules | `(tactic| walk_at "w") => `(tactic| repeat (first | walk_at "w1" | refine wE_v (by rfl) ?_ | ((with_reducible refine wS_par2 ?_ ?_); focus (simp; done)) | ((with_reducible refine wS_par3 ?_ ?_); focus (simp; done)) | ((with_reducible refine wS_setN ?_ ?_); focus (simp; done)) | ((with_reducible apply ex_op); focus (first | exact seqOf_wd | with_reducible exact eq_ss | with_reducible exact ne_ss | with_reducible exact eq_ww | with_reducible exact ne_ww | with_reducible exact eq_ii | with_reducible exact ne_ii | with_reducible exact lt_ii | with_reducible exact gt_ii | with_reducible exact le_ii | with_reducible exact ge_ii | exact all_true' _ _ | walk_at "op")) ))
def ruW (L : List Nat) : Ru → Prop
  | .put c v _ => c ∈ L ∧ (∀ a ∈ v, a ∈ L) ∧ v.length ≤ 3
  | _ => True
structure Gb (E : Ents) (rs : List Ru) : Prop where
  cl : ClE E
  n4 : E.length ≤ 4
  rn : rs.length ≤ 6
  r : ∀ r ∈ rs, ruW (E.map (·.1)) r
  up : (E.map (·.1)).Pairwise (· < ·)
  ok : ∀ r ∈ rs, okR r = true ∧ lowRb r = true
section
variable {E : Ents} {rs : List Ru} {s : Sto}
theorem puts_lenG (h : Gb E rs) (c : Nat) : (putsL rs c).length ≤ 6 ∧ ∀ v ∈ putsL rs c, v.length ≤ 3 ∧ ∀ a ∈ v, a ∈ E.map (·.1) := by
  have hn := h.rn
  refine ⟨?_, fun v hv => ?_⟩
  · unfold putsL
    rw [List.length_map]
    exact Nat.le_trans (List.length_filter_le _ _) hn
  · obtain ⟨r, hr, rfl⟩ := List.mem_map.mp hv
    obtain ⟨h1, h2⟩ := List.mem_filter.mp hr
    have := h.r r h1
    cases r with
    | put d w l => exact ⟨this.2.2, this.2.1⟩
    | drop m l => cases h2
    | half l => cases h2
    | empty => cases h2
    | lower l => cases h2
theorem giv_wordsG (h : Gb E rs) (c : Nat) : (givW E rs c).length ≤ 16 ∧ ∀ v ∈ givW E rs c, v.length ≤ 3 ∧ ∀ a ∈ v, a ∈ E.map (·.1) := by
  obtain ⟨h1, h2⟩ := puts_lenG h c
  have h3 := h.cl.few c
  unfold givW
  refine ⟨?_, fun v hv => ?_⟩
  · rw [List.length_append]
    split
    · rw [List.length_map]; omega
    · show _ + 0 ≤ _; omega
  · rcases List.mem_append.mp hv with hv | hv
    · exact h2 v hv
    · split at hv
      · obtain ⟨a, ha, rfl⟩ := List.mem_map.mp hv
        exact ⟨by show 1 ≤ 3; decide, fun x hx => by rw [List.mem_singleton.mp hx]; exact h.cl.let ha⟩
      · exact absurd hv List.not_mem_nil
theorem given_okG (h : Gb E rs) {c : Nat} (hc : c ∈ E.map (·.1)) : Vgiven_words [bookD E rs, wd [c]] s = some (.lst ((givW E rs c).map wd), s) := by
  have hn := h.rn
  obtain ⟨p1, p2⟩ := puts_lenG h c
  have g1 : toDctG s [.tup (entL E)] = some (edD E) := (toDct_ent s h.cl.ok.nd).1
  have g2 : ixA s (edD E) (wd [c]) = some (lesD (lesN E c)) := get_ed hc
  refine wF_out (wF_fn ?_)
  delta Fgiven_words
  refine wS_seq (wS_setN (by simp) (wE_eq (wE_puts (rs := rs) (c := c) (by omega) (bind2_ev (v0 rfl) c0 rfl) (fun x => v0 rfl) fun x => rfl) ?_))
  walk_at "w"
  refine wE_lcy (xs := rs) (enc := Ru.d) (fun r => .bl (isLow r)) ?_
  walk_at "w"
  refine ⟨rfl, by omega, fun r hr => ?_, ?_⟩
  · obtain ⟨x, e1, e2⟩ := is_lower (s := s) r
    exact ⟨_, s, bind2_ev (bind2_ev (v0 rfl) c0 e1) c0 e2, rfl, rfl⟩
  have ga : anyG s [.lst (rs.map fun r => .bl (isLow r))] = some (.bl (rs.any isLow)) := any_bl
  have l3 := h.cl.few c
  walk_at "w"
  refine ⟨fun hl => ?_, fun hl => ?_⟩
  · refine wS_go (extT_ev (es := onesD (lesN E c)) (ds := (putsL rs c).map wd) (bind2_ev (bindA_ev (aCons_ev (bind2_ev (v0 rfl) c0 rfl) a0) g1) (v0 rfl) g2) rfl (small (by rw [List.length_map, List.length_map]; omega))) ?_
    walk_at "w"
    refine ⟨?_, rfl⟩
    unfold givW
    rw [if_pos hl, List.map_append, List.map_map]
    rfl
  · walk_at "w"
    refine ⟨?_, rfl⟩
    unfold givW
    rw [if_neg (by rw [hl]; decide), List.append_nil]
theorem g_inG (h : Gb E rs) {c a : Nat} (ha : a ∈ gN E rs c) : a ∈ E.map (·.1) := by
  rw [← giv_flat] at ha
  obtain ⟨v, hv, hav⟩ := List.mem_flatten.mp ha
  exact ((giv_wordsG h c).2 v hv).2 a hav
theorem g_lenG (h : Gb E rs) (c : Nat) : (gN E rs c).length ≤ 100 := by
  rw [← giv_flat]
  obtain ⟨w1, w2⟩ := giv_wordsG h c
  have e : (givW E rs c).flatten = (givW E rs c).flatMap id := by simp
  rw [e]
  have := flat_len (l := givW E rs c) (f := id) (m := 3) fun v hv => (w2 v hv).1
  omega
theorem ring_okG (h : Gb E rs) : Vring_of [bookD E rs] s = some (.tup (onesD (ringN E rs)), s) := by
  have hE := h.cl
  have h3 := h.n4
  have lL : (E.map (·.1)).length = E.length := List.length_map _
  refine wF_out (wF_fn ?_)
  delta Fring_of
  walk_at "w"
  refine wF_eq ((letters_ok (.tup (rs.map Ru.d)) (by omega) s).trans (by rw [show E.map (fun e => wd [e.1]) = onesD (E.map (·.1)) by unfold onesD; rw [List.map_map]; rfl])) ?_
  walk_at "w"
  refine wE_eq (dc_e (xs := E.map (·.1)) (enc := fun c => wd [c]) (f := fun c => [c]) (g := fun c => wd (gN E rs c)) (s1 := s) (seq_tup (v0 rfl)) (map_nd hE.ok.nd fun a _ b _ q => by simpa using q) (by omega) (fun c hc => v0 rfl) fun c hc => ?_) ?_
  · obtain ⟨w1, w2⟩ := giv_wordsG h c
    have gj := join_words (s := s) (K := givW E rs c) (fun v hv => by have := (w2 v hv).1; omega) (by omega)
    rw [giv_flat] at gj
    refine wE_out (wE_b2 (wE_toStr (wE_c ⟨_, rfl, wE_call (wA_c (wE_v rfl (wA_c (wE_v rfl (wA_n (wF_eq (given_okG h hc) ⟨_, gj, rfl, rfl⟩))))))⟩)))
  refine wS_while (n := E.length + 1) (fun n env s' => s' = s ∧ ∃ j x3 x4 x5, n = (kpi E rs j).length + 1 ∧ j + (kpi E rs j).length ≤ E.length ∧ env = [some (bookD E rs), some (.tup (onesD (kpi E rs j))), some (.dct ((E.map (·.1)).map fun c => (.inr (strW [c]), wd (gN E rs c)))), x3, x4, x5]) (by show E.length + 1 < 1000000000; omega) ⟨rfl, 0, none, none, none, by show E.length + 1 = (E.map (·.1)).length + 1; rw [lL], by show 0 + (E.map (·.1)).length ≤ _; omega, rfl⟩ ?_
  rintro n env s' ⟨rfl, j, x3, x4, x5, rfl, hj, rfl⟩
  have hsub := kpi_sub E rs j
  have hsl := hsub.length_le
  refine wT_tru (wE_c ⟨true, rfl, (fun h => by cases h), fun _ => ?_⟩)
  walk_at "w"
  refine wE_lc (xs := kpi E rs j) (enc := fun c => wd [c]) (fun c => (gN E rs c).any fun a => decide (a ∈ kpi E rs j)) (fun c => wd [c]) ?_
  walk_at "w"
  refine ⟨rfl, by omega, fun c hc => ?_, fun c hc _ => ⟨_, _, v0 rfl, rfl, rfl⟩, ?_⟩
  · have gk : ixA s' (.dct ((E.map (·.1)).map fun c => (.inr (strW [c]), wd (gN E rs c)))) (wd [c]) = some (wd (gN E rs c)) := get_kd (g := fun c => wd (gN E rs c)) (hsub.subset hc)
    walk_at "w"
    refine wE_lcy (xs := gN E rs c) (enc := fun c => wd [c]) (fun a => .bl (decide (a ∈ kpi E rs j))) ?_
    walk_at "w"
    refine ⟨rfl, ?_, fun a ha => ⟨_, _, bind2_ev (v0 rfl) (v0 rfl) in_t1, rfl, rfl⟩, ?_⟩
    · have := g_lenG h c; omega
    · walk_at "w"
      exact ⟨rfl, rfl⟩
  have ek : (kpi E rs j).filter (fun c => (gN E rs c).any fun a => decide (a ∈ kpi E rs j)) = kpi E rs (j + 1) := rfl
  rw [ek]
  have hs1 := kpi_sub E rs (j + 1)
  have ge := eq_onesT (s := s') (A := kpi E rs (j + 1)) (B := kpi E rs j) (fun c hc => hE.lo c (hs1.subset hc)) fun c hc => hE.lo c (hsub.subset hc)
  walk_at "w"
  refine ⟨fun q => ?_, fun q => ?_⟩
  · have q' := of_decide_eq_true q
    walk_at "w"
    exact ⟨by rw [ring_of_fix q' (by omega)], rfl⟩
  · have q' := of_decide_eq_false q
    have hlt : (kpi E rs (j + 1)).length < (kpi E rs j).length := by
      rcases Nat.lt_or_ge (kpi E rs (j + 1)).length (kpi E rs j).length with z | z
      · exact z
      · exact absurd ((kp_sub E rs _).eq_of_length_le z) q'
    walk_at "w"
    exact ⟨(kpi E rs (j + 1)).length + 1, by omega, rfl, j + 1, _, _, _, rfl, by omega, rfl⟩
end

end DL

namespace DL
open PySem PySem.Spec PyProof.Rows L2
local macro_rules | `(tactic| walk_at "op") => `(tactic| first | assumption | with_reducible rfl | exact cat_w (by omega) | exact sub_nn (by omega) | exact add_nn | exact at_w (by omega) (by assumption) | exact len_w (by omega) | exact in_l1 | exact notin_l1 | exact in_t1 | exact notin_t1 | exact in_k1 | exact notin_k1 | exact in_wl | exact notin_wl | exact in_wt | exact notin_wt | exact in_kd | exact notin_kd | exact eq_ww | exact ne_ww | exact any_bl | exact all_bl | rfl)
local macro_rules | `(tactic| walk_at "ev") => `(tactic| first | with_reducible exact c0 | ((with_reducible apply v0); rfl) | with_reducible exact a0 | with_reducible assumption | ((with_reducible apply aCons_ev); (focus walk_at "ev"); (focus walk_at "ev")) | ((with_reducible apply bindA_ev); (focus walk_at "ev"); (focus walk_at "op")) | ((with_reducible apply bind2_ev); (focus walk_at "ev"); (focus walk_at "ev"); (focus walk_at "op")) | ((with_reducible apply bind1_ev); (focus walk_at "ev"); (focus walk_at "op")) | ((with_reducible apply asB_ev); (focus walk_at "ev")) | ((with_reducible apply call_ev); (focus walk_at "ev"); (focus first | assumption | rfl)) | ((with_reducible apply truF_ev); (focus walk_at "ev"); (focus first | assumption | rfl)) | ((with_reducible apply notT_ev); (focus walk_at "ev")) | ((with_reducible apply andT_e); (focus walk_at "ev"); (focus (intro hq; walk_at "ev"))) | ((with_reducible apply orT_e); (focus walk_at "ev"); (focus (intro hq; walk_at "ev"))) | ((with_reducible apply seq_tup); (focus walk_at "ev")) | ((with_reducible apply seq_lst); (focus walk_at "ev")) | ((with_reducible apply seq_str); (focus walk_at "ev")))
local macro_rules | `(tactic| walk_at "w1") => `(tactic| with_reducible first | refine wS_seq ?_ | refine wS_set ?_ | refine wS_ret ?_ | refine wS_if ?_ | refine wS_skip ?_ | refine wS_drop ?_ | refine wS_unp ?_ | refine wE_b2 ?_ | refine wE_b1 ?_ | refine wE_bA ?_ | refine wE_bS ?_ | refine wE_call ?_ | refine wA_c ?_ | refine wA_n ?_ | refine wE_c ?_ | refine wO_n ?_ | refine wO_s ?_ | refine wT_asB ?_ | refine wT_tru ?_ | refine wT_not ?_ | refine wT_and ?_ | refine wT_or ?_ | refine wT_yes ?_ | refine wE_and ?_ | refine wE_or ?_ | refine wE_if ?_ | refine wI_seq ?_ | refine wI_rng ?_ | refine ex_bl ?_ | refine ex_trA ?_ | refine ex_trB ?_ | refine ex_nat ?_ | refine ex_int ?_ | refine ex_unT ?_ | refine ex_unL ?_ | refine and_t ?_ | refine and_f ?_ | refine and_nt ?_ | refine and_nf ?_)
local macro_rules | `(tactic| walk_at "w") => `(tactic| repeat (first | walk_at "w1" | refine wE_v (by rfl) ?_ | ((with_reducible refine wS_par2 ?_ ?_); focus (simp; done)) | ((with_reducible refine wS_par3 ?_ ?_); focus (simp; done)) | ((with_reducible refine wS_setN ?_ ?_); focus (simp; done)) | ((with_reducible apply ex_op); focus (first | exact seqOf_wd | with_reducible exact eq_ss | with_reducible exact ne_ss | with_reducible exact eq_ww | with_reducible exact ne_ww | with_reducible exact eq_ii | with_reducible exact ne_ii | with_reducible exact lt_ii | with_reducible exact gt_ii | with_reducible exact le_ii | with_reducible exact ge_ii | exact all_true' _ _ | walk_at "op")) ))
def sumN (W : Nat → Nat) (v : List Nat) : Nat := (v.map W).sum
def mxN : List Nat → Nat
  | [] => 0
  | x :: r => Nat.max x (mxN r)
theorem mx_le : ∀ {l : List Nat} {x : Nat}, x ∈ l → x ≤ mxN l
  | y :: r, x, h => by
    show x ≤ max y (mxN r)
    rcases List.mem_cons.mp h with rfl | h
    · omega
    · have := mx_le h; omega
theorem mx_in : ∀ {l : List Nat}, l ≠ [] → mxN l ∈ l
  | [x], _ => by show max x 0 ∈ [x]; rw [Nat.max_zero]; exact List.mem_singleton.mpr rfl
  | x :: y :: r, _ => by
    have ih := mx_in (l := y :: r) (by simp)
    show max x (mxN (y :: r)) ∈ _
    rcases Nat.le_total x (mxN (y :: r)) with h | h
    · rw [Nat.max_eq_right h]; exact List.mem_cons_of_mem _ ih
    · rw [Nat.max_eq_left h]; exact List.mem_cons_self
section
variable {E : Ents} {rs : List Ru} {s : Sto}
def valW (E : Ents) (rs : List Ru) (W : Nat → Nat) (c : Nat) : Nat := 1 + mxN ((givW E rs c).map (sumN W))
theorem val_congr {W W' : Nat → Nat} {c : Nat} (h : ∀ a ∈ gN E rs c, W a = W' a) : valW E rs W c = valW E rs W' c := by
  unfold valW
  have : (givW E rs c).map (sumN W) = (givW E rs c).map (sumN W') := List.map_congr_left fun v hv => by
    unfold sumN
    rw [List.map_congr_left fun a ha => h a (by rw [← giv_flat]; exact List.mem_flatten.mpr ⟨v, hv, ha⟩)]
  rw [this]
def Wk (E : Ents) (rs : List Ru) : Nat → Nat → Nat
  | 0, _ => 1
  | k + 1, c => valW E rs (Wk E rs k) c
def wst (E : Ents) (rs : List Ru) : Nat → Nat := Wk E rs E.length
theorem kpi_anti {c : Nat} : ∀ {j i : Nat}, i ≤ j → c ∈ kpi E rs j → c ∈ kpi E rs i
  | 0, i, h, hc => by rw [Nat.le_zero.mp h]; exact hc
  | j + 1, i, h, hc => by
    rcases Nat.lt_or_ge j i with q | q
    · rw [show i = j + 1 by omega]; exact hc
    · exact kpi_anti q ((kp_sub E rs _).subset hc)
theorem below_kpi {c : Nat} (hc : c ∈ E.map (·.1)) : ∀ {j : Nat}, c ∉ kpi E rs (j + 1) → ∀ a ∈ gN E rs c, a ∉ kpi E rs j
  | j, h, a, ha, hk => by
    by_cases q : c ∈ kpi E rs j
    · exact h (List.mem_filter.mpr ⟨q, List.any_eq_true.mpr ⟨a, ha, decide_eq_true hk⟩⟩)
    · match j, q, hk with
      | 0, q, _ => exact q hc
      | i + 1, q, hk => exact below_kpi hc q a ha (kpi_anti (Nat.le_succ i) hk)
theorem Wk_stay (h : Gb E rs) : ∀ {j c : Nat}, c ∈ E.map (·.1) → c ∉ kpi E rs j → ∀ k, j ≤ k → Wk E rs k c = Wk E rs j c
  | 0, c, hc, hn, _, _ => absurd hc hn
  | j + 1, c, hc, hn, 0, hk => absurd hk (by omega)
  | j + 1, c, hc, hn, k + 1, hk => val_congr fun a ha => Wk_stay h (g_inG h ha) (below_kpi hc hn a ha) k (by omega)
theorem no_ring (h0 : ringN E rs = []) (c : Nat) : c ∉ kpi E rs E.length := by
  have : kpi E rs E.length = [] := h0
  rw [this]; exact List.not_mem_nil
theorem wst_fix (h : Gb E rs) (h0 : ringN E rs = []) {c : Nat} (hc : c ∈ E.map (·.1)) : valW E rs (wst E rs) c = wst E rs c :=
  Wk_stay h hc (no_ring h0 c) (E.length + 1) (Nat.le_succ _)
theorem sum_small {W : Nat → Nat} {B : Nat} : ∀ {v : List Nat}, (∀ a ∈ v, W a ≤ B) → sumN W v ≤ v.length * B
  | [], _ => Nat.zero_le _
  | a :: v, h => by
    have ih := sum_small (W := W) (v := v) fun x hx => h x (List.mem_cons_of_mem _ hx)
    have := h a List.mem_cons_self
    show W a + sumN W v ≤ (v.length + 1) * B
    rw [Nat.succ_mul]
    omega
theorem mx_bound {B : Nat} : ∀ {l : List Nat}, (∀ x ∈ l, x ≤ B) → mxN l ≤ B
  | [], _ => Nat.zero_le _
  | x :: r, h => by
    have ih := mx_bound (l := r) fun y hy => h y (List.mem_cons_of_mem _ hy)
    have := h x List.mem_cons_self
    show max x (mxN r) ≤ B
    omega
theorem val_small (h : Gb E rs) {W : Nat → Nat} {B : Nat} (hW : ∀ a ∈ E.map (·.1), W a ≤ B) (c : Nat) : valW E rs W c ≤ 1 + 3 * B := by
  unfold valW
  have := mx_bound (B := 3 * B) (l := (givW E rs c).map (sumN W)) fun x hx => by
    obtain ⟨v, hv, rfl⟩ := List.mem_map.mp hx
    obtain ⟨h1, h2⟩ := (giv_wordsG h c).2 v hv
    exact Nat.le_trans (sum_small fun a ha => hW a (h2 a ha)) (Nat.mul_le_mul_right _ h1)
  omega
theorem Wk_small (h : Gb E rs) : ∀ k, ∀ c ∈ E.map (·.1), Wk E rs k c + 1 ≤ 2 * 4 ^ k
  | 0, c, _ => by show 1 + 1 ≤ 2 * 1; decide
  | k + 1, c, hc => by
    have ih := Wk_small h k
    have p : 0 < 4 ^ k := Nat.pow_pos (by decide)
    have := val_small h (W := Wk E rs k) (B := 2 * 4 ^ k - 1) (fun a ha => by have := ih a ha; omega) c
    show valW E rs (Wk E rs k) c + 1 ≤ 2 * 4 ^ (k + 1)
    rw [Nat.pow_succ]
    omega
theorem wst_small (h : Gb E rs) {c : Nat} (hc : c ∈ E.map (·.1)) : wst E rs c ≤ 600 := by
  have h1 := Wk_small h E.length c hc
  have h2 : 4 ^ E.length ≤ 4 ^ 4 := Nat.pow_le_pow_right (by decide) h.n4
  unfold wst
  have : (4 : Nat) ^ 4 = 256 := by decide
  omega
def wantL (E : Ents) (rs : List Ru) (W : Nat → Nat) (c : Nat) : List Nat := (1 :: (if rs.any isLow = true then lesN E c else []).map fun a => W a + 1) ++ (putsL rs c).map fun v => 1 + sumN W v
theorem want_max (W : Nat → Nat) (c : Nat) : mxN (wantL E rs W c) = valW E rs W c := by
  have one : ∀ a, sumN W [a] = W a := fun a => by show W a + 0 = _; omega
  refine Nat.le_antisymm (mx_bound fun x hx => ?_) ?_
  · unfold valW
    rcases List.mem_append.mp hx with hx | hx
    · rcases List.mem_cons.mp hx with rfl | hx
      · omega
      · obtain ⟨a, ha, rfl⟩ := List.mem_map.mp hx
        have : sumN W [a] ≤ mxN ((givW E rs c).map (sumN W)) := mx_le (List.mem_map.mpr ⟨[a], List.mem_append_right _ (by
          split at ha
          · rename_i hl; rw [if_pos hl]; exact List.mem_map.mpr ⟨a, ha, rfl⟩
          · exact absurd ha List.not_mem_nil), rfl⟩)
        rw [one] at this
        omega
    · obtain ⟨v, hv, rfl⟩ := List.mem_map.mp hx
      have : sumN W v ≤ mxN ((givW E rs c).map (sumN W)) := mx_le (List.mem_map.mpr ⟨v, List.mem_append_left _ hv, rfl⟩)
      omega
  · unfold valW
    by_cases q : (givW E rs c).map (sumN W) = []
    · rw [q]
      exact mx_le (l := wantL E rs W c) (x := 1) (List.mem_append_left _ List.mem_cons_self)
    · obtain ⟨v, hv, e⟩ := List.mem_map.mp (mx_in q)
      rw [← e]
      rcases List.mem_append.mp hv with hv | hv
      · exact mx_le (List.mem_append_right _ (List.mem_map.mpr ⟨v, hv, rfl⟩))
      · split at hv
        · rename_i hl
          obtain ⟨a, ha, rfl⟩ := List.mem_map.mp hv
          rw [one, Nat.add_comm]
          exact mx_le (List.mem_append_left _ (List.mem_cons_of_mem _ (by rw [if_pos hl]; exact List.mem_map.mpr ⟨a, ha, rfl⟩)))
        · exact absurd hv List.not_mem_nil
def nD (n : Nat) : Dt := .int ((n : Nat) : Int)
theorem nD_ints {α : Type} (f : α → Nat) (l : List α) : intsOf (l.map fun a => nD (f a)) = some (l.map fun a => ((f a : Nat) : Int)) := by
  induction l with
  | nil => rfl
  | cons a l ih =>
    show (intsOf (l.map fun a => nD (f a))).map (((f a : Nat) : Int) :: ·) = _
    rw [ih]; rfl
theorem sum_castN : ∀ l : List Nat, (l.map fun n => ((n : Nat) : Int)).sum = ((l.sum : Nat) : Int)
  | [] => rfl
  | a :: l => by
    rw [List.map_cons, List.sum_cons, sum_castN l, List.sum_cons]
    omega
theorem sumG_n (W : Nat → Nat) (v : List Nat) : sumG s [.lst (v.map fun a => nD (W a))] = some (nD (sumN W v)) := by
  unfold sumG
  dsimp only
  rw [nD_ints]
  have := sum_castN (v.map W)
  rw [List.map_map] at this
  show some (Dt.int (v.map fun a => ((W a : Nat) : Int)).sum) = some (Dt.int ((sumN W v : Nat) : Int))
  unfold sumN
  rw [← this]; rfl
theorem maxI_n (m : Nat) (r : List Nat) : maxI ((m : Nat) : Int) (r.map fun t => ((t : Nat) : Int)) = ((mxN (m :: r) : Nat) : Int) := by
  obtain ⟨h1, h2⟩ := maxI_ok (r.map fun t => ((t : Nat) : Int)) ((m : Nat) : Int)
  have e : ((m : Nat) : Int) :: r.map (fun t => ((t : Nat) : Int)) = (m :: r).map fun t => ((t : Nat) : Int) := rfl
  rw [e] at h1 h2
  obtain ⟨x, hx, ex⟩ := List.mem_map.mp h1
  have a := mx_le hx
  have b := h2 _ (List.mem_map.mpr ⟨_, mx_in (l := m :: r) (by simp), rfl⟩)
  omega
theorem maxLG_n {l : List Nat} (h : l ≠ []) : maxLG s [.lst (l.map nD)] = some (nD (mxN l)) := by
  match l, h with
  | m :: r, _ =>
    have e := nD_ints (fun t : Nat => t) (m :: r)
    unfold maxLG
    dsimp only
    rw [e]
    show some (Dt.int (maxI ((m : Nat) : Int) (r.map fun t => ((t : Nat) : Int)))) = _
    rw [maxI_n]; rfl
theorem maxDG_n (l : List Nat) : maxDG s (.lst (l.map nD)) (.int 0) = some (nD (mxN l)) := by
  have e := nD_ints (fun t : Nat => t) l
  unfold maxDG
  dsimp only
  rw [e]
  cases l with
  | nil => rfl
  | cons m r =>
    show some (Dt.int (maxI ((m : Nat) : Int) (r.map fun t => ((t : Nat) : Int)))) = _
    rw [maxI_n]; rfl
theorem add_nD (a b : Nat) : addAll s (nD a) (nD b) = some (nD (a + b)) := by
  show some (Dt.int (((a : Nat) : Int) + ((b : Nat) : Int))) = some (Dt.int ((a + b : Nat) : Int))
  rw [Int.natCast_add]
end

end DL

namespace DL
open PySem PySem.Spec PyProof.Rows L2
local macro_rules | `(tactic| walk_at "op") => `(tactic| first | assumption | with_reducible rfl | exact cat_w (by omega) | exact sub_nn (by omega) | exact add_nn | exact at_w (by omega) (by assumption) | exact len_w (by omega) | exact in_l1 | exact notin_l1 | exact in_t1 | exact notin_t1 | exact in_k1 | exact notin_k1 | exact in_wl | exact notin_wl | exact in_wt | exact notin_wt | exact in_kd | exact notin_kd | exact eq_ww | exact ne_ww | exact any_bl | exact all_bl | rfl)
local macro_rules | `(tactic| walk_at "ev") => `(tactic| first | with_reducible exact c0 | ((with_reducible apply v0); rfl) | with_reducible exact a0 | with_reducible assumption | ((with_reducible apply aCons_ev); (focus walk_at "ev"); (focus walk_at "ev")) | ((with_reducible apply bindA_ev); (focus walk_at "ev"); (focus walk_at "op")) | ((with_reducible apply bind2_ev); (focus walk_at "ev"); (focus walk_at "ev"); (focus walk_at "op")) | ((with_reducible apply bind1_ev); (focus walk_at "ev"); (focus walk_at "op")) | ((with_reducible apply asB_ev); (focus walk_at "ev")) | ((with_reducible apply call_ev); (focus walk_at "ev"); (focus first | assumption | rfl)) | ((with_reducible apply truF_ev); (focus walk_at "ev"); (focus first | assumption | rfl)) | ((with_reducible apply notT_ev); (focus walk_at "ev")) | ((with_reducible apply andT_e); (focus walk_at "ev"); (focus (intro hq; walk_at "ev"))) | ((with_reducible apply orT_e); (focus walk_at "ev"); (focus (intro hq; walk_at "ev"))) | ((with_reducible apply seq_tup); (focus walk_at "ev")) | ((with_reducible apply seq_lst); (focus walk_at "ev")) | ((with_reducible apply seq_str); (focus walk_at "ev")))
local macro_rules | `(tactic| walk_at "w1") => `(tactic| with_reducible first | refine wS_seq ?_ | refine wS_set ?_ | refine wS_ret ?_ | refine wS_if ?_ | refine wS_skip ?_ | refine wS_drop ?_ | refine wS_unp ?_ | refine wE_b2 ?_ | refine wE_b1 ?_ | refine wE_bA ?_ | refine wE_bS ?_ | refine wE_call ?_ | refine wA_c ?_ | refine wA_n ?_ | refine wE_c ?_ | refine wO_n ?_ | refine wO_s ?_ | refine wT_asB ?_ | refine wT_tru ?_ | refine wT_not ?_ | refine wT_and ?_ | refine wT_or ?_ | refine wT_yes ?_ | refine wE_and ?_ | refine wE_or ?_ | refine wE_if ?_ | refine wI_seq ?_ | refine wI_rng ?_ | refine ex_bl ?_ | refine ex_trA ?_ | refine ex_trB ?_ | refine ex_nat ?_ | refine ex_int ?_ | refine ex_unT ?_ | refine ex_unL ?_ | refine and_t ?_ | refine and_f ?_ | refine and_nt ?_ | refine and_nf ?_)
local macro_rules | `(tactic| walk_at "w") => `(tactic| repeat (first | walk_at "w1" | refine wE_v (by rfl) ?_ | ((with_reducible refine wS_par2 ?_ ?_); focus (simp; done)) | ((with_reducible refine wS_par3 ?_ ?_); focus (simp; done)) | ((with_reducible refine wS_setN ?_ ?_); focus (simp; done)) | ((with_reducible apply ex_op); focus (first | exact seqOf_wd | with_reducible exact eq_ss | with_reducible exact ne_ss | with_reducible exact eq_ww | with_reducible exact ne_ww | with_reducible exact eq_ii | with_reducible exact ne_ii | with_reducible exact lt_ii | with_reducible exact gt_ii | with_reducible exact le_ii | with_reducible exact ge_ii | exact all_true' _ _ | walk_at "op")) ))
section
variable {E : Ents} {rs : List Ru} {s : Sto}
theorem lets_k19 (h : Gb E rs) : Vletters_of [bookD E rs] s = some (.tup (onesD (E.map (·.1))), s) := by
  have hn := h.n4
  exact (letters_ok (.tup (rs.map Ru.d)) (by omega) s).trans (by rw [show E.map (fun e => wd [e.1]) = onesD (E.map (·.1)) by unfold onesD; rw [List.map_map]; rfl])
theorem ring_lo (h : Gb E rs) : ∀ c ∈ ringN E rs, 97 ≤ c ∧ c ≤ 122 := fun c hc => h.cl.lo c ((kpi_sub E rs _).subset hc)
theorem ending_ok (h : Gb E rs) : Vis_ending [bookD E rs] s = some (.bl (decide (ringN E rs = [])), s) := by
  have g := eq_onesT (s := s) (ring_lo h) (B := []) fun c hc => absurd hc List.not_mem_nil
  refine wF_out (wF_fn ?_)
  delta Fis_ending
  exact wS_ret (wE_b2 (wE_call (wA_c (wE_v rfl (wA_n (wF_eq (ring_okG h) (wE_bA (wA_n ⟨.tup [], rfl, _, g, rfl, rfl⟩))))))))
theorem need_end_ok (h : Gb E rs) (h0 : ringN E rs = []) : Vneed_ending [bookD E rs] s = some (.non, s) := by
  have hr := ring_okG (s := s) h
  rw [h0] at hr
  have ne : neG s (.tup []) (.tup []) = some (.bl false) := rfl
  refine wF_out (wF_fn ?_)
  delta Fneed_ending
  refine wS_seq (wS_set (wE_call (wA_c (wE_v rfl (wA_n (wF_eq hr ?_))))))
  exact wS_if (wT_asB (wE_b2 (wE_v rfl (wE_bA (wA_n ⟨.tup [], rfl, _, ne, _, rfl, fun z => (by cases z), fun _ => wS_skip ⟨rfl, rfl⟩⟩)))))
def nmD (W : Nat → Nat) (D : List Nat) : Dt := .dct (D.map fun c => ((.inr (strW [c]) : Key), nD (W c)))
def rowsD (E : Ents) (rs : List Ru) : Dt := .dct ((E.map (·.1)).map fun c => ((.inr (strW [c]) : Key), Dt.lst ((givW E rs c).map wd)))
theorem one_in {D : List Nat} {c : Nat} : decide ([c] ∈ D.map fun c => [c]) = decide (c ∈ D) := decide_eq_decide.mpr (by simp)
theorem nm_notin {W : Nat → Nat} {D : List Nat} {c : Nat} : notinA s (wd [c]) (nmD W D) = some (.bl (!decide (c ∈ D))) := by
  have := notin_kd (s := s) (l := D) (f := fun c => [c]) (g := fun c => nD (W c)) (x := [c])
  rw [one_in] at this
  exact this
theorem nm_in {W : Nat → Nat} {D : List Nat} {c : Nat} : inA s (wd [c]) (nmD W D) = some (.bl (decide (c ∈ D))) := by
  have := in_kd (s := s) (l := D) (f := fun c => [c]) (g := fun c => nD (W c)) (x := [c])
  rw [one_in] at this
  exact this
theorem nm_get {W : Nat → Nat} {D : List Nat} {c : Nat} (h : c ∈ D) : ixA s (nmD W D) (wd [c]) = some (nD (W c)) := get_kd (g := fun c => nD (W c)) h
theorem key_inj {a b : Nat} (h : (.inr (strW [a]) : Key) = .inr (strW [b])) : a = b := by have := strW_inj (Sum.inr.inj h); simpa using this
theorem nm_put {W : Nat → Nat} {D : List Nat} {c : Nat} (h : c ∉ D) : putD (D.map fun c => ((.inr (strW [c]) : Key), nD (W c))) (.inr (strW [c])) (nD (W c)) = (D ++ [c]).map fun c => ((.inr (strW [c]) : Key), nD (W c)) := by
  unfold putD
  rw [if_neg]
  · rw [List.map_append]; rfl
  · intro z
    rw [List.any_eq_true] at z
    obtain ⟨kv, hkv, hk⟩ := z
    obtain ⟨a, ha, rfl⟩ := List.mem_map.mp hkv
    have := key_inj (of_decide_eq_true hk)
    subst this
    exact h ha
theorem flat_true {f : Nat → Dt} : ∀ K : List (List Nat), (K.flatMap fun v => (v.filter fun _ => true).map f) = K.flatten.map f
  | [] => rfl
  | v :: K => by
    rw [List.flatMap_cons, flat_true K, List.flatten_cons, List.map_append, List.filter_eq_self.mpr fun _ _ => rfl]
theorem least_ok19 (h : Gb E rs) (h0 : ringN E rs = []) : Vleast_weights [bookD E rs] s = some (.tup ((E.map (·.1)).map fun c => nD (wst E rs c)), s) := by
  have hE := h.cl
  have hn := h.n4
  have lL : (E.map (·.1)).length = E.length := List.length_map _
  have hnd := hE.ok.nd
  refine wF_out (wF_fn ?_)
  delta Fleast_weights
  refine wS_seq (wS_drop (wE_call (wA_c (wE_v rfl (wA_n (wF_eq (need_end_ok h h0) ?_))))))
  refine wS_seq (wS_set (wE_eq (dc_e (xs := E.map (·.1)) (enc := fun c => wd [c]) (f := fun c => [c]) (g := fun c => .lst ((givW E rs c).map wd)) (s1 := s) (seq_tup (call_ev (aCons_ev (v0 rfl) a0) (lets_k19 h))) (map_nd hnd fun a _ b _ q => by simpa using q) (by omega) (fun c hc => v0 rfl) fun c hc => call_ev (aCons_ev (v0 rfl) (aCons_ev (v0 rfl) a0)) (given_okG h hc)) ?_))
  refine wS_seq (wS_setN (by simp) ⟨.dct [], s, rfl, ?_⟩)
  refine wS_seq (wS_while (n := E.length) (fun n env s' => s' = s ∧ ∃ k D x3 x4 x5 x6 x7, n = E.length - k ∧ k ≤ E.length ∧ D.Nodup ∧ (∀ c ∈ D, c ∈ E.map (·.1)) ∧ (∀ c ∈ E.map (·.1), c ∉ kpi E rs k → c ∈ D) ∧ env = [some (bookD E rs), some (rowsD E rs), some (nmD (wst E rs) D), x3, x4, x5, x6, x7]) (by show E.length < 1000000000; omega) ⟨rfl, 0, [], none, none, none, none, none, by omega, Nat.zero_le _, .nil, fun c hc => absurd hc List.not_mem_nil, by exact fun c hc z => absurd hc z, rfl⟩ ?_)
  rintro n env s' ⟨rfl, k, D, x3, x4, x5, x6, x7, rfl, hk, dn, ds, da, rfl⟩
  have l1 : lenG s' [nmD (wst E rs) D] = some (.int ((D.length : Nat) : Int)) := by unfold nmD; rw [len_dct, List.length_map]
  have l2 : lenG s' [rowsD E rs] = some (.int ((E.length : Nat) : Int)) := by unfold rowsD; rw [len_dct, List.length_map, lL]
  refine wT_asB (wE_b2 (wE_bA (wA_c (wE_v rfl (wA_n ⟨_, l1, wE_bA (wA_c (wE_v rfl (wA_n ⟨_, l2, _, lt_ii, _, rfl, fun q => ?_, fun q => ?_⟩)))⟩)))))
  · -- all have theirs
    refine ⟨rfl, ?_⟩
    have q := of_decide_eq_false q
    have full : ∀ c ∈ E.map (·.1), c ∈ D := fun c hc => Classical.byContradiction fun z => by
      have : (c :: D).length ≤ (E.map (·.1)).length := nodup_le (List.nodup_cons.mpr ⟨z, dn⟩) fun x hx => by
        rcases List.mem_cons.mp hx with rfl | hx
        · exact hc
        · exact ds x hx
      rw [List.length_cons, lL] at this
      omega
    refine wS_ret (wE_bA (wA_c (wE_lcy (xs := E.map (·.1)) (enc := fun c => wd [c]) (fun c => nD (wst E rs c)) (wI_seq (wE_v rfl ⟨(E.map (·.1)).map fun c => wd [c], ?_, rfl, by omega, fun c hc => wE_b2 (wE_v rfl (wE_v rfl ⟨_, nm_get (full c hc), rfl, rfl⟩)), wA_n ⟨_, rfl, rfl, rfl⟩⟩)))))
    show some (((E.map (·.1)).map fun c => ((.inr (strW [c]) : Key), Dt.lst ((givW E rs c).map wd))).map fun kv => keyD kv.1) = _
    rw [List.map_map]; rfl
  · have q := of_decide_eq_true q
    have hlt : k < E.length := by
      rcases Nat.lt_or_ge k E.length with z | z
      · exact z
      · have e : k = E.length := by omega
        have : (E.map (·.1)).length ≤ D.length := nodup_le hnd fun c hc => da c hc (by rw [e]; exact no_ring h0 c)
        rw [lL] at this
        omega
    refine wS_for (xs := E.map (·.1)) (enc := fun c => .tup [wd [c], .lst ((givW E rs c).map wd)]) (fun pre env s2 => s2 = s' ∧ ∃ D x3 x4 x5 x6 x7, D.Nodup ∧ (∀ c ∈ D, c ∈ E.map (·.1)) ∧ (∀ c ∈ E.map (·.1), c ∉ kpi E rs k → c ∈ D) ∧ (∀ c ∈ pre, c ∉ kpi E rs (k + 1) → c ∈ D) ∧ env = [some (bookD E rs), some (rowsD E rs), some (nmD (wst E rs) D), x3, x4, x5, x6, x7]) ⟨((E.map (·.1)).map fun c => ((.inr (strW [c]) : Key), Dt.lst ((givW E rs c).map wd))).map pairD, s', rfl, by rw [List.map_map]; rfl, ⟨rfl, D, _, _, _, _, _, dn, ds, da, fun c hc => absurd hc List.not_mem_nil, rfl⟩, ?_, ?_⟩
    · rintro pre c post env s2 he ⟨rfl, D, x3, x4, x5, x6, x7, dn, ds, da, dp, rfl⟩
      have hc : c ∈ E.map (·.1) := by rw [he]; exact List.mem_append_right _ List.mem_cons_self
      have hdl : D.length ≤ E.length := by rw [← lL]; exact nodup_le dn ds
      have w2 := (giv_wordsG h c).2
      have w1 := (giv_wordsG h c).1
      have keep : c ∈ D → ∀ x ∈ pre ++ [c], x ∉ kpi E rs (k + 1) → x ∈ D := fun hD x hx hx2 => by
        rcases List.mem_append.mp hx with hx | hx
        · exact dp x hx hx2
        · rw [List.mem_singleton.mp hx]; exact hD
      refine ⟨_, rfl, ?_⟩
      refine wS_if (wT_and (wT_asB (wE_b2 (wE_v rfl (wE_v rfl ⟨_, nm_notin, _, rfl, fun q1 => ?_, fun q1 => ?_⟩)))))
      · have q1 : c ∉ D := by simpa using q1
        refine wT_tru (wE_bA (wA_c (wE_eq (lc2_e (xs := givW E rs c) (enc := wd) (enc1 := fun _ d => wd [d]) (h := fun v => v) (q2 := fun _ _ => true) (g2 := fun _ d => .bl (decide (d ∈ D))) (s1 := s2) (seq_lst (v0 rfl)) (fun x hx => seq_str (v0 rfl)) (fun x hx y hy => rfl) (fun x hx y hy _ => bind2_ev (v0 rfl) (v0 rfl) nm_in) (small ?_)) ?_)))
        · rw [flat_true (f := fun d => .bl (decide (d ∈ D))), List.length_map, giv_flat]
          have := g_lenG h c
          omega
        rw [flat_true (f := fun d => .bl (decide (d ∈ D))), giv_flat]
        refine wA_n ⟨_, all_bl (p := fun d => decide (d ∈ D)) (l := gN E rs c), _, rfl, fun q2 => ?_, fun q2 => ?_⟩
        · -- its words have theirs
          have q2 : ∀ a ∈ gN E rs c, a ∈ D := fun a ha => of_decide_eq_true (List.all_eq_true.mp q2 a ha)
          refine wS_seq (wS_set (wE_lcy (xs := givW E rs c) (enc := wd) (fun v => nD (sumN (wst E rs) v)) (wI_seq (wE_v rfl ⟨_, rfl, rfl, by omega, fun v hv => ?_, ?_⟩))))
          · have hv3 := (w2 v hv).1
            have hin : ∀ a ∈ v, a ∈ D := fun a ha => q2 a (by rw [← giv_flat]; exact List.mem_flatten.mpr ⟨v, hv, ha⟩)
            refine wE_bA (wA_c (wE_lcy (xs := v) (enc := fun c => wd [c]) (fun a => nD (wst E rs a)) (wI_str (wE_v rfl ⟨v, rfl, rfl, by omega, fun a ha => wE_b2 (wE_v rfl (wE_v rfl ⟨_, nm_get (hin a ha), rfl, rfl⟩)), ?_⟩))))
            exact wA_n ⟨_, sumG_n (wst E rs) v, rfl, rfl⟩
          have em : (givW E rs c).map (fun v => nD (sumN (wst E rs) v)) = ((givW E rs c).map (sumN (wst E rs))).map nD := by rw [List.map_map]; rfl
          rw [em]
          have hm := maxDG_n (s := s2) ((givW E rs c).map (sumN (wst E rs)))
          have hadd : addAll s2 (.int 1) (nD (mxN ((givW E rs c).map (sumN (wst E rs))))) = some (nD (wst E rs c)) := by
            have := add_nD (s := s2) 1 (mxN ((givW E rs c).map (sumN (wst E rs))))
            rw [show 1 + mxN ((givW E rs c).map (sumN (wst E rs))) = wst E rs c from wst_fix h h0 hc] at this
            exact this
          refine wS_dput (l := D.map fun c => ((.inr (strW [c]) : Key), nD (wst E rs c))) rfl (wE_b2 (wE_c (wE_b2 (wE_v rfl (wE_c ⟨_, hm, _, hadd, wE_v rfl ⟨.inr (strW [c]), rfl, by rw [List.length_map]; omega, ?_⟩⟩)))))
          rw [nm_put q1]
          refine ⟨rfl, D ++ [c], _, _, _, _, _, ?_, fun x hx => ?_, fun x hx hx2 => List.mem_append_left _ (da x hx hx2), fun x hx hx2 => ?_, rfl⟩
          · exact List.nodup_append.mpr ⟨dn, List.pairwise_singleton _ _, fun a ha b hb z => q1 (by rw [← List.mem_singleton.mp hb, ← z]; exact ha)⟩
          · rcases List.mem_append.mp hx with hx | hx
            · exact ds x hx
            · rw [List.mem_singleton.mp hx]; exact hc
          · rcases List.mem_append.mp hx with hx | hx
            · exact List.mem_append_left _ (dp x hx hx2)
            · exact List.mem_append_right _ hx
        · -- not yet
          refine wS_skip ⟨rfl, D, _, _, _, _, _, dn, ds, da, fun x hx hx2 => ?_, rfl⟩
          rcases List.mem_append.mp hx with hx | hx
          · exact dp x hx hx2
          · rw [List.mem_singleton.mp hx] at hx2
            exfalso
            have all : ∀ a ∈ gN E rs c, a ∈ D := fun a ha => da a (g_inG h ha) (below_kpi hc hx2 a ha)
            have : (gN E rs c).all (fun d => decide (d ∈ D)) = true := List.all_eq_true.mpr fun a ha => decide_eq_true (all a ha)
            rw [this] at q2
            cases q2
      · have q1 : c ∈ D := by simpa using q1
        exact ⟨fun z => (by cases z), fun _ => wS_skip ⟨rfl, D, _, _, _, _, _, dn, ds, da, keep q1, rfl⟩⟩
    · rintro env s2 ⟨rfl, D, x3, x4, x5, x6, x7, dn, ds, da, dp, rfl⟩
      exact ⟨E.length - (k + 1), by omega, rfl, k + 1, D, _, _, _, _, _, rfl, hlt, dn, ds, fun c hc hc2 => dp c hc hc2, rfl⟩
end

end DL

namespace DL
open PySem PySem.Spec PyProof.Rows L2
local macro_rules | `(tactic| walk_at "op") => `(tactic| first | assumption | with_reducible rfl | exact cat_w (by omega) | exact sub_nn (by omega) | exact add_nn | exact at_w (by omega) (by assumption) | exact len_w (by omega) | exact in_l1 | exact notin_l1 | exact in_t1 | exact notin_t1 | exact in_k1 | exact notin_k1 | exact in_wl | exact notin_wl | exact in_wt | exact notin_wt | exact in_kd | exact notin_kd | exact eq_ww | exact ne_ww | exact any_bl | exact all_bl | rfl)
local macro_rules | `(tactic| walk_at "ev") => `(tactic| first | with_reducible exact c0 | ((with_reducible apply v0); rfl) | with_reducible exact a0 | with_reducible assumption | ((with_reducible apply aCons_ev); (focus walk_at "ev"); (focus walk_at "ev")) | ((with_reducible apply bindA_ev); (focus walk_at "ev"); (focus walk_at "op")) | ((with_reducible apply bind2_ev); (focus walk_at "ev"); (focus walk_at "ev"); (focus walk_at "op")) | ((with_reducible apply bind1_ev); (focus walk_at "ev"); (focus walk_at "op")) | ((with_reducible apply asB_ev); (focus walk_at "ev")) | ((with_reducible apply call_ev); (focus walk_at "ev"); (focus first | assumption | rfl)) | ((with_reducible apply truF_ev); (focus walk_at "ev"); (focus first | assumption | rfl)) | ((with_reducible apply notT_ev); (focus walk_at "ev")) | ((with_reducible apply andT_e); (focus walk_at "ev"); (focus (intro hq; walk_at "ev"))) | ((with_reducible apply orT_e); (focus walk_at "ev"); (focus (intro hq; walk_at "ev"))) | ((with_reducible apply seq_tup); (focus walk_at "ev")) | ((with_reducible apply seq_lst); (focus walk_at "ev")) | ((with_reducible apply seq_str); (focus walk_at "ev")))
local macro_rules | `(tactic| walk_at "w1") => `(tactic| with_reducible first | refine wS_seq ?_ | refine wS_set ?_ | refine wS_ret ?_ | refine wS_if ?_ | refine wS_skip ?_ | refine wS_drop ?_ | refine wS_unp ?_ | refine wE_b2 ?_ | refine wE_b1 ?_ | refine wE_bA ?_ | refine wE_bS ?_ | refine wE_call ?_ | refine wA_c ?_ | refine wA_n ?_ | refine wE_c ?_ | refine wO_n ?_ | refine wO_s ?_ | refine wT_asB ?_ | refine wT_tru ?_ | refine wT_not ?_ | refine wT_and ?_ | refine wT_or ?_ | refine wT_yes ?_ | refine wE_and ?_ | refine wE_or ?_ | refine wE_if ?_ | refine wI_seq ?_ | refine wI_rng ?_ | refine ex_bl ?_ | refine ex_trA ?_ | refine ex_trB ?_ | refine ex_nat ?_ | refine ex_int ?_ | refine ex_unT ?_ | refine ex_unL ?_ | refine and_t ?_ | refine and_f ?_ | refine and_nt ?_ | refine and_nf ?_)
local macro_rules | `(tactic| walk_at "w") => `(tactic| repeat (first | walk_at "w1" | refine wE_v (by rfl) ?_ | ((with_reducible refine wS_par2 ?_ ?_); focus (simp; done)) | ((with_reducible refine wS_par3 ?_ ?_); focus (simp; done)) | ((with_reducible refine wS_setN ?_ ?_); focus (simp; done)) | ((with_reducible apply ex_op); focus (first | exact seqOf_wd | with_reducible exact eq_ss | with_reducible exact ne_ss | with_reducible exact eq_ww | with_reducible exact ne_ww | with_reducible exact eq_ii | with_reducible exact ne_ii | with_reducible exact lt_ii | with_reducible exact gt_ii | with_reducible exact le_ii | with_reducible exact ge_ii | exact all_true' _ _ | walk_at "op")) ))
section
variable {i : Nat} {fk fn fo f : Fe} {A : Fs} {env : Env} {s : Sto} {N : Env → Sto → Prop} {R : Dt → Sto → Prop}
theorem wS_newh {kd : Dt} {key : Key} {xs : List Dt} {ks : List (Key × Dt)} {e5 : Env} {s5 : Sto} (h1 : fn env s = some (.lst xs, s)) (h2 : fk env s = some (kd, s)) (h3 : keyOf kd = some key) (h4 : env[i]? = some (some (.dct ks))) (h5 : ks.length < sizeLine)
    (h6 : ∀ q, q ∉ s.map (·.1) → wS A (env.set i (some (.dct (putD ks key (.ref q))))) ((q, .lst xs) :: s) (fun e4 s4 => ∃ k4 ys, s4 = (q, .lst ys) :: s5 ∧ dctAt e4 i = some k4 ∧ (k4.any fun kv => decide (kv.1 = key)) = true ∧ (∀ kv ∈ k4, kv.1 = key → kv.2 = .ref q) ∧ e5 = e4.set i (some (.dct (putD k4 key (.lst ys))))) (fun _ _ => False))
    (h7 : N e5 s5) : wS (newhS i fk fn A) env s N R := by
  have h4' : dctAt env i = some ks := by unfold dctAt; rw [h4]
  have nr : NewR A i ks key xs env s (e5, s5) := fun q hq => by
    obtain ⟨o, s', e, ⟨e4, rfl, k4, ys, rfl, a2, a3, a4, a5⟩ | ⟨_, _, z⟩⟩ := h6 q hq
    · exact ⟨e4, k4, ys, e, a2, a3, a4, a5⟩
    · exact z.elim
  refine ⟨.nx e5, s5, ?_, .inl ⟨e5, rfl, h7⟩⟩
  unfold newhS
  rw [h1]
  dsimp only
  rw [h2, h4']
  dsimp only
  rw [h3]
  dsimp only
  rw [if_pos h5, newC_ev nr]
  rfl
theorem map_other {q : Addr} {d : Dt} : ∀ {s : Sto}, q ∉ s.map (·.1) → s.map (fun p => if p.1 = q then (q, d) else p) = s
  | [], _ => rfl
  | p :: s, h => by
    rw [List.map_cons] at h
    have h1 : ¬ p.1 = q := fun z => h (by rw [z]; exact List.mem_cons_self)
    rw [List.map_cons, if_neg h1, map_other fun z => h (List.mem_cons_of_mem _ z)]
theorem wS_hextE {q : Addr} {xs es : List Dt} (h1 : fo env ((q, .lst xs) :: s) = some (.ref q, (q, .lst xs) :: s)) (h2 : f env ((q, .lst xs) :: s) = some (.lst es, (q, .lst xs) :: s)) (hq : q ∉ s.map (·.1)) (hl : xs.length + es.length ≤ 16777215) (h3 : N env ((q, .lst (xs ++ es)) :: s)) : wS (hextE fo f) env ((q, .lst xs) :: s) N R := by
  have hh : hlst ((q, .lst xs) :: s) q = some xs := by
    unfold hlst
    rw [List.lookup_cons, beq_self_eq_true]
  have hs : ((q, .lst xs) :: s).map (fun p => if p.1 = q then (q, Dt.lst (xs ++ es)) else p) = (q, .lst (xs ++ es)) :: s := by
    rw [List.map_cons, if_pos rfl, map_other hq]
  refine ⟨.nx env, (q, .lst (xs ++ es)) :: s, ?_, .inl ⟨env, rfl, h3⟩⟩
  unfold hextE
  rw [h1]
  dsimp only
  rw [hh, h2]
  dsimp only
  rw [hh]
  dsimp only
  rw [if_pos (small hl), hs]
end
section
variable {E : Ents} {rs : List Ru} {s : Sto}
theorem ones_appK (a b : List Nat) : onesD a ++ onesD b = onesD (a ++ b) := (List.map_append ..).symm
theorem wT_isP {i j : Nat} {c : Nat} {r : Ru} {env : Env} {QT : Bool → Sto → Prop} (h5 : env[i]? = some (some r.d)) (h3 : env[j]? = some (some (wd [c]))) (q : QT (isP c r) s) : wT (andT (asB (bind2 (bind2 (fVar i) (fC (.int 0)) ixA) (fC (.str "put")) eqG)) (asB (bind2 (bind2 (fVar i) (fC (.int 1)) ixA) (fVar j) eqG))) env s QT := by
  have v := v0 (s := s) h5
  cases r with
  | put d w l =>
    refine ⟨isP c (.put d w l), s, ?_, q⟩
    refine (andT_e (a := true) (b := decide ([d] = [c])) (asB_ev (bind2_ev (bind2_ev v c0 (z := .str "put") rfl) c0 rfl)) fun _ => asB_ev (bind2_ev (bind2_ev v c0 (z := wd [d]) rfl) (v0 h3) eq_ww)).trans ?_
    show some (true && decide ([d] = [c]), s) = some (decide (d = c), s)
    rw [Bool.true_and, show decide ([d] = [c]) = decide (d = c) from decide_eq_decide.mpr ⟨fun z => by cases z; rfl, fun z => by rw [z]⟩]
  | drop m l => exact ⟨false, s, andT_e (a := false) (b := false) (asB_ev (bind2_ev (bind2_ev v c0 (z := .str "drop") rfl) c0 rfl)) (fun h => by cases h), q⟩
  | half l => exact ⟨false, s, andT_e (a := false) (b := false) (asB_ev (bind2_ev (bind2_ev v c0 (z := .str "half") rfl) c0 rfl)) (fun h => by cases h), q⟩
  | empty => exact ⟨false, s, andT_e (a := false) (b := false) (asB_ev (bind2_ev (bind2_ev v c0 (z := .str "empty") rfl) c0 rfl)) (fun h => by cases h), q⟩
  | lower l => exact ⟨false, s, andT_e (a := false) (b := false) (asB_ev (bind2_ev (bind2_ev v c0 (z := .str "lower") rfl) c0 rfl)) (fun h => by cases h), q⟩
theorem put_word {c : Nat} {r : Ru} (h : isP c r = true) : ixA s r.d (.int 2) = some (wd (wordR r)) := by
  cases r <;> first | rfl | cases h
theorem ne_lst {W D : Nat} {ds : List Dt} (h : OkD W D (.lst ds)) (hD : D ≤ 60) : neG s (.lst ds) (.lst []) = some (.bl (!ds.isEmpty)) := by
  obtain ⟨h1, h2⟩ := h.shaped hD
  have h3 : plain (.lst []) = true ∧ SeqAt.shaped (py (.lst [])) = true := ⟨rfl, rfl⟩
  unfold neG eqG
  dsimp only
  rw [if_pos ⟨h1, h3.1, h2, h3.2⟩]
  cases ds <;> rfl
theorem lows_ok (h : Gb E rs) {k : Nat} {vs : List Nat} {env : Env} {Q : Dt → Sto → Prop} (h0 : env[0]? = some (some (bookD E rs))) (hk : ∀ x : Dt, ((wipeE env vs).set k (some x))[k]? = some (some x)) (q : Q (.bl (rs.any isLow)) s) : wE (bind2 (lcF (seqF (bind2 (fVar 0) (fC (.int 1)) ixA)) (tgN k) (asB (bind2 (bind2 (fVar k) (fC (.int 0)) ixA) (fC (.str "lower")) eqG)) (fVar k) vs) (bindA aNil lstG) neG) env s Q := by
  have hn := h.rn
  have g1 : ∀ s, ixA s (bookD E rs) (.int 1) = some (.tup (rs.map Ru.d)) := fun _ => rfl
  have ok : OkD 7000 2 (.lst ((rs.filter isLow).map Ru.d)) := (OkD.lst (W := 1000) (D := 1) (n := 6) (fun d hd => by
    obtain ⟨r, hr, rfl⟩ := List.mem_map.mp hd
    have := h.ok r (List.mem_filter.mp hr).1
    exact okd_ru this.1 this.2) (by rw [List.length_map]; exact Nat.le_trans (List.length_filter_le _ _) hn)).mono (by decide) (by decide)
  have hne := ne_lst (s := s) ok (by decide)
  rw [List.isEmpty_map, fil_any] at hne
  refine wE_b2 (wE_lc (xs := rs) (enc := Ru.d) isLow Ru.d (wI_seq (wE_b2 (wE_v h0 (wE_c ⟨_, g1 s, _, rfl, rfl, by omega, fun r hr => ?_, fun r hr _ => wE_v (hk _) ⟨rfl, rfl⟩, ?_⟩)))))
  · obtain ⟨x, e1, e2⟩ := is_lower (s := s) r
    exact wT_asB (wE_b2 (wE_b2 (wE_v (hk _) (wE_c ⟨_, e1, wE_c ⟨_, e2, _, rfl, rfl, rfl⟩⟩))))
  · exact wE_bA (wA_n ⟨.lst [], rfl, _, hne, q⟩)
def givL (E : Ents) (rs : List Ru) (e : Nat × List Nat) : List Nat := (if rs.any isLow = true then e.2 else []) ++ (putsL rs e.1).flatten
def gvK (E : Ents) (rs : List Ru) (P : Ents) : List (Key × Dt) := P.map fun e => ((.inr (strW [e.1]) : Key), Dt.lst (onesD (givL E rs e)))
def lastR (pre : List Ru) (x : Option Dt) : Option Dt := match pre.getLast? with | some r => some r.d | none => x
theorem last_snoc (pre : List Ru) (r : Ru) (x : Option Dt) : lastR (pre ++ [r]) x = some r.d := by
  unfold lastR
  rw [List.getLast?_append]; rfl
theorem any_last {α : Type} (A : List (Key × Dt)) (k : Key) (d : Dt) : ((A ++ [(k, d)]).any fun kv => decide (kv.1 = k)) = true := by
  rw [List.any_append]
  have : ([(k, d)] : List (Key × Dt)).any (fun kv => decide (kv.1 = k)) = true := by show (decide (k = k) || false) = true; simp
  rw [this, Bool.or_true]
theorem put_last {A : List (Key × Dt)} {k : Key} (h : k ∉ A.map (·.1)) (a b : Dt) : putD (A ++ [(k, a)]) k b = A ++ [(k, b)] := by
  unfold putD
  rw [if_pos (any_last (α := Nat) A k a), List.map_append]
  have h1 : A.map (fun kv => if kv.1 = k then (kv.1, b) else kv) = A := by
    have : ∀ kv ∈ A, (if kv.1 = k then (kv.1, b) else kv) = id kv := fun kv hm => if_neg fun z => h (List.mem_map.mpr ⟨kv, hm, z⟩)
    rw [List.map_congr_left this, List.map_id]
  rw [h1]
  show A ++ [if k = k then (k, b) else (k, a)] = _
  rw [if_pos rfl]
theorem put_newK {A : List (Key × Dt)} {k : Key} (h : k ∉ A.map (·.1)) (a : Dt) : putD A k a = A ++ [(k, a)] := by
  unfold putD
  rw [if_neg]
  intro z
  rw [List.any_eq_true] at z
  obtain ⟨kv, hm, e⟩ := z
  exact h (List.mem_map.mpr ⟨kv, hm, of_decide_eq_true e⟩)
theorem val_last {A : List (Key × Dt)} {k : Key} (h : k ∉ A.map (·.1)) (a : Dt) : valD (A ++ [(k, a)]) k = some a := by
  unfold valD
  rw [List.find?_append, List.find?_eq_none.mpr fun kv hm z => h (List.mem_map.mpr ⟨kv, hm, of_decide_eq_true z⟩)]
  show (([(k, a)] : List (Key × Dt)).find? fun kv => decide (kv.1 = k)).map (·.2) = some a
  simp
theorem gives_ok (h : Gb E rs) : V_law_gives_k19_k19 [bookD E rs] s = some (.dct (gvK E rs E), s) := by
  have hn := h.n4
  have hr := h.rn
  have hnd := h.cl.ok.nd
  have g0 : ∀ s, ixA s (bookD E rs) (.int 0) = some (.tup (entL E)) := fun _ => rfl
  have g1 : ∀ s, ixA s (bookD E rs) (.int 1) = some (.tup (rs.map Ru.d)) := fun _ => rfl
  refine wF_out (wF_fn ?_)
  delta F_law_gives_k19_k19
  refine wS_seq (wS_set (lows_ok h rfl (fun x => rfl) ?_))
  refine wS_seq (wS_setN (by simp) ⟨.dct [], s, rfl, ?_⟩)
  refine wS_seq (wS_for (xs := E) (enc := fun e => .tup [wd [e.1], .tup (onesD e.2)]) (fun pre env s' => s' = s ∧ ∃ x3 x4 x5, env = [some (bookD E rs), some (.bl (rs.any isLow)), some (.dct (gvK E rs pre)), x3, x4, x5]) (wI_seq (wE_b2 (wE_v rfl (wE_c ⟨_, g0 s, _, rfl, rfl, ⟨rfl, none, none, none, rfl⟩, ?_, ?_⟩)))))
  · rintro pre e post env s' he ⟨rfl, x3, x4, x5, rfl⟩
    have hpre : pre.length < E.length := by rw [he, List.length_append, List.length_cons]; omega
    have hkey : (.inr (strW [e.1]) : Key) ∉ (gvK E rs pre).map (·.1) := fun z => by
      obtain ⟨kv, hm, ek⟩ := List.mem_map.mp z
      obtain ⟨e', he', rfl⟩ := List.mem_map.mp hm
      have ek := key_inj ek
      rw [he, List.map_append, List.map_cons] at hnd
      have := (List.nodup_append.mp hnd).2.2 e'.1 (List.mem_map.mpr ⟨e', he', rfl⟩) e.1 List.mem_cons_self
      exact this ek
    have hgl : (gvK E rs pre).length = pre.length := by unfold gvK; rw [List.length_map]
    refine ⟨_, rfl, ?_⟩
    refine wS_newh (kd := wd [e.1]) (key := .inr (strW [e.1])) (xs := onesD (if rs.any isLow = true then e.2 else [])) (ks := gvK E rs pre) (e5 := [some (bookD E rs), some (.bl (rs.any isLow)), some (.dct (gvK E rs (pre ++ [e]))), some (wd [e.1]), some (.tup (onesD e.2)), lastR rs x5]) (s5 := s') ?_ (v0 rfl) rfl rfl (small (by rw [hgl]; omega)) (fun q hq => ?_) ?_
    · refine wE_out (wE_if (wT_tru (wE_v rfl ⟨rs.any isLow, rfl, fun z => ?_, fun z => ?_⟩)))
      · exact wE_bA (wA_c (wE_v rfl (wA_n ⟨_, rfl, by rw [if_pos z], rfl⟩)))
      · exact wE_bA (wA_n ⟨.lst [], rfl, by rw [if_neg (by rw [z]; exact Bool.false_ne_true)]; rfl, rfl⟩)
    · rw [put_newK hkey]
      refine wS_for (xs := rs) (enc := Ru.d) (fun pr env s4 => s4 = (q, .lst (onesD ((if rs.any isLow = true then e.2 else []) ++ (putsL pr e.1).flatten))) :: s' ∧ env = [some (bookD E rs), some (.bl (rs.any isLow)), some (.dct (gvK E rs pre ++ [(.inr (strW [e.1]), .ref q)])), some (wd [e.1]), some (.tup (onesD e.2)), lastR pr x5]) (wI_seq (wE_b2 (wE_v rfl (wE_c ⟨_, g1 _, _, rfl, rfl, ⟨?_, rfl⟩, ?_, ?_⟩))))
      · show _ = (q, Dt.lst (onesD (_ ++ []))) :: s'
        rw [List.append_nil]
      · rintro pr r po env s4 he4 ⟨rfl, rfl⟩
        refine ⟨_, rfl, ?_⟩
        have hp : putsL (pr ++ [r]) e.1 = putsL pr e.1 ++ (if isP e.1 r = true then [wordR r] else []) := by
          unfold putsL
          rw [List.filter_append, List.map_append]
          congr 1
          rw [List.filter_cons]
          cases isP e.1 r <;> rfl
        refine wS_if (wT_isP (c := e.1) (r := r) rfl rfl ⟨fun z => ?_, fun z => ?_⟩)
        · have gw := put_word (s := (q, Dt.lst (onesD ((if rs.any isLow = true then e.2 else []) ++ (putsL pr e.1).flatten))) :: s') z
          have hin : r ∈ rs := by rw [he4]; exact List.mem_append_right _ List.mem_cons_self
          have hw3 : (wordR r).length ≤ 3 := by
            have := h.r r hin
            cases r with
            | put d w l => exact this.2.2
            | drop m l => cases z
            | half l => cases z
            | empty => cases z
            | lower l => cases z
          have hsub : pr.length ≤ 6 := by
            have : pr.length ≤ rs.length := by rw [he4, List.length_append]; omega
            omega
          have hfl : ((if rs.any isLow = true then e.2 else []) ++ (putsL pr e.1).flatten).length ≤ 1000 := by
            have h1 : e.2.length ≤ 10 := h.cl.ok.few e (by rw [he]; exact List.mem_append_right _ List.mem_cons_self)
            have h2 : (putsL pr e.1).flatten.length ≤ 6 * 3 := by
              have e1 : (putsL pr e.1).flatten = (putsL pr e.1).flatMap id := by simp
              rw [e1]
              have hm : ∀ v ∈ putsL pr e.1, (id v).length ≤ 3 := fun v hv => (puts_lenG h e.1).2 v (by
                unfold putsL at hv ⊢
                obtain ⟨r', hr', rfl⟩ := List.mem_map.mp hv
                obtain ⟨hr1, hr2⟩ := List.mem_filter.mp hr'
                exact List.mem_map.mpr ⟨r', List.mem_filter.mpr ⟨by rw [he4]; exact List.mem_append_left _ hr1, hr2⟩, rfl⟩) |>.1
              have := flat_len (l := putsL pr e.1) (f := id) (m := 3) hm
              have h3 : (putsL pr e.1).length ≤ 6 := by
                unfold putsL; rw [List.length_map]; exact Nat.le_trans (List.length_filter_le _ _) hsub
              have := Nat.mul_le_mul_right 3 h3
              omega
            rw [List.length_append]
            split
            · omega
            · show 0 + _ ≤ _; omega
          have gl : toLstSG ((q, Dt.lst (onesD ((if rs.any isLow = true then e.2 else []) ++ (putsL pr e.1).flatten))) :: s') [wd (wordR r)] = some (.lst (onesD (wordR r))) := lst_w (by omega)
          refine wS_hextE (bind2_ev (v0 rfl) (v0 rfl) (val_last hkey _)) (bindA_ev (aCons_ev (bind2_ev (v0 rfl) c0 gw) a0) gl) hq (by unfold onesD; rw [List.length_map, List.length_map]; omega) ?_
          rw [ones_appK, List.append_assoc, hp, if_pos z, List.flatten_append]
          refine ⟨?_, by rw [last_snoc]; rfl⟩
          show _ = (q, Dt.lst (onesD (_ ++ (_ ++ (wordR r ++ []))))) :: s'
          rw [List.append_nil]
        · refine wS_skip ?_
          rw [hp, z]
          have e0 : putsL pr e.1 ++ (if false = true then [wordR r] else []) = putsL pr e.1 := List.append_nil _
          rw [e0]
          exact ⟨rfl, by rw [last_snoc]; rfl⟩
      · rintro env s4 ⟨rfl, rfl⟩
        refine ⟨gvK E rs pre ++ [(.inr (strW [e.1]), .ref q)], _, rfl, rfl, any_last (α := Nat) _ _ _, fun kv hm hk => ?_, ?_⟩
        · rcases List.mem_append.mp hm with hm | hm
          · exact absurd (List.mem_map.mpr ⟨kv, hm, hk⟩) hkey
          · rw [List.mem_singleton.mp hm]
        · rw [put_last hkey]
          unfold gvK
          rw [List.map_append]; rfl
    · exact ⟨rfl, _, _, _, rfl⟩
  rintro env s' ⟨rfl, x3, x4, x5, rfl⟩
  exact wS_ret (wE_v rfl ⟨rfl, rfl⟩)
end

end DL

namespace DL
open PySem PySem.Spec PyProof.Rows L2
local macro_rules | `(tactic| walk_at "op") => `(tactic| first | assumption | with_reducible rfl | exact cat_w (by omega) | exact sub_nn (by omega) | exact add_nn | exact at_w (by omega) (by assumption) | exact len_w (by omega) | exact in_l1 | exact notin_l1 | exact in_t1 | exact notin_t1 | exact in_k1 | exact notin_k1 | exact in_wl | exact notin_wl | exact in_wt | exact notin_wt | exact in_kd | exact notin_kd | exact eq_ww | exact ne_ww | exact any_bl | exact all_bl | rfl)
local macro_rules | `(tactic| walk_at "ev") => `(tactic| first | with_reducible exact c0 | ((with_reducible apply v0); rfl) | with_reducible exact a0 | with_reducible assumption | ((with_reducible apply aCons_ev); (focus walk_at "ev"); (focus walk_at "ev")) | ((with_reducible apply bindA_ev); (focus walk_at "ev"); (focus walk_at "op")) | ((with_reducible apply bind2_ev); (focus walk_at "ev"); (focus walk_at "ev"); (focus walk_at "op")) | ((with_reducible apply bind1_ev); (focus walk_at "ev"); (focus walk_at "op")) | ((with_reducible apply asB_ev); (focus walk_at "ev")) | ((with_reducible apply call_ev); (focus walk_at "ev"); (focus first | assumption | rfl)) | ((with_reducible apply truF_ev); (focus walk_at "ev"); (focus first | assumption | rfl)) | ((with_reducible apply notT_ev); (focus walk_at "ev")) | ((with_reducible apply andT_e); (focus walk_at "ev"); (focus (intro hq; walk_at "ev"))) | ((with_reducible apply orT_e); (focus walk_at "ev"); (focus (intro hq; walk_at "ev"))) | ((with_reducible apply seq_tup); (focus walk_at "ev")) | ((with_reducible apply seq_lst); (focus walk_at "ev")) | ((with_reducible apply seq_str); (focus walk_at "ev")))
local macro_rules | `(tactic| walk_at "w1") => `(tactic| with_reducible first | refine wS_seq ?_ | refine wS_set ?_ | refine wS_ret ?_ | refine wS_if ?_ | refine wS_skip ?_ | refine wS_drop ?_ | refine wS_unp ?_ | refine wE_b2 ?_ | refine wE_b1 ?_ | refine wE_bA ?_ | refine wE_bS ?_ | refine wE_call ?_ | refine wA_c ?_ | refine wA_n ?_ | refine wE_c ?_ | refine wO_n ?_ | refine wO_s ?_ | refine wT_asB ?_ | refine wT_tru ?_ | refine wT_not ?_ | refine wT_and ?_ | refine wT_or ?_ | refine wT_yes ?_ | refine wE_and ?_ | refine wE_or ?_ | refine wE_if ?_ | refine wI_seq ?_ | refine wI_rng ?_ | refine ex_bl ?_ | refine ex_trA ?_ | refine ex_trB ?_ | refine ex_nat ?_ | refine ex_int ?_ | refine ex_unT ?_ | refine ex_unL ?_ | refine and_t ?_ | refine and_f ?_ | refine and_nt ?_ | refine and_nf ?_)
local macro_rules | `(tactic| walk_at "w") => `(tactic| repeat (first | walk_at "w1" | refine wE_v (by rfl) ?_ | ((with_reducible refine wS_par2 ?_ ?_); focus (simp; done)) | ((with_reducible refine wS_par3 ?_ ?_); focus (simp; done)) | ((with_reducible refine wS_setN ?_ ?_); focus (simp; done)) | ((with_reducible apply ex_op); focus (first | exact seqOf_wd | with_reducible exact eq_ss | with_reducible exact ne_ss | with_reducible exact eq_ww | with_reducible exact ne_ww | with_reducible exact eq_ii | with_reducible exact ne_ii | with_reducible exact lt_ii | with_reducible exact gt_ii | with_reducible exact le_ii | with_reducible exact ge_ii | exact all_true' _ _ | walk_at "op")) ))
section
variable {E : Ents} {rs : List Ru} {s : Sto}
def givC (E : Ents) (rs : List Ru) (c : Nat) : List Nat := (if rs.any isLow = true then lesN E c else []) ++ (putsL rs c).flatten
theorem gv_eq (h : Gb E rs) : gvK E rs E = (E.map (·.1)).map fun c => ((.inr (strW [c]) : Key), Dt.lst (onesD (givC E rs c))) := by
  unfold gvK
  rw [List.map_map]
  refine List.map_congr_left fun e he => ?_
  show _ = ((.inr (strW [e.1]) : Key), Dt.lst (onesD (givC E rs e.1)))
  unfold givL givC
  rw [les_eq h.cl.ok.nd he]
theorem gv_get (h : Gb E rs) {c : Nat} (hc : c ∈ E.map (·.1)) : ixA s (.dct (gvK E rs E)) (wd [c]) = some (.lst (onesD (givC E rs c))) := by
  rw [gv_eq h]
  exact get_kd (g := fun c => Dt.lst (onesD (givC E rs c))) hc
theorem giv_mem {c a : Nat} : a ∈ givC E rs c ↔ a ∈ gN E rs c := by
  unfold givC gN
  rw [List.mem_append, List.mem_append]
  exact Or.comm
theorem givC_len (h : Gb E rs) {c : Nat} : (givC E rs c).length ≤ 100 := by
  have := g_lenG h c
  unfold gN at this
  unfold givC
  rw [List.length_append] at this ⊢
  omega
theorem any_same {l m : List Nat} (h : ∀ a, a ∈ l ↔ a ∈ m) (p : Nat → Bool) : l.any p = m.any p := by
  rw [Bool.eq_iff_iff, List.any_eq_true, List.any_eq_true]
  exact exists_congr fun a => and_congr_left fun _ => h a
theorem keys_sorted (h : Gb E rs) : sortedKG s [.dct (gvK E rs E)] = some (.lst (onesD (E.map (·.1)))) := by
  have hk : (gvK E rs E).map (fun kv => keyD kv.1) = onesD (E.map (·.1)) := by
    unfold gvK onesD
    rw [List.map_map, List.map_map]; rfl
  have hs : strsOf (onesD (E.map (·.1))) = some ((E.map (·.1)).map fun c => strW [c]) := by
    have := strsOf_map ((E.map (·.1)).map fun c => strW [c])
    rwa [List.map_map] at this
  have hn : sortN (E.map (·.1)) = E.map (·.1) := lt_unique (sortN_lt (lt_nd h.up)) h.up fun x => sortN_mem
  show (match strsOf ((gvK E rs E).map fun kv => keyD kv.1) with | some ys => some (Dt.lst ((sortS ys).map .str)) | none => none) = _
  rw [hk, hs]
  dsimp only
  rw [sortS_ones, hn, List.map_map]
  rfl
theorem ne_onesK {L : List Nat} (h : ∀ c ∈ L, 97 ≤ c ∧ c ≤ 122) : neG s (.lst (onesD L)) (.lst []) = some (.bl (!L.isEmpty)) := by
  have := ne_lst (s := s) (OkD.lst (W := 12) (D := 0) (n := L.length) (okd_ones h) (by unfold onesD; rw [List.length_map]; exact Nat.le_refl _)) (by decide)
  unfold onesD at this ⊢
  rw [List.isEmpty_map] at this
  exact this
theorem ringed_ok (h : Gb E rs) : V_law_ringed_k19_k19_k19 [bookD E rs] s = some (.lst (onesD (ringN E rs)), s) := by
  have hn := h.n4
  have lL : (E.map (·.1)).length = E.length := List.length_map _
  refine wF_out (wF_fn ?_)
  delta F_law_ringed_k19_k19_k19
  refine wS_seq (wS_set (wE_call (wA_c (wE_v rfl (wA_n (wF_eq (gives_ok h) ?_))))))
  refine wS_seq (wS_set (wE_bA (wA_c (wE_v rfl (wA_n ⟨_, keys_sorted h, ?_⟩)))))
  refine wS_seq (wS_for (xs := List.range E.length) (enc := fun i => .int (0 + ((i : Nat) : Int))) (fun pre env s' => s' = s ∧ ∃ x3 x4 x5, env = [some (bookD E rs), some (.dct (gvK E rs E)), some (.lst (onesD (kpi E rs pre.length))), x3, x4, x5]) (wI_rng (wE_bA (wA_c (wE_v rfl (wA_n ⟨.int ((E.length : Nat) : Int), ?_, E.length, rfl, by omega, rfl, ⟨rfl, none, none, none, rfl⟩, ?_, ?_⟩))))))
  · rw [len_lst]
    unfold onesD
    rw [List.length_map, lL]
  · rintro pre i post env s' he ⟨rfl, x3, x4, x5, rfl⟩
    have hsub := kpi_sub E rs pre.length
    have hsl := hsub.length_le
    refine ⟨_, rfl, ?_⟩
    refine wS_set (wE_lc (xs := kpi E rs pre.length) (enc := fun c => wd [c]) (fun c => (gN E rs c).any fun a => decide (a ∈ kpi E rs pre.length)) (fun c => wd [c]) (wI_seq (wE_v rfl ⟨_, rfl, rfl, by omega, fun c hc => ?_, fun c hc _ => wE_v rfl ⟨rfl, rfl⟩, ?_⟩)))
    · have hcL := hsub.subset hc
      have lo : ∀ a ∈ (givC E rs c).filter (fun a => decide (a ∈ kpi E rs pre.length)), 97 ≤ a ∧ a ≤ 122 := fun a ha => h.cl.lo a (hsub.subset (of_decide_eq_true (List.mem_filter.mp ha).2))
      have hne := ne_onesK (s := s') lo
      rw [fil_any, any_same fun a => giv_mem] at hne
      have hl := givC_len h (c := c)
      refine wT_asB (wE_b2 (wE_lc (xs := givC E rs c) (enc := fun a => wd [a]) (fun a => decide (a ∈ kpi E rs pre.length)) (fun a => wd [a]) (wI_seq (wE_b2 (wE_v rfl (wE_v rfl ⟨_, gv_get h hcL, _, rfl, rfl, by omega, fun a ha => wT_asB (wE_b2 (wE_v rfl (wE_v rfl ⟨_, in_l1, _, rfl, rfl, rfl⟩))), fun a ha _ => wE_v rfl ⟨rfl, rfl⟩, ?_⟩))))))
      exact wE_bA (wA_n ⟨.lst [], rfl, _, hne, _, rfl, rfl, rfl⟩)
    · exact ⟨rfl, _, _, _, by rw [List.length_append]; rfl⟩
  rintro env s' ⟨rfl, x3, x4, x5, rfl⟩
  rw [List.length_range]
  exact wS_ret (wE_v rfl ⟨rfl, rfl⟩)
def setN (W : Nat → Nat) (c v : Nat) : Nat → Nat := fun a => if a = c then v else W a
theorem nm_set {W : Nat → Nat} {c v : Nat} : ∀ {D : List Nat}, c ∈ D → putD (D.map fun c => ((.inr (strW [c]) : Key), nD (W c))) (.inr (strW [c])) (nD v) = D.map fun a => ((.inr (strW [a]) : Key), nD (setN W c v a)) := by
  intro D hc
  unfold putD
  rw [if_pos, List.map_map]
  · refine List.map_congr_left fun a ha => ?_
    show (if (.inr (strW [a]) : Key) = .inr (strW [c]) then ((.inr (strW [a]) : Key), nD v) else _) = _
    unfold setN
    by_cases q : a = c
    · subst q; rw [if_pos rfl, if_pos rfl]
    · rw [if_neg fun z => q (key_inj z), if_neg q]
  · rw [List.any_eq_true]
    exact ⟨_, List.mem_map.mpr ⟨c, hc, rfl⟩, decide_eq_true rfl⟩
end

end DL

namespace DL
open PySem PySem.Spec PyProof.Rows L2
local macro_rules | `(tactic| walk_at "op") => `(tactic| first | assumption | with_reducible rfl | exact cat_w (by omega) | exact sub_nn (by omega) | exact add_nn | exact at_w (by omega) (by assumption) | exact len_w (by omega) | exact in_l1 | exact notin_l1 | exact in_t1 | exact notin_t1 | exact in_k1 | exact notin_k1 | exact in_wl | exact notin_wl | exact in_wt | exact notin_wt | exact in_kd | exact notin_kd | exact eq_ww | exact ne_ww | exact any_bl | exact all_bl | rfl)
local macro_rules | `(tactic| walk_at "ev") => `(tactic| first | with_reducible exact c0 | ((with_reducible apply v0); rfl) | with_reducible exact a0 | with_reducible assumption | ((with_reducible apply aCons_ev); (focus walk_at "ev"); (focus walk_at "ev")) | ((with_reducible apply bindA_ev); (focus walk_at "ev"); (focus walk_at "op")) | ((with_reducible apply bind2_ev); (focus walk_at "ev"); (focus walk_at "ev"); (focus walk_at "op")) | ((with_reducible apply bind1_ev); (focus walk_at "ev"); (focus walk_at "op")) | ((with_reducible apply asB_ev); (focus walk_at "ev")) | ((with_reducible apply call_ev); (focus walk_at "ev"); (focus first | assumption | rfl)) | ((with_reducible apply truF_ev); (focus walk_at "ev"); (focus first | assumption | rfl)) | ((with_reducible apply notT_ev); (focus walk_at "ev")) | ((with_reducible apply andT_e); (focus walk_at "ev"); (focus (intro hq; walk_at "ev"))) | ((with_reducible apply orT_e); (focus walk_at "ev"); (focus (intro hq; walk_at "ev"))) | ((with_reducible apply seq_tup); (focus walk_at "ev")) | ((with_reducible apply seq_lst); (focus walk_at "ev")) | ((with_reducible apply seq_str); (focus walk_at "ev")))
local macro_rules | `(tactic| walk_at "w1") => `(tactic| with_reducible first | refine wS_seq ?_ | refine wS_set ?_ | refine wS_ret ?_ | refine wS_if ?_ | refine wS_skip ?_ | refine wS_drop ?_ | refine wS_unp ?_ | refine wE_b2 ?_ | refine wE_b1 ?_ | refine wE_bA ?_ | refine wE_bS ?_ | refine wE_call ?_ | refine wA_c ?_ | refine wA_n ?_ | refine wE_c ?_ | refine wO_n ?_ | refine wO_s ?_ | refine wT_asB ?_ | refine wT_tru ?_ | refine wT_not ?_ | refine wT_and ?_ | refine wT_or ?_ | refine wT_yes ?_ | refine wE_and ?_ | refine wE_or ?_ | refine wE_if ?_ | refine wI_seq ?_ | refine wI_rng ?_ | refine ex_bl ?_ | refine ex_trA ?_ | refine ex_trB ?_ | refine ex_nat ?_ | refine ex_int ?_ | refine ex_unT ?_ | refine ex_unL ?_ | refine and_t ?_ | refine and_f ?_ | refine and_nt ?_ | refine and_nf ?_)
local macro_rules | `(tactic| walk_at "w") => `(tactic| repeat (first | walk_at "w1" | refine wE_v (by rfl) ?_ | ((with_reducible refine wS_par2 ?_ ?_); focus (simp; done)) | ((with_reducible refine wS_par3 ?_ ?_); focus (simp; done)) | ((with_reducible refine wS_setN ?_ ?_); focus (simp; done)) | ((with_reducible apply ex_op); focus (first | exact seqOf_wd | with_reducible exact eq_ss | with_reducible exact ne_ss | with_reducible exact eq_ww | with_reducible exact ne_ww | with_reducible exact eq_ii | with_reducible exact ne_ii | with_reducible exact lt_ii | with_reducible exact gt_ii | with_reducible exact le_ii | with_reducible exact ge_ii | exact all_true' _ _ | walk_at "op")) ))
section
variable {E : Ents} {rs : List Ru} {s : Sto}
theorem filt_const (b : Bool) (l : List Nat) : (l.filter fun _ => b) = if b = true then l else [] := by
  cases b with
  | true => rw [if_pos rfl]; exact List.filter_eq_self.mpr fun _ _ => rfl
  | false => rw [if_neg Bool.false_ne_true]; exact List.filter_eq_nil_iff.mpr fun _ _ z => by cases z
def wantP (E : Ents) (rs : List Ru) (W : Nat → Nat) (c : Nat) (pr : List Ru) : List Nat := (1 :: (if rs.any isLow = true then lesN E c else []).map fun a => W a + 1) ++ (putsL pr c).map fun v => 1 + sumN W v
theorem lap_body (h : Gb E rs) {W : Nat → Nat} {e : Nat × List Nat} (he : e ∈ E) {x5 x7 x8 x9 : Option Dt} {N : Env → Sto → Prop} {R : Dt → Sto → Prop}
    (q : ∀ y7 y8, N [some (bookD E rs), some (.dct (gvK E rs E)), some (nmD (setN W e.1 (valW E rs W e.1)) (E.map (·.1))), some (.bl (rs.any isLow)), some (wd [e.1]), x5, some (.tup (onesD e.2)), y7, y8, x9] s) {A : Fs}
    (hA : A = (seqS (setNS 7 (bind2 (bindA (aCons (fC (.int 1)) aNil) lstG) (lcF (seqF (fVar 6)) (tgN 9) (truF (fVar 3)) (bind2 (bind2 (fVar 2) (fVar 9) ixA) (fC (.int 1)) addAll) [9]) catG)) (seqS (forF (seqF (bind2 (fVar 0) (fC (.int 1)) ixA)) (tgN 8) (ifS (andT (asB (bind2 (bind2 (fVar 8) (fC (.int 0)) ixA) (fC (.str "put")) eqG)) (asB (bind2 (bind2 (fVar 8) (fC (.int 1)) ixA) (fVar 4) eqG))) (appS 7 (bind2 (fC (.int 1)) (bindA (aCons (lcF (seqF (bind2 (fVar 8) (fC (.int 2)) ixA)) (tgN 9) yesT (bind2 (fVar 2) (fVar 9) ixA) [9]) aNil) sumG) addAll)) skipS)) (dputS 2 (fVar 4) (bindA (aCons (fVar 7) aNil) maxLG))))) :
    wS A [some (bookD E rs), some (.dct (gvK E rs E)), some (nmD W (E.map (·.1))), some (.bl (rs.any isLow)), some (wd [e.1]), x5, some (.tup (onesD e.2)), x7, x8, x9] s N R := by
  subst hA
  have hn := h.n4
  have hr := h.rn
  have lL : (E.map (·.1)).length = E.length := List.length_map _
  have g1 : ∀ s, ixA s (bookD E rs) (.int 1) = some (.tup (rs.map Ru.d)) := fun _ => rfl
  have hc : e.1 ∈ E.map (·.1) := List.mem_map.mpr ⟨e, he, rfl⟩
  have hle : lesN E e.1 = e.2 := les_eq h.cl.ok.nd he
  have hl2 : e.2.length ≤ 10 := h.cl.ok.few e he
  have ad1 : ∀ a s, addAll s (nD a) (.int 1) = some (nD (a + 1)) := fun a s => add_nD a 1
  have a1d : ∀ a s, addAll s (.int 1) (nD a) = some (nD (1 + a)) := fun a s => add_nD 1 a
  refine wS_seq (wS_setN (by simp) (wE_b2 (wE_bA (wA_c (wE_c (wA_n ⟨.lst [.int 1], rfl, ?_⟩))))))
  refine wE_lc (xs := e.2) (enc := fun a => wd [a]) (fun _ => rs.any isLow) (fun a => nD (W a + 1)) (wI_seq (wE_v rfl ⟨_, rfl, rfl, by omega, fun a ha => wT_tru (wE_v rfl ⟨rs.any isLow, rfl, rfl, rfl⟩), fun a ha _ => wE_b2 (wE_b2 (wE_v rfl (wE_v rfl ⟨_, nm_get (h.cl.cl e he a ha), wE_c ⟨_, ad1 _ _, rfl, rfl⟩⟩))), ?_⟩))
  have hcat : catG s (.lst [.int 1]) (.lst ((e.2.filter fun _ => rs.any isLow).map fun a => nD (W a + 1))) = some (.lst ((wantP E rs W e.1 []).map nD)) := by
    rw [filt_const]
    have : catG s (.lst [.int 1]) (.lst ((if rs.any isLow = true then e.2 else []).map fun a => nD (W a + 1))) = some (.lst ([.int 1] ++ (if rs.any isLow = true then e.2 else []).map fun a => nD (W a + 1))) := if_pos (small (by
      rw [List.length_map]
      split
      · show 1 + _ ≤ _; omega
      · show 1 + 0 ≤ _; decide))
    rw [this]
    unfold wantP
    rw [hle]
    show _ = some (Dt.lst (((1 :: _) ++ []).map nD))
    rw [List.append_nil, List.map_cons, List.map_map]
    rfl
  refine ⟨_, hcat, ?_⟩
  refine wS_seq (wS_for (xs := rs) (enc := Ru.d) (fun pr env s' => s' = s ∧ ∃ x8, env = [some (bookD E rs), some (.dct (gvK E rs E)), some (nmD W (E.map (·.1))), some (.bl (rs.any isLow)), some (wd [e.1]), x5, some (.tup (onesD e.2)), some (.lst ((wantP E rs W e.1 pr).map nD)), x8, x9]) (wI_seq (wE_b2 (wE_v rfl (wE_c ⟨_, g1 s, _, rfl, rfl, ⟨rfl, x8, rfl⟩, ?_, ?_⟩)))))
  · rintro pr r po env s' he4 ⟨rfl, x8, rfl⟩
    have hin : r ∈ rs := by rw [he4]; exact List.mem_append_right _ List.mem_cons_self
    have hpl : pr.length < 7 := by
      have : pr.length ≤ rs.length := by rw [he4, List.length_append]; omega
      omega
    have hp : wantP E rs W e.1 (pr ++ [r]) = wantP E rs W e.1 pr ++ (if isP e.1 r = true then [1 + sumN W (wordR r)] else []) := by
      unfold wantP putsL
      rw [List.filter_append, List.map_append, List.map_append, List.append_assoc]
      congr 2
      rw [List.filter_cons]
      cases isP e.1 r <;> rfl
    refine ⟨_, rfl, ?_⟩
    refine wS_if (wT_isP (c := e.1) (r := r) rfl rfl ⟨fun z => ?_, fun z => ?_⟩)
    · have hw : (wordR r).length ≤ 3 ∧ ∀ a ∈ wordR r, a ∈ E.map (·.1) := by
        have := h.r r hin
        cases r with
        | put d w l => exact ⟨this.2.2, this.2.1⟩
        | drop m l => cases z
        | half l => cases z
        | empty => cases z
        | lower l => cases z
      have hwl : (wantP E rs W e.1 pr).length ≤ 100 := by
        unfold wantP putsL
        rw [List.length_append, List.length_cons, List.length_map, List.length_map, List.length_map, hle]
        have := List.length_filter_le (isP e.1) pr
        split
        · omega
        · show 0 + 1 + _ ≤ _; omega
      refine wS_app (l := (wantP E rs W e.1 pr).map nD) rfl (wE_b2 (wE_c (wE_bA (wA_c (wE_lcy (xs := wordR r) (enc := fun c => wd [c]) (fun a => nD (W a)) (wI_str (wE_b2 (wE_v rfl (wE_c ⟨_, put_word z, wordR r, rfl, rfl, by omega, fun a ha => wE_b2 (wE_v rfl (wE_v rfl ⟨_, nm_get (hw.2 a ha), rfl, rfl⟩)), ?_⟩)))))))))
      refine wA_n ⟨_, sumG_n W (wordR r), _, a1d _ _, by rw [List.length_map]; omega, ?_⟩
      rw [hp, if_pos z, List.map_append]
      exact ⟨rfl, _, rfl⟩
    · refine wS_skip ?_
      rw [hp, z]
      have e0 : wantP E rs W e.1 pr ++ (if false = true then [1 + sumN W (wordR r)] else []) = wantP E rs W e.1 pr := List.append_nil _
      rw [e0]
      exact ⟨rfl, _, rfl⟩
  rintro env s' ⟨rfl, y8, rfl⟩
  have hw : mxN (wantP E rs W e.1 rs) = valW E rs W e.1 := want_max W e.1
  have hm := maxLG_n (s := s') (l := wantP E rs W e.1 rs) (by unfold wantP; simp)
  rw [hw] at hm
  refine wS_dput (l := (E.map (·.1)).map fun c => ((.inr (strW [c]) : Key), nD (W c))) rfl (wE_bA (wA_c (wE_v rfl (wA_n ⟨_, hm, wE_v rfl ⟨.inr (strW [e.1]), rfl, by rw [List.length_map]; omega, ?_⟩⟩))))
  rw [nm_set hc]
  exact q _ _
theorem lleast_ok (h : Gb E rs) (h0 : ringN E rs = []) : V_law_least_k19_k19 [bookD E rs] s = some (.tup ((E.map (·.1)).map fun c => nD (wst E rs c)), s) := by
  have hn := h.n4
  have hr := h.rn
  have hnd := h.cl.ok.nd
  have lL : (E.map (·.1)).length = E.length := List.length_map _
  have g0 : ∀ s, ixA s (bookD E rs) (.int 0) = some (.tup (entL E)) := fun _ => rfl
  refine wF_out (wF_fn ?_)
  delta F_law_least_k19_k19
  have hg := gives_ok (s := s) h
  refine wS_seq (wS_go (e' := [some (bookD E rs), some (.dct (gvK E rs E)), some (.dct []), none, none, none, none, none, none, none]) (s' := s) (parN_ev (ds := [.dct (gvK E rs E), .dct []]) rfl ?_ rfl) ?_)
  · have e1 : callF V_law_gives_k19_k19 (aCons (fVar 0) aNil) (List.map some [bookD E rs] ++ List.replicate (10 - [bookD E rs].length) none) s = some (.dct (gvK E rs E), s) := call_ev (aCons_ev (v0 rfl) a0) hg
    unfold evalL
    rw [e1]
    rfl
  refine wS_seq (wS_set (lows_ok h rfl (fun x => rfl) ?_))
  refine wS_seq (wS_for (xs := E.map (·.1)) (enc := fun c => wd [c]) (fun pre env s' => s' = s ∧ ∃ x4, env = [some (bookD E rs), some (.dct (gvK E rs E)), some (nmD (fun _ => 1) pre), some (.bl (rs.any isLow)), x4, none, none, none, none, none]) (wI_seq (wE_v rfl ⟨onesD (E.map (·.1)), ?_, rfl, ⟨rfl, none, rfl⟩, ?_, ?_⟩)))
  · show some ((gvK E rs E).map fun kv => keyD kv.1) = _
    unfold gvK onesD
    rw [List.map_map, List.map_map]; rfl
  · rintro pre c post env s' he ⟨rfl, x4, rfl⟩
    have hcp : c ∉ pre := fun z => by
      rw [he] at hnd
      exact (List.nodup_append.mp hnd).2.2 c z c List.mem_cons_self rfl
    have hpl : pre.length ≤ E.length := by rw [← lL, he, List.length_append]; omega
    refine ⟨_, rfl, ?_⟩
    refine wS_dput (l := pre.map fun c => ((.inr (strW [c]) : Key), nD ((fun _ => 1) c))) rfl (wE_c (wE_v rfl ⟨.inr (strW [c]), rfl, by rw [List.length_map]; omega, ?_⟩))
    have := nm_put (W := fun _ => 1) hcp
    rw [show (Dt.int 1) = nD ((fun _ : Nat => 1) c) from rfl, this]
    exact ⟨rfl, _, rfl⟩
  rintro env s' ⟨rfl, x4, rfl⟩
  refine wS_seq (wS_for (xs := List.range E.length) (enc := fun i => .int (0 + ((i : Nat) : Int))) (fun pre env s2 => s2 = s' ∧ ∃ W x4 x5 x6 x7 x8 x9, (∀ c ∈ E.map (·.1), c ∉ kpi E rs pre.length → W c = wst E rs c) ∧ env = [some (bookD E rs), some (.dct (gvK E rs E)), some (nmD W (E.map (·.1))), some (.bl (rs.any isLow)), x4, x5, x6, x7, x8, x9]) (wI_rng (wE_bA (wA_c (wE_v rfl (wA_n ⟨.int ((E.length : Nat) : Int), ?_, E.length, rfl, by omega, rfl, ⟨rfl, fun _ => 1, _, _, _, _, _, _, by exact fun c hc z => absurd hc z, rfl⟩, ?_, ?_⟩))))))
  · rw [len_dct]
    unfold gvK
    rw [List.length_map]
  · rintro pre i post env s2 he ⟨rfl, W, x4, x5, x6, x7, x8, x9, hW, rfl⟩
    refine ⟨_, rfl, ?_⟩
    refine wS_for (xs := E) (enc := fun e => .tup [wd [e.1], .tup (onesD e.2)]) (fun pre2 env s3 => s3 = s2 ∧ ∃ W x4 x5 x6 x7 x8 x9, (∀ c ∈ E.map (·.1), c ∉ kpi E rs pre.length → W c = wst E rs c) ∧ (∀ e ∈ pre2, e.1 ∉ kpi E rs (pre.length + 1) → W e.1 = wst E rs e.1) ∧ env = [some (bookD E rs), some (.dct (gvK E rs E)), some (nmD W (E.map (·.1))), some (.bl (rs.any isLow)), x4, x5, x6, x7, x8, x9]) (wI_seq (wE_b2 (wE_v rfl (wE_c ⟨_, g0 s2, _, rfl, rfl, ⟨rfl, W, _, _, _, _, _, _, hW, fun e he => absurd he List.not_mem_nil, rfl⟩, ?_, ?_⟩))))
    · rintro pre2 e po env s3 he2 ⟨rfl, W, x4, x5, x6, x7, x8, x9, hW, hP, rfl⟩
      have hin : e ∈ E := by rw [he2]; exact List.mem_append_right _ List.mem_cons_self
      have hc : e.1 ∈ E.map (·.1) := List.mem_map.mpr ⟨e, hin, rfl⟩
      have good : e.1 ∉ kpi E rs (pre.length + 1) → valW E rs W e.1 = wst E rs e.1 := fun z => by
        rw [← wst_fix h h0 hc]
        exact val_congr fun a ha => hW a (g_inG h ha) (below_kpi hc z a ha)
      refine ⟨_, rfl, ?_⟩
      refine lap_body (s := s3) h hin (fun y7 y8 => ?_) rfl
      refine ⟨rfl, setN W e.1 (valW E rs W e.1), _, _, _, _, _, _, fun c hc2 z => ?_, fun e' he' z => ?_, rfl⟩
      · unfold setN
        by_cases q : c = e.1
        · rw [if_pos q, q]
          exact good fun y => z (by rw [q]; exact kpi_anti (Nat.le_succ _) y)
        · rw [if_neg q]; exact hW c hc2 z
      · unfold setN
        by_cases q : e'.1 = e.1
        · rw [if_pos q, q]
          exact good (by rw [← q]; exact z)
        · rw [if_neg q]
          rcases List.mem_append.mp he' with he' | he'
          · exact hP e' he' z
          · exact absurd (by rw [List.mem_singleton.mp he']) q
    · rintro env s3 ⟨rfl, W, x4, x5, x6, x7, x8, x9, hW, hP, rfl⟩
      refine ⟨rfl, W, _, _, _, _, _, _, fun c hc z => ?_, rfl⟩
      rw [List.length_append] at z
      obtain ⟨e, he, rfl⟩ := List.mem_map.mp hc
      exact hP e he z
  rintro env s2 ⟨rfl, W, x4, x5, x6, x7, x8, x9, hW, rfl⟩
  rw [List.length_range] at hW
  have hW : ∀ c ∈ E.map (·.1), W c = wst E rs c := fun c hc => hW c hc (no_ring h0 c)
  refine wS_ret (wE_bA (wA_c (wE_eq (lc_p (xs := E) (enc := fun e => wd [e.1]) (enc2 := fun e => .tup (onesD e.2)) (q := fun _ => true) (g := fun e => nD (wst E rs e.1)) (s1 := s2) (seq_tup (bind2_ev (v0 rfl) c0 rfl)) (small (by omega)) (fun e he => rfl) fun e he _ => ?_) ?_)))
  · refine bind2_ev (v0 rfl) (v0 rfl) ?_
    have hc : e.1 ∈ E.map (·.1) := List.mem_map.mpr ⟨e, he, rfl⟩
    rw [← hW e.1 hc]
    exact nm_get hc
  · rw [List.filter_eq_self.mpr fun _ _ => rfl]
    refine wA_n ⟨_, rfl, ?_, rfl⟩
    rw [List.map_map]; rfl
end

end DL

namespace DL
open PySem PySem.Spec PyProof.Rows L2
noncomputable section
def Flaw_k19 : Fs := (seqS (setS 2 (callF (V_law_names_k16 V_law_dip_k19) (aCons (fVar 1) aNil))) (seqS (forF (rngF1 (fC (.int 4))) (tgN 3) (seqS (setS 4 (callF (V_law_any_book_k19 V_law_dip_k19) (aCons (fVar 1) (aCons (fVar 2) aNil)))) (seqS (par2S 5 6 (bindA (aCons (fVar 4) aNil) reprG) (bind2 (callF V_law_ringed_k19_k19_k19 (aCons (fVar 4) aNil)) (bindA aNil lstG) eqG)) (seqS (ifS (asB (bind2 (bindA (aCons (bindA (aCons (callF Vis_ending (aCons (fVar 4) aNil)) (aCons (callF (fun ds s => Vis_ending (permL [0] ds) s) (aCons (fVar 4) aNil)) aNil)) lstG) aNil) reprG) (bindA (aCons (bindA (aCons (fVar 6) (aCons (fVar 6) aNil)) lstG) aNil) reprG) neG)) (retS (fC (.bl false))) skipS) (seqS (ifS (truF (fVar 6)) (seqS (setS 7 (callF V_law_least_k19_k19 (aCons (fVar 4) aNil))) (ifS (asB (bind2 (bindA (aCons (bindA (aCons (callF Vleast_weights (aCons (fVar 4) aNil)) (aCons (callF (fun ds s => Vleast_weights (permL [0] ds) s) (aCons (fVar 4) aNil)) aNil)) lstG) aNil) reprG) (bindA (aCons (bindA (aCons (fVar 7) (aCons (fVar 7) aNil)) lstG) aNil) reprG) neG)) (retS (fC (.bl false))) skipS)) skipS) (ifS (asB (bind2 (bindA (aCons (fVar 4) aNil) reprG) (fVar 5) neG)) (retS (fC (.bl false))) skipS)))))) (retS (fC (.bl true)))))
def Elaw_k19 : Fe := (callF V_law_spring_k16 (aCons (fVar 0) aNil))
end
end DL

namespace DL
open PySem PySem.Spec PyProof.Rows L2
local macro_rules | `(tactic| walk_at "op") => `(tactic| first | assumption | with_reducible rfl | exact cat_w (by omega) | exact sub_nn (by omega) | exact add_nn | exact at_w (by omega) (by assumption) | exact len_w (by omega) | exact in_l1 | exact notin_l1 | exact in_t1 | exact notin_t1 | exact in_k1 | exact notin_k1 | exact in_wl | exact notin_wl | exact in_wt | exact notin_wt | exact in_kd | exact notin_kd | exact eq_ww | exact ne_ww | exact any_bl | exact all_bl | rfl)
local macro_rules | `(tactic| walk_at "ev") => `(tactic| first | with_reducible exact c0 | ((with_reducible apply v0); rfl) | with_reducible exact a0 | with_reducible assumption | ((with_reducible apply aCons_ev); (focus walk_at "ev"); (focus walk_at "ev")) | ((with_reducible apply bindA_ev); (focus walk_at "ev"); (focus walk_at "op")) | ((with_reducible apply bind2_ev); (focus walk_at "ev"); (focus walk_at "ev"); (focus walk_at "op")) | ((with_reducible apply bind1_ev); (focus walk_at "ev"); (focus walk_at "op")) | ((with_reducible apply asB_ev); (focus walk_at "ev")) | ((with_reducible apply call_ev); (focus walk_at "ev"); (focus first | assumption | rfl)) | ((with_reducible apply truF_ev); (focus walk_at "ev"); (focus first | assumption | rfl)) | ((with_reducible apply notT_ev); (focus walk_at "ev")) | ((with_reducible apply andT_e); (focus walk_at "ev"); (focus (intro hq; walk_at "ev"))) | ((with_reducible apply orT_e); (focus walk_at "ev"); (focus (intro hq; walk_at "ev"))) | ((with_reducible apply seq_tup); (focus walk_at "ev")) | ((with_reducible apply seq_lst); (focus walk_at "ev")) | ((with_reducible apply seq_str); (focus walk_at "ev")))
local macro_rules | `(tactic| walk_at "w1") => `(tactic| with_reducible first | refine wS_seq ?_ | refine wS_set ?_ | refine wS_ret ?_ | refine wS_if ?_ | refine wS_skip ?_ | refine wS_drop ?_ | refine wS_unp ?_ | refine wE_b2 ?_ | refine wE_b1 ?_ | refine wE_bA ?_ | refine wE_bS ?_ | refine wE_call ?_ | refine wA_c ?_ | refine wA_n ?_ | refine wE_c ?_ | refine wO_n ?_ | refine wO_s ?_ | refine wT_asB ?_ | refine wT_tru ?_ | refine wT_not ?_ | refine wT_and ?_ | refine wT_or ?_ | refine wT_yes ?_ | refine wE_and ?_ | refine wE_or ?_ | refine wE_if ?_ | refine wI_seq ?_ | refine wI_rng ?_ | refine ex_bl ?_ | refine ex_trA ?_ | refine ex_trB ?_ | refine ex_nat ?_ | refine ex_int ?_ | refine ex_unT ?_ | refine ex_unL ?_ | refine and_t ?_ | refine and_f ?_ | refine and_nt ?_ | refine and_nf ?_)
local macro_rules | `(tactic| walk_at "w") => `(tactic| repeat (first | walk_at "w1" | refine wE_v (by rfl) ?_ | ((with_reducible refine wS_par2 ?_ ?_); focus (simp; done)) | ((with_reducible refine wS_par3 ?_ ?_); focus (simp; done)) | ((with_reducible refine wS_setN ?_ ?_); focus (simp; done)) | ((with_reducible apply ex_op); focus (first | exact seqOf_wd | with_reducible exact eq_ss | with_reducible exact ne_ss | with_reducible exact eq_ww | with_reducible exact ne_ww | with_reducible exact eq_ii | with_reducible exact ne_ii | with_reducible exact lt_ii | with_reducible exact gt_ii | with_reducible exact le_ii | with_reducible exact ge_ii | exact all_true' _ _ | walk_at "op")) ))
def gbE (E : Ents) : Bool := decide ((E.map (·.1)).Pairwise (· < ·)) && (E.all (fun e => decide (e.2.length ≤ 10) && (e.2.all (fun d => decide (d ∈ E.map (·.1))) && (decide (97 ≤ e.1) && decide (e.1 ≤ 122)))) && decide (E.length ≤ 4))
def gbW (E : Ents) : Ru → Bool
  | .put c v _ => decide (c ∈ E.map (·.1)) && (v.all (fun a => decide (a ∈ E.map (·.1))) && decide (v.length ≤ 3))
  | _ => true
def gbR (E : Ents) (r : Ru) : Bool := okR r && (lowRb r && gbW E r)
theorem gb_mk {E : Ents} {rs : List Ru} (hE : gbE E = true) (hr : ∀ r ∈ rs, gbR E r = true) (hn : rs.length ≤ 6) : Gb E rs := by
  unfold gbE at hE
  rw [Bool.and_eq_true, Bool.and_eq_true, decide_eq_true_iff, decide_eq_true_iff, List.all_eq_true] at hE
  obtain ⟨h1, h2, h3⟩ := hE
  have h2 : ∀ e ∈ E, e.2.length ≤ 10 ∧ (∀ d ∈ e.2, d ∈ E.map (·.1)) ∧ 97 ≤ e.1 ∧ e.1 ≤ 122 := fun e he => by
    have := h2 e he
    rw [Bool.and_eq_true, Bool.and_eq_true, Bool.and_eq_true, decide_eq_true_iff, decide_eq_true_iff, decide_eq_true_iff, List.all_eq_true] at this
    exact ⟨this.1, fun d hd => of_decide_eq_true (this.2.1 d hd), this.2.2⟩
  exact {
    cl := { ok := ⟨lt_nd h1, fun e he => (h2 e he).1⟩, cl := fun e he d hd => (h2 e he).2.1 d hd, n := by omega, lo := fun c hc => by obtain ⟨e, he, rfl⟩ := List.mem_map.mp hc; exact (h2 e he).2.2 }
    n4 := h3
    rn := hn
    r := fun r hr' => by
      have := hr r hr'
      unfold gbR at this
      rw [Bool.and_eq_true, Bool.and_eq_true] at this
      have := this.2.2
      cases r with
      | put c v l =>
        have this : (decide (c ∈ E.map (·.1)) && (v.all (fun a => decide (a ∈ E.map (·.1))) && decide (v.length ≤ 3))) = true := this
        rw [Bool.and_eq_true, Bool.and_eq_true, decide_eq_true_iff, decide_eq_true_iff, List.all_eq_true] at this
        exact ⟨this.1, fun a ha => of_decide_eq_true (this.2.1 a ha), this.2.2⟩
      | drop m l => trivial
      | half l => trivial
      | empty => trivial
      | lower l => trivial
    up := h1
    ok := fun r hr' => by
      have := hr r hr'
      unfold gbR at this
      rw [Bool.and_eq_true, Bool.and_eq_true] at this
      exact ⟨this.1, this.2.1⟩ }
theorem gbE_f : ∀ t ∈ tables, ∀ f ∈ firsts, gbE (entN t f) = true := by decide +kernel
theorem gbR_f : ∀ t ∈ tables, ∀ f ∈ firsts, ∀ g ∈ signs, fitG f g = true → gbR (entN t f) (ruOf t g) = true := by decide +kernel
theorem gb_book {t f : Str} {gs : List Str} (ht : t ∈ tables) (hf : f ∈ firsts) (hg : ∀ g ∈ gs, g ∈ signs) (hl : gs.length ≤ 6) (hfit : ∀ g ∈ gs, fitG f g = true) : Gb (entN t f) (gs.map (ruOf t)) :=
  gb_mk (gbE_f t ht f hf) (fun r hr => by obtain ⟨g, h, rfl⟩ := List.mem_map.mp hr; exact gbR_f t ht f hf g (hg g h) (hfit g h)) (by rw [List.length_map]; exact hl)
def ringP : List (Str × (Str × List Str)) := [("a b>a c;pa:c.l pc:aa.l", "a b>a c", ["pa:c.l", "pc:aa.l"]), ("a b>a;ll pa:b.l", "a b>a", ["ll", "pa:b.l"]), ("a b;pa:ba.l", "a b", ["pa:ba.l"]), ("a c>a;pc:a.r pa:aa.l", "a c>a", ["pc:a.r", "pa:aa.l"]),
  ("a b>a c;pa:bc.l pb:.l lr", "a b>a c", ["pa:bc.l", "pb:.l", "lr"]), ("a b c;pa:b.l pb:c.r pc:ab.l d1l", "a b c", ["pa:b.l", "pb:c.r", "pc:ab.l", "d1l"])]
theorem rings_ev (s : Sto) : V_law_rings_k19 [] s = some (.lst (ringP.map fun p => .str p.1), s) := by rfl
theorem ring_gb : ∀ t ∈ tables, ∀ p ∈ ringP, gbE (entN t p.2.1) = true ∧ ((p.2.2.map (ruOf t)).all (gbR (entN t p.2.1))) = true ∧ p.2.2.length ≤ 6 := by decide +kernel
theorem rd_a (s : Sto) : ∀ p ∈ ringP, V_law_read_k16 [.str p.1, nmap "abcd"] s = some (planD "abcd" p.2.1 p.2.2, s) := fun p hp => by
  simp only [ringP, List.mem_cons, List.not_mem_nil, or_false] at hp
  rcases hp with rfl | rfl | rfl | rfl | rfl | rfl <;> kernel_rfl
theorem rd_b (s : Sto) : ∀ p ∈ ringP, V_law_read_k16 [.str p.1, nmap "bxyz"] s = some (planD "bxyz" p.2.1 p.2.2, s) := fun p hp => by
  simp only [ringP, List.mem_cons, List.not_mem_nil, or_false] at hp
  rcases hp with rfl | rfl | rfl | rfl | rfl | rfl <;> kernel_rfl
theorem rd_c (s : Sto) : ∀ p ∈ ringP, V_law_read_k16 [.str p.1, nmap "pqrs"] s = some (planD "pqrs" p.2.1 p.2.2, s) := fun p hp => by
  simp only [ringP, List.mem_cons, List.not_mem_nil, or_false] at hp
  rcases hp with rfl | rfl | rfl | rfl | rfl | rfl <;> kernel_rfl
theorem rd_d (s : Sto) : ∀ p ∈ ringP, V_law_read_k16 [.str p.1, nmap "dacb"] s = some (planD "dacb" p.2.1 p.2.2, s) := fun p hp => by
  simp only [ringP, List.mem_cons, List.not_mem_nil, or_false] at hp
  rcases hp with rfl | rfl | rfl | rfl | rfl | rfl <;> kernel_rfl
theorem rd_e (s : Sto) : ∀ p ∈ ringP, V_law_read_k16 [.str p.1, nmap "zyxw"] s = some (planD "zyxw" p.2.1 p.2.2, s) := fun p hp => by
  simp only [ringP, List.mem_cons, List.not_mem_nil, or_false] at hp
  rcases hp with rfl | rfl | rfl | rfl | rfl | rfl <;> kernel_rfl
theorem ring_read {t : Str} (ht : t ∈ tables) (s : Sto) : ∀ p ∈ ringP, V_law_read_k16 [.str p.1, nmap t] s = some (planD t p.2.1 p.2.2, s) := by
  simp only [tables, List.mem_cons, List.not_mem_nil, or_false] at ht
  rcases ht with rfl | rfl | rfl | rfl | rfl
  · exact rd_a s
  · exact rd_b s
  · exact rd_c s
  · exact rd_d s
  · exact rd_e s
section
variable {dp : Fn} {Sp : Addr → Nat → Sto → Prop}
theorem wF_any19 (D : Dip dp Sp) {t : Str} (ht : t ∈ tables) {p : Addr} {n : Nat} {s : Sto} {Q : Dt → Sto → Prop} (h : Sp p n s) (hn : n < 600000) (q : ∀ E rs s', Gb E rs → Sp p (n + 12) s' → Q (bookD E rs) s') : wF (V_law_any_book_k19 dp) [.ref p, nmap t] s Q := by
  refine wF_fn ?_
  delta F_law_any_book_k19
  refine wS_seq (wS_if (wT_asB (wE_b2 (wE_call (wA_c (wE_v rfl (wA_c (wE_c (wA_n (wF_draw D h (by omega) (by decide) (by decide) fun r s1 hr h1 => wE_c ⟨_, eq_ii, _, rfl, fun _ => ?_, fun _ => wS_skip ?_⟩))))))))))
  · refine wS_ret (wE_call (wA_c (wE_call (wA_c (wE_v rfl (wA_c (wE_call (wA_n (wF_eq (rings_ev s1) (wA_n (wF_pick D (ds := ringP.map fun p => .str p.1) h1 (by omega) (by decide) (by decide) fun d s2 hd h2 => ?_)))))))))))
    obtain ⟨z, hz, rfl⟩ := List.mem_map.mp hd
    obtain ⟨g1, g2, g3⟩ := ring_gb t ht z hz
    have e := ring_read ht s2 z hz
    rw [plan_eq] at e
    exact wA_c (wE_v rfl (wA_n (wF_eq e (q _ _ s2 (gb_mk g1 (fun r hr => List.all_eq_true.mp g2 r hr) (by rw [List.length_map]; exact g3)) (D.mono h2 (by omega))))))
  · obtain ⟨f, gs, s2, e, hf, hg, hl, hfit, h2⟩ := book_sp D ht h1 (by omega)
    rw [plan_eq] at e
    exact wS_ret (wE_call (wA_c (wE_v rfl (wA_c (wE_call (wA_n (wF_eq (scenes_ev s1) (wA_c (wE_call (wA_n (wF_eq (menu_ev s1) (wA_c (wE_v rfl (wA_n (wF_eq e (q _ _ s2 (gb_book ht hf hg hl hfit) (D.mono h2 (by omega))))))))))))))))))
end
section
variable {E : Ents} {rs : List Ru} {s : Sto}
theorem gb_okd (h : Gb E rs) : OkD 100000 10 (bookD E rs) := by
  have he : ∀ d ∈ entL E, OkD 400 2 d := fun d hd => by
    obtain ⟨e, he, rfl⟩ := List.mem_map.mp hd
    have a : OkD 12 0 (wd [e.1]) := okd_wd (n := 1) (fun a ha => by rw [List.mem_singleton.mp ha]; exact h.cl.lo _ (List.mem_map.mpr ⟨e, he, rfl⟩)) (Nat.le_refl _)
    have b : OkD 150 1 (.tup (onesD e.2)) := (OkD.tup (W := 12) (D := 0) (n := 10) (okd_ones fun c hc => h.cl.lo c (h.cl.cl e he c hc)) (by rw [List.length_map]; exact h.cl.ok.few e he)).mono (by decide) (by decide)
    exact (OkD.tup (W := 150) (D := 1) (n := 2) (fun d hd => by
      rcases List.mem_cons.mp hd with rfl | hd
      · exact a.mono (by decide) (by decide)
      · rw [List.mem_singleton.mp hd]; exact b) (by show 2 ≤ 2; decide)).mono (by decide) (by decide)
  have h1 : OkD 7000 3 (.tup (entL E)) := (OkD.tup (W := 400) (D := 2) (n := 4) he (by unfold entL; rw [List.length_map]; exact h.n4)).mono (by decide) (by decide)
  have h2 : OkD 7000 3 (.tup (rs.map Ru.d)) := (OkD.tup (W := 1000) (D := 1) (n := 6) (fun d hd => by
    obtain ⟨r, hr, rfl⟩ := List.mem_map.mp hd
    have := h.ok r hr
    exact okd_ru this.1 this.2) (by rw [List.length_map]; exact h.rn)).mono (by decide) (by decide)
  exact (OkD.tup (W := 7000) (D := 3) (n := 2) (fun d hd => by
    rcases List.mem_cons.mp hd with rfl | hd
    · exact h1
    · rw [List.mem_singleton.mp hd]; exact h2) (by show 2 ≤ 2; decide)).mono (by decide) (by decide)
theorem nD_okd {n : Nat} (h : n ≤ 1000) : OkD 30 0 (nD n) := by
  have := log_le (b := ((n : Nat) : Int)) (k := 20) (by omega)
  exact ⟨decide_eq_true (by omega), by show _ + 2 ≤ 30; omega, Nat.le_refl _⟩
theorem wts_okd (h : Gb E rs) : OkD 1000 1 (.tup ((E.map (·.1)).map fun c => nD (wst E rs c))) := (OkD.tup (W := 30) (D := 0) (n := 4) (fun d hd => by
  obtain ⟨c, hc, rfl⟩ := List.mem_map.mp hd
  exact nD_okd (by have := wst_small h hc; omega)) (by rw [List.length_map, List.length_map]; exact h.n4)).mono (by decide) (by decide)
theorem two_repr {d : Dt} (h : OkD 1000 1 d) (s : Sto) : reprG s [.lst [d, d]] = some (.str (showD (.lst [d, d]))) := ((OkD.lst (W := 1000) (D := 1) (n := 2) (fun x hx => by
  simp only [List.mem_cons, List.not_mem_nil, or_false] at hx
  rcases hx with rfl | rfl <;> exact h) (by show 2 ≤ 2; decide)).mono (W' := 5000) (D' := 3) (by decide) (by decide)).repr (by decide) (by decide) s
theorem bl_okd (b : Bool) : OkD 1000 1 (.bl b) := by cases b <;> exact ⟨by decide, by decide, by decide⟩
end

end DL

namespace DL
open PySem PySem.Spec PyProof.Rows L2
local macro_rules | `(tactic| walk_at "op") => `(tactic| first | assumption | with_reducible rfl | exact cat_w (by omega) | exact sub_nn (by omega) | exact add_nn | exact at_w (by omega) (by assumption) | exact len_w (by omega) | exact in_l1 | exact notin_l1 | exact in_t1 | exact notin_t1 | exact in_k1 | exact notin_k1 | exact in_wl | exact notin_wl | exact in_wt | exact notin_wt | exact in_kd | exact notin_kd | exact eq_ww | exact ne_ww | exact any_bl | exact all_bl | rfl)
local macro_rules | `(tactic| walk_at "ev") => `(tactic| first | with_reducible exact c0 | ((with_reducible apply v0); rfl) | with_reducible exact a0 | with_reducible assumption | ((with_reducible apply aCons_ev); (focus walk_at "ev"); (focus walk_at "ev")) | ((with_reducible apply bindA_ev); (focus walk_at "ev"); (focus walk_at "op")) | ((with_reducible apply bind2_ev); (focus walk_at "ev"); (focus walk_at "ev"); (focus walk_at "op")) | ((with_reducible apply bind1_ev); (focus walk_at "ev"); (focus walk_at "op")) | ((with_reducible apply asB_ev); (focus walk_at "ev")) | ((with_reducible apply call_ev); (focus walk_at "ev"); (focus first | assumption | rfl)) | ((with_reducible apply truF_ev); (focus walk_at "ev"); (focus first | assumption | rfl)) | ((with_reducible apply notT_ev); (focus walk_at "ev")) | ((with_reducible apply andT_e); (focus walk_at "ev"); (focus (intro hq; walk_at "ev"))) | ((with_reducible apply orT_e); (focus walk_at "ev"); (focus (intro hq; walk_at "ev"))) | ((with_reducible apply seq_tup); (focus walk_at "ev")) | ((with_reducible apply seq_lst); (focus walk_at "ev")) | ((with_reducible apply seq_str); (focus walk_at "ev")))
local macro_rules | `(tactic| walk_at "w1") => `(tactic| with_reducible first | refine wS_seq ?_ | refine wS_set ?_ | refine wS_ret ?_ | refine wS_if ?_ | refine wS_skip ?_ | refine wS_drop ?_ | refine wS_unp ?_ | refine wE_b2 ?_ | refine wE_b1 ?_ | refine wE_bA ?_ | refine wE_bS ?_ | refine wE_call ?_ | refine wA_c ?_ | refine wA_n ?_ | refine wE_c ?_ | refine wO_n ?_ | refine wO_s ?_ | refine wT_asB ?_ | refine wT_tru ?_ | refine wT_not ?_ | refine wT_and ?_ | refine wT_or ?_ | refine wT_yes ?_ | refine wE_and ?_ | refine wE_or ?_ | refine wE_if ?_ | refine wI_seq ?_ | refine wI_rng ?_ | refine ex_bl ?_ | refine ex_trA ?_ | refine ex_trB ?_ | refine ex_nat ?_ | refine ex_int ?_ | refine ex_unT ?_ | refine ex_unL ?_ | refine and_t ?_ | refine and_f ?_ | refine and_nt ?_ | refine and_nf ?_)
local macro_rules | `(tactic| walk_at "w") => `(tactic| repeat (first | walk_at "w1" | refine wE_v (by rfl) ?_ | ((with_reducible refine wS_par2 ?_ ?_); focus (simp; done)) | ((with_reducible refine wS_par3 ?_ ?_); focus (simp; done)) | ((with_reducible refine wS_setN ?_ ?_); focus (simp; done)) | ((with_reducible apply ex_op); focus (first | exact seqOf_wd | with_reducible exact eq_ss | with_reducible exact ne_ss | with_reducible exact eq_ww | with_reducible exact ne_ww | with_reducible exact eq_ii | with_reducible exact ne_ii | with_reducible exact lt_ii | with_reducible exact gt_ii | with_reducible exact le_ii | with_reducible exact ge_ii | exact all_true' _ _ | walk_at "op")) ))
variable {dp : Fn} {Sp : Addr → Nat → Sto → Prop}
theorem dec_empty (R : List Nat) : decide (R = []) = R.isEmpty := by cases R <;> rfl
theorem dip_k19 : Dip V_law_dip_k19 SpO := dip_of (q0 := 104320) (q1 := 6037) (q2 := 229) (q3 := 40037) rfl (by decide) (by decide) (by decide)
theorem law19_main (D : Dip dp Sp) (hdp : dp = V_law_dip_k19) (p : Addr) (S : Dt) (s : Sto) (h : Sp p 0 s) : ∃ s', Flaw_k19 [some S, some (.ref p), none, none, none, none, none, none] s = some (.rt (.bl true), s') := by
  subst hdp
  suffices q : wS Flaw_k19 [some S, some (.ref p), none, none, none, none, none, none] s (fun _ _ => False) (fun d _ => d = .bl true) by
    obtain ⟨o, s', e, ⟨_, _, z⟩ | ⟨d, rfl, rfl⟩⟩ := q
    · exact z.elim
    · exact ⟨s', e⟩
  delta Flaw_k19
  obtain ⟨t, s1, e1, ht, h1⟩ := names_sp D h (by omega)
  refine wS_seq (wS_set (wE_call (wA_c (wE_v rfl (wA_n (wF_eq e1 ?_))))))
  refine wS_seq (wS_for (xs := List.range 4) (enc := fun i => .int (0 + ((i : Nat) : Int))) (fun pre env s' => Sp p (1 + 20 * pre.length) s' ∧ ∃ x3 x4 x5 x6 x7, env = [some S, some (.ref p), some (nmap t), x3, x4, x5, x6, x7]) (wI_rng (wE_c ⟨4, rfl, by decide, rfl, ⟨h1, none, none, none, none, none, rfl⟩, ?_, ?_⟩)))
  · rintro pre j post env s0 he ⟨h0, x3, x4, x5, x6, x7, rfl⟩
    obtain ⟨hj1, hj2⟩ := range_pre he
    refine ⟨_, rfl, ?_⟩
    refine wS_seq (wS_set (wE_call (wA_c (wE_v rfl (wA_c (wE_v rfl (wA_n (wF_any19 D ht h0 (by omega) fun E rs s2 hG h2 => ?_))))))))
    have hrp : ∀ s, reprG s [bookD E rs] = some (.str (showD (bookD E rs))) := fun s => (gb_okd hG).repr (by decide) (by decide) s
    have heq := eq_ones (s := s2) (ring_lo hG)
    refine wS_seq (wS_par2 (by simp) (wE_bA (wA_c (wE_v rfl (wA_n ⟨_, hrp s2, wE_b2 (wE_call (wA_c (wE_v rfl (wA_n (wF_eq (ringed_ok hG) (wE_bA (wA_n ⟨.lst [], rfl, _, heq, ?_⟩)))))))⟩)))))
    have he1 := ending_ok (s := s2) hG
    rw [dec_empty] at he1
    have r1 := two_repr (bl_okd (ringN E rs).isEmpty) s2
    refine wS_seq (wS_if (wT_asB (wE_b2 (wE_bA (wA_c (wE_bA (wA_c (wE_call (wA_c (wE_v rfl (wA_n (wF_eq he1 ?_))))))))))))
    refine wA_c (wE_call (wA_c (wE_v rfl (wA_n (wF_eq he1 (wA_n ⟨_, rfl, wA_n ⟨_, r1, ?_⟩⟩))))))
    refine wE_bA (wA_c (wE_bA (wA_c (wE_v rfl (wA_c (wE_v rfl (wA_n ⟨_, rfl, wA_n ⟨_, r1, _, ne_ss, _, rfl, fun z => (by simp at z), fun _ => wS_skip ?_⟩⟩)))))))
    refine wS_seq (wS_if (wT_tru (wE_v rfl ⟨(ringN E rs).isEmpty, rfl, fun z => ?_, fun z => wS_skip ?_⟩)))
    · have h00 : ringN E rs = [] := List.isEmpty_iff.mp z
      have hl1 := least_ok19 (s := s2) hG h00
      have hl2 := lleast_ok (s := s2) hG h00
      have r2 := two_repr (wts_okd hG) s2
      refine wS_seq (wS_set (wE_call (wA_c (wE_v rfl (wA_n (wF_eq hl2 ?_))))))
      refine wS_if (wT_asB (wE_b2 (wE_bA (wA_c (wE_bA (wA_c (wE_call (wA_c (wE_v rfl (wA_n (wF_eq hl1 ?_)))))))))))
      refine wA_c (wE_call (wA_c (wE_v rfl (wA_n (wF_eq hl1 (wA_n ⟨_, rfl, wA_n ⟨_, r2, ?_⟩⟩))))))
      refine wE_bA (wA_c (wE_bA (wA_c (wE_v rfl (wA_c (wE_v rfl (wA_n ⟨_, rfl, wA_n ⟨_, r2, _, ne_ss, _, rfl, fun z => (by simp at z), fun _ => wS_skip ?_⟩⟩)))))))
      refine wS_if (wT_asB (wE_b2 (wE_bA (wA_c (wE_v rfl (wA_n ⟨_, hrp s2, wE_v rfl ⟨_, ne_ss, _, rfl, fun z => (by simp at z), fun _ => wS_skip ?_⟩⟩))))))
      exact ⟨D.mono h2 (by rw [List.length_append]; show _ ≤ 1 + 20 * (_ + 1); omega), _, _, _, _, _, rfl⟩
    · refine wS_if (wT_asB (wE_b2 (wE_bA (wA_c (wE_v rfl (wA_n ⟨_, hrp s2, wE_v rfl ⟨_, ne_ss, _, rfl, fun z => (by simp at z), fun _ => wS_skip ?_⟩⟩))))))
      exact ⟨D.mono h2 (by rw [List.length_append]; show _ ≤ 1 + 20 * (_ + 1); omega), _, _, _, _, _, rfl⟩
  rintro env s1 ⟨h1, x3, x4, x5, x6, x7, rfl⟩
  exact wS_ret (wE_c rfl)

end DL

namespace DL
open PySem PySem.Spec PyProof.Rows L2

def topS (i : Nat) : Stmt := PySem.Challenge.pw_firstfailing_k19_endings_told.main.body.getD i (.Pass ⟨0, 0, 0, 0⟩)

abbrev N_law_spring : List Str := ["_law_script"]
abbrev A_law_spring : List Str := ["_law_script"]
theorem sc_law_spring : FnScope N_law_spring A_law_spring (defScope (topS 13)) := ⟨rfl, rfl, rfl, by decide +kernel, rfl, by decide +kernel, by decide +kernel⟩
theorem ok_law_spring {P : Program} {w : World} {K : PySem.W.Frag} {mg : Str → Option Value} {base : Heap} {f : Addr} {fd : FuncData} (Fx : L2.Fun K "_law_spring" "_law_spring" (topS 13) f fd) (m_list : mg "list" = none) : FnG P w K mg base 1 f fd A_law_spring (spF K 1 V_law_spring_k16) :=
  okF (k := 0) (O' := []) Fx sc_law_spring rfl fun X _ _ _ _ _ _ _ _ hex hr hgd => by
    obtain ⟨cdv, L, A, outer, s, H, E, rfl, _⟩ := hex
    have hu := hr.units
    have hu1 := Nat.lt_of_le_of_lt (Nat.add_le_add_left (by decide : 1 ≤ 64) _) hu
    exact (ss_one (s_retO (O := []) (O' := []) (d_of_n (n_disp [((fC (.str "cells")), (bindA (aCons (bindS (fVar 0) oNone (oSome (fC (.int 60))) sliceG) aNil) toLstG)), ((fC (.str "place")), (fC (.int 0))), ((fC (.str "rest")), (fC (.int 0))), ((fC (.str "count")), (fC (.int 0)))] (pps_cons d_str (d_of_n (n_callT (call_lstA rfl) cn_toLst rfl m_list rfl (ab_cons (b_of_d (d_slice (b_var (pv 0)) o_none (o_some (b_of_d d_int)))) ab_nil))) (pps_cons d_str d_int (pps_cons d_str d_int (pps_cons d_str d_int pps_nil))))))))

abbrev N_law_dip : List Str := ["_law_spring_here", "_law_many", "_law_count", "_law_figure", "_law_turn", "_law_cell", "_law_mixed"]
abbrev A_law_dip : List Str := ["_law_spring_here", "_law_many"]
theorem sc_law_dip : FnScope N_law_dip A_law_dip (defScope (topS 14)) := ⟨rfl, rfl, rfl, by decide +kernel, rfl, by decide +kernel, by decide +kernel⟩
theorem ok_law_dip {P : Program} {w : World} {K : PySem.W.Frag} {mg : Str → Option Value} {base : Heap} {f : Addr} {fd : FuncData} (Fx : L2.Fun K "_law_dip" "_law_dip" (topS 14) f fd) (m_int : mg "int" = none) (m_len : mg "len" = none) : FnG P w K mg base 1 f fd A_law_dip (spF K 2 V_law_dip_k19) :=
  okF (k := 0) (O' := []) Fx sc_law_dip rfl fun X _ _ _ _ _ _ _ _ hex hr hgd => by
    obtain ⟨cdv, L, A, outer, s, H, E, rfl, _⟩ := hex
    have hu := hr.units
    have hu1 := Nat.lt_of_le_of_lt (Nat.add_le_add_left (by decide : 1 ≤ 64) _) hu
    exact (ss_cons (s_set (O := []) (O' := []) (ps_set (i := 2) sc_law_dip.nd rfl (by first | exact .inl rfl | exact .inr rfl) (d_addA (b_of_d (d_ixA hu1 (b_var (pv 0)) (b_of_d d_str))) (b_of_d d_int)))) (ss_cons (s_hput (O := []) (ps_dput hu1 (pv 0) (b_of_d d_str) (d_var (by decide) (pv 2)) rfl)) (ss_cons (s_if (O := []) (O' := []) (t_gt (b_of_d (d_ixA hu1 (b_var (pv 0)) (b_of_d d_str))) (b_of_d d_int)) (ss_cons (s_set (O := []) (O' := []) (ps_set (i := 3) sc_law_dip.nd rfl (by first | exact .inl rfl | exact .inr rfl) (d_mod (b_of_d (d_callT call_intA cd_int rfl m_int rfl (ab_cons (b_of_d (d_ixA hu1 (b_var (pv 0)) (b_of_d d_str))) ab_nil))) (b_var (pv 1))))) (ss_cons (s_hput (O := []) (ps_dput hu1 (pv 0) (b_of_d d_str) (d_div (b_of_d (d_ixA hu1 (b_var (pv 0)) (b_of_d d_str))) (b_var (pv 1))) rfl)) (ss_one (s_retO (O := []) (O' := []) (d_var (by decide) (pv 3)))))) ss_nil) (ss_cons (s_set (O := []) (O' := []) (ps_set (i := 4) sc_law_dip.nd rfl (by first | exact .inl rfl | exact .inr rfl) (d_ixA hu1 (b_var (pv 0)) (b_of_d d_str)))) (ss_cons (s_hput (O := []) (ps_dput hu1 (pv 0) (b_of_d d_str) (d_addA (b_var (pv 4)) (b_of_d d_int)) rfl)) (ss_cons (s_set (O := []) (O' := []) (ps_set (i := 5) sc_law_dip.nd rfl (by first | exact .inl rfl | exact .inr rfl) d_int)) (ss_cons (s_if (O := []) (O' := []) (t_ne hu (b_of_d (d_ixA hu1 (b_var (pv 0)) (b_of_d d_str))) (b_of_n (n_lst ad_nil))) (ss_one (s_set (O := []) (O' := []) (ps_set (i := 5) sc_law_dip.nd rfl (by first | exact .inl rfl | exact .inr rfl) (d_ixA hu1 (b_of_d (d_ixA hu1 (b_var (pv 0)) (b_of_d d_str))) (b_of_d (d_mod (b_of_d (d_callT call_intA cd_int rfl m_int rfl (ab_cons (b_var (pv 4)) ab_nil))) (b_of_d (d_callB call_lenA cd_len rfl m_len PySem.boot_len (ab_cons (b_of_d (d_ixA hu1 (b_var (pv 0)) (b_of_d d_str))) ab_nil))))))))) ss_nil) (ss_cons (s_if (O := []) (O' := []) (t_bool (w_and (t_ge (b_var (pv 5)) (b_of_d (d_pow (b_of_d d_int) (b_of_d d_int)))) (w_and1 (t_lt (b_var (pv 4)) (b_of_d (d_callB call_lenA cd_len rfl m_len PySem.boot_len (ab_cons (b_of_d (d_ixA hu1 (b_var (pv 0)) (b_of_d d_str))) ab_nil))))))) (ss_cons (s_hput (O := []) (ps_dput hu1 (pv 0) (b_of_d d_str) (d_div (b_var (pv 5)) (b_var (pv 1))) rfl)) (ss_one (s_retO (O := []) (O' := []) (d_mod (b_of_d (d_callT call_intA cd_int rfl m_int rfl (ab_cons (b_var (pv 5)) ab_nil))) (b_var (pv 1)))))) ss_nil) (ss_cons (s_set (O := []) (O' := []) (ps_set (i := 6) sc_law_dip.nd rfl (by first | exact .inl rfl | exact .inr rfl) (d_mod (b_of_d (d_callT call_intA cd_int rfl m_int rfl (ab_cons (b_of_d (d_pow (b_of_d (d_addA (b_of_d (d_addA (b_of_d (d_mod (b_of_d (d_callT call_intA cd_int rfl m_int rfl (ab_cons (b_var (pv 5)) ab_nil))) (b_of_d d_int))) (b_of_d (d_mul (b_of_d d_int) (b_var (pv 2)))))) (b_of_d d_int))) (b_of_d d_int))) ab_nil))) (b_of_d d_int)))) (ss_cons (s_set (O := []) (O' := []) (ps_set (i := 6) sc_law_dip.nd rfl (by first | exact .inl rfl | exact .inr rfl) (d_mod (b_of_d (d_callT call_intA cd_int rfl m_int rfl (ab_cons (b_of_d (d_pow (b_of_d (d_addA (b_var (pv 6)) (b_of_d (d_mul (b_of_d d_int) (b_var (pv 2)))))) (b_of_d d_int))) ab_nil))) (b_of_d d_int)))) (ss_one (s_retO (O := []) (O' := []) (d_mod (b_of_d (d_callT call_intA cd_int rfl m_int rfl (ab_cons (b_of_d (d_div (b_var (pv 6)) (b_of_d d_int))) ab_nil))) (b_var (pv 1)))))))))))))))

abbrev N_law_pick : List Str := ["_law_spring_here", "_law_items"]
abbrev A_law_pick : List Str := ["_law_spring_here", "_law_items"]
theorem sc_law_pick : FnScope N_law_pick A_law_pick (defScope (topS 15)) := ⟨rfl, rfl, rfl, by decide +kernel, rfl, by decide +kernel, by decide +kernel⟩
theorem ok_law_pick {P : Program} {w : World} {K : PySem.W.Frag} {mg : Str → Option Value} {base : Heap} {f : Addr} {fd : FuncData} (Fx : L2.Fun K "_law_pick" "_law_pick" (topS 15) f fd) (C_law_dip : Cg P w K mg base 1 "_law_dip" (topS 14) A_law_dip V_law_dip_k19) (m_len : mg "len" = none) : FnG P w K mg base 2 f fd A_law_pick (spF K 2 (V_law_pick_k01 V_law_dip_k19)) :=
  okF (k := 1) (O' := []) Fx sc_law_pick rfl fun X _ _ _ _ _ _ _ _ hex hr hgd => by
    obtain ⟨cdv, L, A, outer, s, H, E, rfl, _⟩ := hex
    have hu := hr.units
    have hu1 := Nat.lt_of_le_of_lt (Nat.add_le_add_left (by decide : 1 ≤ 64) _) hu
    exact (ss_one (s_retO (O := []) (O' := []) (d_ixA hu1 (b_var (pv 1)) (b_of_d (d_cg C_law_dip hr (by decide) hgd rfl (ad_cons (d_var (by decide) (pv 0)) (ad_cons (d_callB call_lenA cd_len rfl m_len PySem.boot_len (ab_cons (b_var (pv 1)) ab_nil)) ad_nil)) (al_cons (al_cons al_nil)))))))

abbrev N_law_names : List Str := ["_law_spring_here", "_law_tables", "_law_table"]
abbrev A_law_names : List Str := ["_law_spring_here"]
theorem sc_law_names : FnScope N_law_names A_law_names (defScope (topS 18)) := ⟨rfl, rfl, rfl, by decide +kernel, rfl, by decide +kernel, by decide +kernel⟩
theorem ok_law_names {P : Program} {w : World} {K : PySem.W.Frag} {mg : Str → Option Value} {base : Heap} {f : Addr} {fd : FuncData} (Fx : L2.Fun K "_law_names" "_law_names" (topS 18) f fd) (C_law_pick : Cg P w K mg base 2 "_law_pick" (topS 15) A_law_pick (V_law_pick_k01 V_law_dip_k19)) : FnG P w K mg base 3 f fd A_law_names (spF K 1 (V_law_names_k16 V_law_dip_k19)) :=
  okF (k := 2) (O' := []) Fx sc_law_names rfl fun X _ _ _ _ _ _ _ _ hex hr hgd => by
    obtain ⟨cdv, L, A, outer, s, H, E, rfl, _⟩ := hex
    have hu := hr.units
    have hu1 := Nat.lt_of_le_of_lt (Nat.add_le_add_left (by decide : 1 ≤ 64) _) hu
    exact (ss_cons (s_set (O := []) (O' := []) (ps_set (i := 1) sc_law_names.nd rfl (by first | exact .inl rfl | exact .inr rfl) (d_of_n (n_lst (ad_cons d_str (ad_cons d_str (ad_cons d_str (ad_cons d_str (ad_cons d_str ad_nil))))))))) (ss_cons (s_set (O := []) (O' := []) (ps_set (i := 2) sc_law_names.nd rfl (by first | exact .inl rfl | exact .inr rfl) (d_cg C_law_pick hr (by decide) hgd rfl (ad_cons (d_var (by decide) (pv 0)) (ad_cons (d_var (by decide) (pv 1)) ad_nil)) (al_cons (al_cons al_nil))))) (ss_one (s_retO (O := []) (O' := []) (d_of_n (n_disp [((fC (.str "a")), (bind2 (fVar 2) (fC (.int 0)) ixA)), ((fC (.str "b")), (bind2 (fVar 2) (fC (.int 1)) ixA)), ((fC (.str "c")), (bind2 (fVar 2) (fC (.int 2)) ixA)), ((fC (.str "d")), (bind2 (fVar 2) (fC (.int 3)) ixA))] (pps_cons d_str (d_ixA hu1 (b_var (pv 2)) (b_of_d d_int)) (pps_cons d_str (d_ixA hu1 (b_var (pv 2)) (b_of_d d_int)) (pps_cons d_str (d_ixA hu1 (b_var (pv 2)) (b_of_d d_int)) (pps_cons d_str (d_ixA hu1 (b_var (pv 2)) (b_of_d d_int)) pps_nil))))))))))

abbrev N_law_rule : List Str := ["_law_sign", "_law_names_here", "_law_side", "_law_one"]
abbrev A_law_rule : List Str := ["_law_sign", "_law_names_here"]
theorem sc_law_rule : FnScope N_law_rule A_law_rule (defScope (topS 16)) := ⟨rfl, rfl, rfl, by decide +kernel, rfl, by decide +kernel, by decide +kernel⟩
theorem ok_law_rule {P : Program} {w : World} {K : PySem.W.Frag} {mg : Str → Option Value} {base : Heap} {f : Addr} {fd : FuncData} (Fx : L2.Fun K "_law_rule" "_law_rule" (topS 16) f fd) (m_int : mg "int" = none) : FnG P w K mg base 1 f fd A_law_rule (spF K 2 V_law_rule_k16) :=
  okF (k := 0) (O' := []) Fx sc_law_rule rfl fun X _ _ _ _ _ _ _ _ hex hr hgd => by
    obtain ⟨cdv, L, A, outer, s, H, E, rfl, _⟩ := hex
    have hu := hr.units
    have hu1 := Nat.lt_of_le_of_lt (Nat.add_le_add_left (by decide : 1 ≤ 64) _) hu
    exact (ss_cons (s_set (O := []) (O' := []) (ps_set (i := 2) sc_law_rule.nd rfl (by first | exact .inl rfl | exact .inr rfl) (d_if (t_eq hu (b_of_d (d_ixA hu1 (b_var (pv 0)) (b_of_d (d_neg (b_of_d d_int))))) (b_of_d d_str)) d_str d_str))) (ss_cons (s_if (O := []) (O' := []) (t_eq hu (b_of_d (d_ixA hu1 (b_var (pv 0)) (b_of_d d_int))) (b_of_d d_str)) (ss_one (s_retO (O := []) (O' := []) (d_tup (ad_cons d_str (ad_cons (d_callT call_intA cd_int rfl m_int rfl (ab_cons (b_of_d (d_ixA hu1 (b_var (pv 0)) (b_of_d d_int))) ab_nil)) (ad_cons (d_var (by decide) (pv 2)) ad_nil)))))) ss_nil) (ss_cons (s_if (O := []) (O' := []) (t_eq hu (b_of_d (d_ixA hu1 (b_var (pv 0)) (b_of_d d_int))) (b_of_d d_str)) (ss_one (s_retO (O := []) (O' := []) (d_tup (ad_cons d_str (ad_cons (d_ixA hu1 (b_var (pv 1)) (b_of_d (d_ixA hu1 (b_var (pv 0)) (b_of_d d_int)))) (ad_cons (d_join (b_of_d d_str) (b_of_n (n_lc (i := 3) rfl sc_law_rule.nd (i_seq (d_slice (b_var (pv 0)) (o_some (b_of_d d_int)) (o_some (b_of_d (d_neg (b_of_d d_int))))) (pi_list (d_slice (b_var (pv 0)) (o_some (b_of_d d_int)) (o_some (b_of_d (d_neg (b_of_d d_int)))))) (pi_tup (d_slice (b_var (pv 0)) (o_some (b_of_d d_int)) (o_some (b_of_d (d_neg (b_of_d d_int)))))) (pi_str (d_slice (b_var (pv 0)) (o_some (b_of_d d_int)) (o_some (b_of_d (d_neg (b_of_d d_int)))))) (pi_keys (d_slice (b_var (pv 0)) (o_some (b_of_d d_int)) (o_some (b_of_d (d_neg (b_of_d d_int))))))) (own := [("_law_one", 3)]) (blkOk_by (by rfl)) (fun _ _ _ _ _ => (pg_name (i := 3) sc_law_rule.nd rfl (by first | exact .inl rfl | exact .inr rfl))) (fun _ _ _ _ _ => ts_nil) (fun _ _ _ _ _ => (d_ixA hu1 (b_var (pv 1)) (b_var (pv 3))))))) (ad_cons (d_var (by decide) (pv 2)) ad_nil))))))) ss_nil) (ss_cons (s_if (O := []) (O' := []) (t_eq hu (b_var (pv 0)) (b_of_d d_str)) (ss_one (s_retO (O := []) (O' := []) (d_tup (ad_cons d_str ad_nil)))) ss_nil) (ss_one (s_retO (O := []) (O' := []) (d_tup (ad_cons (d_if (t_eq hu (b_of_d (d_ixA hu1 (b_var (pv 0)) (b_of_d d_int))) (b_of_d d_str)) d_str d_str) (ad_cons (d_var (by decide) (pv 2)) ad_nil)))))))))

abbrev N_law_read : List Str := ["_law_text", "_law_names_here", "_law_first", "_law_last", "_law_entries", "_law_word", "_law_one", "_law_sign"]
abbrev A_law_read : List Str := ["_law_text", "_law_names_here"]
theorem sc_law_read : FnScope N_law_read A_law_read (defScope (topS 17)) := ⟨rfl, rfl, rfl, by decide +kernel, rfl, by decide +kernel, by decide +kernel⟩
theorem ok_law_read {P : Program} {w : World} {K : PySem.W.Frag} {mg : Str → Option Value} {base : Heap} {f : Addr} {fd : FuncData} (Fx : L2.Fun K "_law_read" "_law_read" (topS 17) f fd) (C_law_rule : Cg P w K mg base 1 "_law_rule" (topS 16) A_law_rule V_law_rule_k16) (m_tuple : mg "tuple" = none) (m_sorted : mg "sorted" = none) : FnG P w K mg base 2 f fd A_law_read (spF K 2 V_law_read_k16) :=
  okF (k := 1) (O' := [4]) Fx sc_law_read rfl fun X _ _ _ _ _ _ _ _ hex hr hgd => by
    obtain ⟨cdv, L, A, outer, s, H, E, rfl, _⟩ := hex
    have hu := hr.units
    have hu1 := Nat.lt_of_le_of_lt (Nat.add_le_add_left (by decide : 1 ≤ 64) _) hu
    exact (ss_cons (s_unp (O := []) (O' := []) (ps_asg (d_of_n (n_split (b_var (pv 0)) (b_of_d d_str))) (pg_unl rfl (pgs_cons (pg_name (i := 2) sc_law_read.nd rfl (by first | exact .inl rfl | exact .inr rfl)) (pgs_cons (pg_name (i := 3) sc_law_read.nd rfl (by first | exact .inl rfl | exact .inr rfl)) pgs_nil)))) (ps_asg (d_of_n (n_split (b_var (pv 0)) (b_of_d d_str))) (pg_tup rfl (pgs_cons (pg_name (i := 2) sc_law_read.nd rfl (by first | exact .inl rfl | exact .inr rfl)) (pgs_cons (pg_name (i := 3) sc_law_read.nd rfl (by first | exact .inl rfl | exact .inr rfl)) pgs_nil))))) (ss_cons (s_setN (O := []) (O' := [4]) (ps_set (i := 4) sc_law_read.nd rfl (by first | exact .inl rfl | exact .inr rfl) (n_lst ad_nil))) (ss_cons (s_for (L := []) (O := [4]) PassesOwn.never rfl (i_seq (d_if (t_ne hu (b_var (pv 2)) (b_of_d d_str)) (d_of_n (n_split (b_var (pv 2)) (b_of_d d_str))) (d_of_n (n_lst ad_nil))) (pi_list (d_if (t_ne hu (b_var (pv 2)) (b_of_d d_str)) (d_of_n (n_split (b_var (pv 2)) (b_of_d d_str))) (d_of_n (n_lst ad_nil)))) (pi_tup (d_if (t_ne hu (b_var (pv 2)) (b_of_d d_str)) (d_of_n (n_split (b_var (pv 2)) (b_of_d d_str))) (d_of_n (n_lst ad_nil)))) (pi_str (d_if (t_ne hu (b_var (pv 2)) (b_of_d d_str)) (d_of_n (n_split (b_var (pv 2)) (b_of_d d_str))) (d_of_n (n_lst ad_nil)))) (pi_keys (d_if (t_ne hu (b_var (pv 2)) (b_of_d d_str)) (d_of_n (n_split (b_var (pv 2)) (b_of_d d_str))) (d_of_n (n_lst ad_nil))))) (g_name (pg_name (i := 5) sc_law_read.nd rfl (by first | exact .inl rfl | exact .inr rfl))) (ss_one (s_app (O := [4]) (i := 4) (pe_bm PySem.F.plainAttrs_list PySem.F.slot_list_append PySem.F.type_list_append mt_append (pv 4) (pa_cons (d_tup (ad_cons (d_ixA hu1 (b_var (pv 1)) (b_of_d (d_ixA hu1 (b_var (pv 5)) (b_of_d d_int)))) (ad_cons (d_callT call_tupA cd_toTup rfl m_tuple rfl (ab_cons (b_of_n (n_callB call_sortedA cn_sortedA rfl m_sorted rfl (ab_cons (b_of_n (n_lc (i := 6) rfl sc_law_read.nd (i_seq (d_slice (b_var (pv 5)) (o_some (b_of_d d_int)) o_none) (pi_list (d_slice (b_var (pv 5)) (o_some (b_of_d d_int)) o_none)) (pi_tup (d_slice (b_var (pv 5)) (o_some (b_of_d d_int)) o_none)) (pi_str (d_slice (b_var (pv 5)) (o_some (b_of_d d_int)) o_none)) (pi_keys (d_slice (b_var (pv 5)) (o_some (b_of_d d_int)) o_none))) (own := [("_law_one", 6)]) (blkOk_by (by rfl)) (fun _ _ _ _ _ => (pg_name (i := 6) sc_law_read.nd rfl (by first | exact .inl rfl | exact .inr rfl))) (fun _ _ _ _ _ => ts_nil) (fun _ _ _ _ _ => (d_ixA hu1 (b_var (pv 1)) (b_var (pv 6)))))) ab_nil))) ab_nil)) ad_nil))) pa_nil))))) (ss_one (s_retO (O := [4]) (O' := [4]) (d_tup (ad_cons (d_callT call_tupA cd_toTup rfl m_tuple rfl (ab_cons (b_of_n (n_callB call_sortedA cn_sortedA rfl m_sorted rfl (ab_cons (b_var (pv 4)) ab_nil))) ab_nil)) (ad_cons (d_callT call_tupA cd_toTup rfl m_tuple rfl (ab_cons (b_of_n (n_if (t_ne hu (b_var (pv 3)) (b_of_d d_str)) (n_lc (i := 7) rfl sc_law_read.nd (i_seq (d_of_n (n_split (b_var (pv 3)) (b_of_d d_str))) (pi_list (d_of_n (n_split (b_var (pv 3)) (b_of_d d_str)))) (pi_tup (d_of_n (n_split (b_var (pv 3)) (b_of_d d_str)))) (pi_str (d_of_n (n_split (b_var (pv 3)) (b_of_d d_str)))) (pi_keys (d_of_n (n_split (b_var (pv 3)) (b_of_d d_str))))) (own := [("_law_sign", 7)]) (blkOk_by (by rfl)) (fun _ _ _ _ _ => (pg_name (i := 7) sc_law_read.nd rfl (by first | exact .inl rfl | exact .inr rfl))) (fun _ _ _ _ _ => ts_nil) (fun _ _ _ _ _ => (d_cg C_law_rule hr (by decide) hgd rfl (ad_cons (d_var (by decide) (pv 7)) (ad_cons (d_var (by decide) (pv 1)) ad_nil)) (al_cons (al_cons al_nil))))) (n_lst ad_nil))) ab_nil)) ad_nil))))))))

abbrev N_law_rings : List Str := []
abbrev A_law_rings : List Str := []
theorem sc_law_rings : FnScope N_law_rings A_law_rings (defScope (topS 26)) := ⟨rfl, rfl, rfl, by decide +kernel, rfl, by decide +kernel, by decide +kernel⟩
theorem ok_law_rings {P : Program} {w : World} {K : PySem.W.Frag} {mg : Str → Option Value} {base : Heap} {f : Addr} {fd : FuncData} (Fx : L2.Fun K "_law_rings" "_law_rings" (topS 26) f fd) : FnG P w K mg base 1 f fd A_law_rings (spF K 0 V_law_rings_k19) :=
  okF (k := 0) (O' := []) Fx sc_law_rings rfl fun X _ _ _ _ _ _ _ _ hex hr hgd => by
    obtain ⟨cdv, L, A, outer, s, H, E, rfl, _⟩ := hex
    have hu := hr.units
    have hu1 := Nat.lt_of_le_of_lt (Nat.add_le_add_left (by decide : 1 ≤ 64) _) hu
    exact (ss_one (s_retO (O := []) (O' := []) (d_of_n (n_lst (ad_cons d_str (ad_cons d_str (ad_cons d_str (ad_cons d_str (ad_cons d_str (ad_cons d_str ad_nil))))))))))

abbrev N_law_drawn : List Str := ["_law_spring_here", "_law_menu_here", "_law_first", "_law_last", "_law_lap", "_law_sign", "_law_one"]
abbrev A_law_drawn : List Str := ["_law_spring_here", "_law_menu_here"]
theorem sc_law_drawn : FnScope N_law_drawn A_law_drawn (defScope (topS 19)) := ⟨rfl, rfl, rfl, by decide +kernel, rfl, by decide +kernel, by decide +kernel⟩
theorem ok_law_drawn {P : Program} {w : World} {K : PySem.W.Frag} {mg : Str → Option Value} {base : Heap} {f : Addr} {fd : FuncData} (Fx : L2.Fun K "_law_drawn" "_law_drawn" (topS 19) f fd) (C_law_pick : Cg P w K mg base 2 "_law_pick" (topS 15) A_law_pick (V_law_pick_k01 V_law_dip_k19)) (C_law_dip : Cg P w K mg base 1 "_law_dip" (topS 14) A_law_dip V_law_dip_k19) (m_range : mg "range" = none) : FnG P w K mg base 3 f fd A_law_drawn (spF K 2 (V_law_drawn_k16 V_law_dip_k19)) :=
  okF (k := 2) (O' := [3]) Fx sc_law_drawn rfl fun X _ _ _ _ _ _ _ _ hex hr hgd => by
    obtain ⟨cdv, L, A, outer, s, H, E, rfl, _⟩ := hex
    have hu := hr.units
    have hu1 := Nat.lt_of_le_of_lt (Nat.add_le_add_left (by decide : 1 ≤ 64) _) hu
    exact (ss_cons (s_set (O := []) (O' := []) (ps_set (i := 2) sc_law_drawn.nd rfl (by first | exact .inl rfl | exact .inr rfl) (d_cg C_law_pick hr (by decide) hgd rfl (ad_cons (d_var (by decide) (pv 0)) (ad_cons (d_of_n (n_lst (ad_cons d_str (ad_cons d_str (ad_cons d_str (ad_cons d_str (ad_cons d_str (ad_cons d_str (ad_cons d_str ad_nil))))))))) ad_nil)) (al_cons (al_cons al_nil))))) (ss_cons (s_setN (O := []) (O' := [3]) (ps_set (i := 3) sc_law_drawn.nd rfl (by first | exact .inl rfl | exact .inr rfl) (n_lst ad_nil))) (ss_cons (s_for (L := []) (O := [3]) PassesOwn.never rfl (i_range1 rfl m_range (b_of_d (d_addA (b_of_d d_int) (b_of_d (d_cg C_law_dip hr (by decide) hgd rfl (ad_cons (d_var (by decide) (pv 0)) (ad_cons (d_cg C_law_pick hr (by decide) hgd rfl (ad_cons (d_var (by decide) (pv 0)) (ad_cons (d_of_n (n_lst (ad_cons d_int (ad_cons d_int (ad_cons d_int ad_nil))))) ad_nil)) (al_cons (al_cons al_nil))) ad_nil)) (al_cons (al_cons al_nil))))))) (g_name (pg_name (i := 4) sc_law_drawn.nd rfl (by first | exact .inl rfl | exact .inr rfl))) (ss_cons (s_set (O := [3]) (O' := [3]) (ps_set (i := 5) sc_law_drawn.nd rfl (by first | exact .inl rfl | exact .inr rfl) (d_cg C_law_pick hr (by decide) hgd rfl (ad_cons (d_var (by decide) (pv 0)) (ad_cons (d_var (by decide) (pv 1)) ad_nil)) (al_cons (al_cons al_nil))))) (ss_one (s_if (O := [3]) (O' := [3]) (t_bool (w_or (t_ne hu (b_of_d (d_ixA hu1 (b_var (pv 5)) (b_of_d d_int))) (b_of_d d_str)) (w_or1 (t_eq hu (b_of_n (n_lc (i := 6) rfl sc_law_drawn.nd (i_seq (d_addA (b_of_d (d_ixA hu1 (b_var (pv 5)) (b_of_d d_int))) (b_of_d (d_slice (b_var (pv 5)) (o_some (b_of_d d_int)) (o_some (b_of_d (d_neg (b_of_d d_int))))))) (pi_list (d_addA (b_of_d (d_ixA hu1 (b_var (pv 5)) (b_of_d d_int))) (b_of_d (d_slice (b_var (pv 5)) (o_some (b_of_d d_int)) (o_some (b_of_d (d_neg (b_of_d d_int)))))))) (pi_tup (d_addA (b_of_d (d_ixA hu1 (b_var (pv 5)) (b_of_d d_int))) (b_of_d (d_slice (b_var (pv 5)) (o_some (b_of_d d_int)) (o_some (b_of_d (d_neg (b_of_d d_int)))))))) (pi_str (d_addA (b_of_d (d_ixA hu1 (b_var (pv 5)) (b_of_d d_int))) (b_of_d (d_slice (b_var (pv 5)) (o_some (b_of_d d_int)) (o_some (b_of_d (d_neg (b_of_d d_int)))))))) (pi_keys (d_addA (b_of_d (d_ixA hu1 (b_var (pv 5)) (b_of_d d_int))) (b_of_d (d_slice (b_var (pv 5)) (o_some (b_of_d d_int)) (o_some (b_of_d (d_neg (b_of_d d_int))))))))) (own := [("_law_one", 6)]) (blkOk_by (by rfl)) (fun _ _ _ _ _ => (pg_name (i := 6) sc_law_drawn.nd rfl (by first | exact .inl rfl | exact .inr rfl))) (fun _ _ _ _ _ => (ts_one (t_notinA hu1 (b_var (pv 6)) (b_var (pv 2))))) (fun _ _ _ _ _ => (d_var (by decide) (pv 6))))) (b_of_n (n_lst ad_nil)))))) (ss_one (s_app (O := [3]) (i := 3) (pe_bm PySem.F.plainAttrs_list PySem.F.slot_list_append PySem.F.type_list_append mt_append (pv 3) (pa_cons (d_var (by decide) (pv 5)) pa_nil)))) ss_nil)))) (ss_one (s_retO (O := [3]) (O' := [3]) (d_addA (b_of_d (d_addA (b_var (pv 2)) (b_of_d d_str))) (b_of_d (d_join (b_of_d d_str) (b_var (pv 3))))))))))

abbrev N_law_book : List Str := ["_law_spring_here", "_law_scenes_here", "_law_menu_here", "_law_names_here"]
abbrev A_law_book : List Str := ["_law_spring_here", "_law_scenes_here", "_law_menu_here", "_law_names_here"]
theorem sc_law_book : FnScope N_law_book A_law_book (defScope (topS 20)) := ⟨rfl, rfl, rfl, by decide +kernel, rfl, by decide +kernel, by decide +kernel⟩
theorem ok_law_book {P : Program} {w : World} {K : PySem.W.Frag} {mg : Str → Option Value} {base : Heap} {f : Addr} {fd : FuncData} (Fx : L2.Fun K "_law_book" "_law_book" (topS 20) f fd) (C_law_read : Cg P w K mg base 2 "_law_read" (topS 17) A_law_read V_law_read_k16) (C_law_dip : Cg P w K mg base 1 "_law_dip" (topS 14) A_law_dip V_law_dip_k19) (C_law_drawn : Cg P w K mg base 3 "_law_drawn" (topS 19) A_law_drawn (V_law_drawn_k16 V_law_dip_k19)) (C_law_pick : Cg P w K mg base 2 "_law_pick" (topS 15) A_law_pick (V_law_pick_k01 V_law_dip_k19)) : FnG P w K mg base 4 f fd A_law_book (spF K 4 (V_law_book_k16 V_law_dip_k19)) :=
  okF (k := 3) (O' := []) Fx sc_law_book rfl fun X _ _ _ _ _ _ _ _ hex hr hgd => by
    obtain ⟨cdv, L, A, outer, s, H, E, rfl, _⟩ := hex
    have hu := hr.units
    have hu1 := Nat.lt_of_le_of_lt (Nat.add_le_add_left (by decide : 1 ≤ 64) _) hu
    exact (ss_one (s_retO (O := []) (O' := []) (d_cg C_law_read hr (by decide) hgd rfl (ad_cons (d_if (t_eq hu (b_of_d (d_cg C_law_dip hr (by decide) hgd rfl (ad_cons (d_var (by decide) (pv 0)) (ad_cons d_int ad_nil)) (al_cons (al_cons al_nil)))) (b_of_d d_int)) (d_cg C_law_drawn hr (by decide) hgd rfl (ad_cons (d_var (by decide) (pv 0)) (ad_cons (d_var (by decide) (pv 2)) ad_nil)) (al_cons (al_cons al_nil))) (d_cg C_law_pick hr (by decide) hgd rfl (ad_cons (d_var (by decide) (pv 0)) (ad_cons (d_var (by decide) (pv 1)) ad_nil)) (al_cons (al_cons al_nil)))) (ad_cons (d_var (by decide) (pv 3)) ad_nil)) (al_cons (al_cons al_nil)))))

abbrev N_law_menu : List Str := []
abbrev A_law_menu : List Str := []
theorem sc_law_menu : FnScope N_law_menu A_law_menu (defScope (topS 25)) := ⟨rfl, rfl, rfl, by decide +kernel, rfl, by decide +kernel, by decide +kernel⟩
theorem ok_law_menu {P : Program} {w : World} {K : PySem.W.Frag} {mg : Str → Option Value} {base : Heap} {f : Addr} {fd : FuncData} (Fx : L2.Fun K "_law_menu" "_law_menu" (topS 25) f fd) : FnG P w K mg base 1 f fd A_law_menu (spF K 0 V_law_menu_k16) :=
  okF (k := 0) (O' := []) Fx sc_law_menu rfl fun X _ _ _ _ _ _ _ _ hex hr hgd => by
    obtain ⟨cdv, L, A, outer, s, H, E, rfl, _⟩ := hex
    have hu := hr.units
    have hu1 := Nat.lt_of_le_of_lt (Nat.add_le_add_left (by decide : 1 ≤ 64) _) hu
    exact (ss_one (s_retO (O := []) (O' := []) (d_of_n (n_lst (ad_cons d_str (ad_cons d_str (ad_cons d_str (ad_cons d_str (ad_cons d_str (ad_cons d_str (ad_cons d_str (ad_cons d_str (ad_cons d_str (ad_cons d_str (ad_cons d_str (ad_cons d_str (ad_cons d_str (ad_cons d_str (ad_cons d_str (ad_cons d_str (ad_cons d_str (ad_cons d_str (ad_cons d_str (ad_cons d_str (ad_cons d_str (ad_cons d_str ad_nil))))))))))))))))))))))))))

abbrev N_law_scenes : List Str := []
abbrev A_law_scenes : List Str := []
theorem sc_law_scenes : FnScope N_law_scenes A_law_scenes (defScope (topS 24)) := ⟨rfl, rfl, rfl, by decide +kernel, rfl, by decide +kernel, by decide +kernel⟩
theorem ok_law_scenes {P : Program} {w : World} {K : PySem.W.Frag} {mg : Str → Option Value} {base : Heap} {f : Addr} {fd : FuncData} (Fx : L2.Fun K "_law_scenes" "_law_scenes" (topS 24) f fd) : FnG P w K mg base 1 f fd A_law_scenes (spF K 0 V_law_scenes_k16) :=
  okF (k := 0) (O' := []) Fx sc_law_scenes rfl fun X _ _ _ _ _ _ _ _ hex hr hgd => by
    obtain ⟨cdv, L, A, outer, s, H, E, rfl, _⟩ := hex
    have hu := hr.units
    have hu1 := Nat.lt_of_le_of_lt (Nat.add_le_add_left (by decide : 1 ≤ 64) _) hu
    exact (ss_one (s_retO (O := []) (O' := []) (d_of_n (n_lst (ad_cons d_str (ad_cons d_str (ad_cons d_str (ad_cons d_str (ad_cons d_str (ad_cons d_str (ad_cons d_str (ad_cons d_str (ad_cons d_str (ad_cons d_str (ad_cons d_str (ad_cons d_str (ad_cons d_str (ad_cons d_str (ad_cons d_str (ad_cons d_str (ad_cons d_str (ad_cons d_str (ad_cons d_str ad_nil)))))))))))))))))))))))

abbrev N_law_any_book : List Str := ["_law_spring_here", "_law_names_here"]
abbrev A_law_any_book : List Str := ["_law_spring_here", "_law_names_here"]
theorem sc_law_any_book : FnScope N_law_any_book A_law_any_book (defScope (topS 27)) := ⟨rfl, rfl, rfl, by decide +kernel, rfl, by decide +kernel, by decide +kernel⟩
theorem ok_law_any_book {P : Program} {w : World} {K : PySem.W.Frag} {mg : Str → Option Value} {base : Heap} {f : Addr} {fd : FuncData} (Fx : L2.Fun K "_law_any_book" "_law_any_book" (topS 27) f fd) (C_law_dip : Cg P w K mg base 1 "_law_dip" (topS 14) A_law_dip V_law_dip_k19) (C_law_read : Cg P w K mg base 2 "_law_read" (topS 17) A_law_read V_law_read_k16) (C_law_pick : Cg P w K mg base 2 "_law_pick" (topS 15) A_law_pick (V_law_pick_k01 V_law_dip_k19)) (C_law_rings : Cg P w K mg base 1 "_law_rings" (topS 26) A_law_rings V_law_rings_k19) (C_law_book : Cg P w K mg base 4 "_law_book" (topS 20) A_law_book (V_law_book_k16 V_law_dip_k19)) (C_law_menu : Cg P w K mg base 1 "_law_menu" (topS 25) A_law_menu V_law_menu_k16) (C_law_scenes : Cg P w K mg base 1 "_law_scenes" (topS 24) A_law_scenes V_law_scenes_k16) : FnG P w K mg base 5 f fd A_law_any_book (spF K 2 (V_law_any_book_k19 V_law_dip_k19)) :=
  okF (k := 4) (O' := []) Fx sc_law_any_book rfl fun X _ _ _ _ _ _ _ _ hex hr hgd => by
    obtain ⟨cdv, L, A, outer, s, H, E, rfl, _⟩ := hex
    have hu := hr.units
    have hu1 := Nat.lt_of_le_of_lt (Nat.add_le_add_left (by decide : 1 ≤ 64) _) hu
    exact (ss_cons (s_if (O := []) (O' := []) (t_eq hu (b_of_d (d_cg C_law_dip hr (by decide) hgd rfl (ad_cons (d_var (by decide) (pv 0)) (ad_cons d_int ad_nil)) (al_cons (al_cons al_nil)))) (b_of_d d_int)) (ss_one (s_retO (O := []) (O' := []) (d_cg C_law_read hr (by decide) hgd rfl (ad_cons (d_cg C_law_pick hr (by decide) hgd rfl (ad_cons (d_var (by decide) (pv 0)) (ad_cons (d_cg0 C_law_rings hr (by decide) hgd rfl) ad_nil)) (al_cons (al_cons al_nil))) (ad_cons (d_var (by decide) (pv 1)) ad_nil)) (al_cons (al_cons al_nil))))) ss_nil) (ss_one (s_retO (O := []) (O' := []) (d_cg C_law_book hr (by decide) hgd rfl (ad_cons (d_var (by decide) (pv 0)) (ad_cons (d_cg0 C_law_scenes hr (by decide) hgd rfl) (ad_cons (d_cg0 C_law_menu hr (by decide) hgd rfl) (ad_cons (d_var (by decide) (pv 1)) ad_nil)))) (al_cons (al_cons (al_cons (al_cons al_nil))))))))

abbrev N_law_gives : List Str := ["_law_plan", "_law_lowers", "_law_found", "_law_one", "_law_lessers", "_law_rule_here"]
abbrev A_law_gives : List Str := ["_law_plan"]
theorem sc_law_gives : FnScope N_law_gives A_law_gives (defScope (topS 21)) := ⟨rfl, rfl, rfl, by decide +kernel, rfl, by decide +kernel, by decide +kernel⟩
theorem ok_law_gives {P : Program} {w : World} {K : PySem.W.Frag} {mg : Str → Option Value} {base : Heap} {f : Addr} {fd : FuncData} (Fx : L2.Fun K "_law_gives" "_law_gives" (topS 21) f fd) (m_list : mg "list" = none) : FnG P w K mg base 1 f fd A_law_gives (spF K 1 V_law_gives_k19_k19) :=
  okF (k := 0) (O' := [2]) Fx sc_law_gives rfl fun X _ _ _ _ _ _ _ _ hex hr hgd => by
    obtain ⟨cdv, L, A, outer, s, H, E, rfl, _⟩ := hex
    have hu := hr.units
    have hu1 := Nat.lt_of_le_of_lt (Nat.add_le_add_left (by decide : 1 ≤ 64) _) hu
    exact (ss_cons (s_set (O := []) (O' := []) (ps_set (i := 1) sc_law_gives.nd rfl (by first | exact .inl rfl | exact .inr rfl) (d_ne hu (b_of_n (n_lc (i := 5) rfl sc_law_gives.nd (i_seq (d_ixA hu1 (b_var (pv 0)) (b_of_d d_int)) (pi_list (d_ixA hu1 (b_var (pv 0)) (b_of_d d_int))) (pi_tup (d_ixA hu1 (b_var (pv 0)) (b_of_d d_int))) (pi_str (d_ixA hu1 (b_var (pv 0)) (b_of_d d_int))) (pi_keys (d_ixA hu1 (b_var (pv 0)) (b_of_d d_int)))) (own := [("_law_rule_here", 5)]) (blkOk_by (by rfl)) (fun _ _ _ _ _ => (pg_name (i := 5) sc_law_gives.nd rfl (by first | exact .inl rfl | exact .inr rfl))) (fun _ _ _ _ _ => (ts_one (t_eq hu (b_of_d (d_ixA hu1 (b_var (pv 5)) (b_of_d d_int))) (b_of_d d_str)))) (fun _ _ _ _ _ => (d_var (by decide) (pv 5))))) (b_of_n (n_lst ad_nil))))) (ss_cons (s_setN (O := []) (O' := [2]) (ps_set (i := 2) sc_law_gives.nd rfl (by first | exact .inl rfl | exact .inr rfl) n_dnil)) (ss_cons (s_for (L := []) (O := [2]) PassesOwn.never rfl (i_seq (d_ixA hu1 (b_var (pv 0)) (b_of_d d_int)) (pi_list (d_ixA hu1 (b_var (pv 0)) (b_of_d d_int))) (pi_tup (d_ixA hu1 (b_var (pv 0)) (b_of_d d_int))) (pi_str (d_ixA hu1 (b_var (pv 0)) (b_of_d d_int))) (pi_keys (d_ixA hu1 (b_var (pv 0)) (b_of_d d_int)))) (g_pair rfl rfl rfl (pgs_cons (g_name (pg_name (i := 3) sc_law_gives.nd rfl (by first | exact .inl rfl | exact .inr rfl))) (pgs_cons (g_name (pg_name (i := 4) sc_law_gives.nd rfl (by first | exact .inl rfl | exact .inr rfl))) pgs_nil))) (ss_newh (O := [2]) (i := 2) (ps_dput hu1 (pv 2) (b_var (pv 3)) (n_if (t_tru (b_var (pv 1))) (n_callT (call_lstA rfl) cn_toLst rfl m_list rfl (ab_cons (b_var (pv 4)) ab_nil)) (n_lst ad_nil)) rfl) (ss_one (s_for (L := [2]) (O := [2]) PassesOwn.never rfl (i_seq (d_ixA hu1 (b_var (pv 0)) (b_of_d d_int)) (pi_list (d_ixA hu1 (b_var (pv 0)) (b_of_d d_int))) (pi_tup (d_ixA hu1 (b_var (pv 0)) (b_of_d d_int))) (pi_str (d_ixA hu1 (b_var (pv 0)) (b_of_d d_int))) (pi_keys (d_ixA hu1 (b_var (pv 0)) (b_of_d d_int)))) (g_name (pg_name (i := 5) sc_law_gives.nd rfl (by first | exact .inl rfl | exact .inr rfl))) (ss_one (s_if (O := [2]) (O' := [2]) (t_bool (w_and (t_eq hu (b_of_d (d_ixA hu1 (b_var (pv 5)) (b_of_d d_int))) (b_of_d d_str)) (w_and1 (t_eq hu (b_of_d (d_ixA hu1 (b_var (pv 5)) (b_of_d d_int))) (b_var (pv 3)))))) (ss_one (s_hextE (O := [2]) (pe_bm PySem.F.plainAttrs_list PySem.F.slot_list_extend PySem.F.type_list_extend mt_extend (b_of_d (d_ixA hu1 (b_var (pv 2)) (b_var (pv 3)))) (pa_cons (b_of_n (n_callT (CallR.or (call_lstS rfl) (call_lstA rfl)) cn_toLstS rfl m_list rfl (ab_cons (b_of_d (d_ixA hu1 (b_var (pv 5)) (b_of_d d_int))) ab_nil))) pa_nil)))) ss_nil)))))) (ss_one (s_retO (O := [2]) (O' := [2]) (d_var (by decide) (pv 2)))))))

abbrev N_law_ringed : List Str := ["_law_plan", "_law_gives_here", "_law_left", "_law_lap", "_law_one", "_law_two"]
abbrev A_law_ringed : List Str := ["_law_plan"]
theorem sc_law_ringed : FnScope N_law_ringed A_law_ringed (defScope (topS 22)) := ⟨rfl, rfl, rfl, by decide +kernel, rfl, by decide +kernel, by decide +kernel⟩
theorem ok_law_ringed {P : Program} {w : World} {K : PySem.W.Frag} {mg : Str → Option Value} {base : Heap} {f : Addr} {fd : FuncData} (Fx : L2.Fun K "_law_ringed" "_law_ringed" (topS 22) f fd) (C_law_gives : Cg P w K mg base 1 "_law_gives" (topS 21) A_law_gives V_law_gives_k19_k19) (m_sorted : mg "sorted" = none) (m_range : mg "range" = none) (m_len : mg "len" = none) : FnG P w K mg base 2 f fd A_law_ringed (spF K 1 V_law_ringed_k19_k19_k19) :=
  okF (k := 1) (O' := []) Fx sc_law_ringed rfl fun X _ _ _ _ _ _ _ _ hex hr hgd => by
    obtain ⟨cdv, L, A, outer, s, H, E, rfl, _⟩ := hex
    have hu := hr.units
    have hu1 := Nat.lt_of_le_of_lt (Nat.add_le_add_left (by decide : 1 ≤ 64) _) hu
    exact (ss_cons (s_set (O := []) (O' := []) (ps_set (i := 1) sc_law_ringed.nd rfl (by first | exact .inl rfl | exact .inr rfl) (d_cg C_law_gives hr (by decide) hgd rfl (ad_cons (d_var (by decide) (pv 0)) ad_nil) (al_cons al_nil)))) (ss_cons (s_set (O := []) (O' := []) (ps_set (i := 2) sc_law_ringed.nd rfl (by first | exact .inl rfl | exact .inr rfl) (d_of_n (n_callB (cr_sortedD rfl) cn_sortedK rfl m_sorted rfl (ab_cons (b_var (pv 1)) ab_nil))))) (ss_cons (s_for (L := []) (O := []) PassesOwn.never rfl (i_range1 rfl m_range (b_of_d (d_callB call_lenA cd_len rfl m_len PySem.boot_len (ab_cons (b_var (pv 2)) ab_nil)))) (g_name (pg_name (i := 3) sc_law_ringed.nd rfl (by first | exact .inl rfl | exact .inr rfl))) (ss_one (s_set (O := []) (O' := []) (ps_set (i := 2) sc_law_ringed.nd rfl (by first | exact .inl rfl | exact .inr rfl) (d_of_n (n_lc (i := 4) rfl sc_law_ringed.nd (i_seq (d_var (by decide) (pv 2)) (pi_list (d_var (by decide) (pv 2))) (pi_tup (d_var (by decide) (pv 2))) (pi_str (d_var (by decide) (pv 2))) (pi_keys (d_var (by decide) (pv 2)))) (own := [("_law_one", 4)]) (blkOk_by (by rfl)) (fun _ _ _ _ _ => (pg_name (i := 4) sc_law_ringed.nd rfl (by first | exact .inl rfl | exact .inr rfl))) (fun _ _ _ _ _ => (ts_one (t_ne hu (b_of_n (n_lc (i := 5) rfl sc_law_ringed.nd (i_seq (d_ixA hu1 (b_var (pv 1)) (b_var (pv 4))) (pi_list (d_ixA hu1 (b_var (pv 1)) (b_var (pv 4)))) (pi_tup (d_ixA hu1 (b_var (pv 1)) (b_var (pv 4)))) (pi_str (d_ixA hu1 (b_var (pv 1)) (b_var (pv 4)))) (pi_keys (d_ixA hu1 (b_var (pv 1)) (b_var (pv 4))))) (own := [("_law_two", 5)]) (blkOk_by (by rfl)) (fun _ _ _ _ _ => (pg_name (i := 5) sc_law_ringed.nd rfl (by first | exact .inl rfl | exact .inr rfl))) (fun _ _ _ _ _ => (ts_one (t_inA hu1 (b_var (pv 5)) (b_var (pv 2))))) (fun _ _ _ _ _ => (d_var (by decide) (pv 5))))) (b_of_n (n_lst ad_nil))))) (fun _ _ _ _ _ => (d_var (by decide) (pv 4))))))))) (ss_one (s_retO (O := []) (O' := []) (d_var (by decide) (pv 2)))))))

abbrev Nletters_of : List Str := ["book", "entry"]
abbrev Aletters_of : List Str := ["book"]
theorem scletters_of : FnScope Nletters_of Aletters_of (defScope (topS 5)) := ⟨rfl, rfl, rfl, by decide +kernel, rfl, by decide +kernel, by decide +kernel⟩
theorem okletters_of {P : Program} {w : World} {K : PySem.W.Frag} {mg : Str → Option Value} {base : Heap} {f : Addr} {fd : FuncData} (Fx : L2.Fun K "letters_of" "letters_of" (topS 5) f fd) (m_tuple : mg "tuple" = none) : FnG P w K mg base 1 f fd Aletters_of (spF K 1 Vletters_of) :=
  okF (k := 0) (O' := []) Fx scletters_of rfl fun X _ _ _ _ _ _ _ _ hex hr hgd => by
    obtain ⟨cdv, L, A, outer, s, H, E, rfl, _⟩ := hex
    have hu := hr.units
    have hu1 := Nat.lt_of_le_of_lt (Nat.add_le_add_left (by decide : 1 ≤ 64) _) hu
    exact (ss_one (s_retO (O := []) (O' := []) (d_callT call_tupA cd_toTup rfl m_tuple rfl (ab_cons (b_of_n (n_lc (i := 1) rfl scletters_of.nd (i_seq (d_ixA hu1 (b_var (pv 0)) (b_of_d d_int)) (pi_list (d_ixA hu1 (b_var (pv 0)) (b_of_d d_int))) (pi_tup (d_ixA hu1 (b_var (pv 0)) (b_of_d d_int))) (pi_str (d_ixA hu1 (b_var (pv 0)) (b_of_d d_int))) (pi_keys (d_ixA hu1 (b_var (pv 0)) (b_of_d d_int)))) (own := [("entry", 1)]) (blkOk_by (by rfl)) (fun _ _ _ _ _ => (pg_name (i := 1) scletters_of.nd rfl (by first | exact .inl rfl | exact .inr rfl))) (fun _ _ _ _ _ => ts_nil) (fun _ _ _ _ _ => (d_ixA hu1 (b_var (pv 1)) (b_of_d d_int))))) ab_nil))))

abbrev Ngiven_words : List Str := ["book", "letter", "words", "rule"]
abbrev Agiven_words : List Str := ["book", "letter"]
theorem scgiven_words : FnScope Ngiven_words Agiven_words (defScope (topS 10)) := ⟨rfl, rfl, rfl, by decide +kernel, rfl, by decide +kernel, by decide +kernel⟩
theorem okgiven_words {P : Program} {w : World} {K : PySem.W.Frag} {mg : Str → Option Value} {base : Heap} {f : Addr} {fd : FuncData} (Fx : L2.Fun K "given_words" "given_words" (topS 10) f fd) (m_any : mg "any" = none) (m_dict : mg "dict" = none) : FnG P w K mg base 1 f fd Agiven_words (spF K 2 Vgiven_words) :=
  okF (k := 0) (O' := [2]) Fx scgiven_words rfl fun X _ _ _ _ _ _ _ _ hex hr hgd => by
    obtain ⟨cdv, L, A, outer, s, H, E, rfl, _⟩ := hex
    have hu := hr.units
    have hu1 := Nat.lt_of_le_of_lt (Nat.add_le_add_left (by decide : 1 ≤ 64) _) hu
    exact (ss_cons (s_setN (O := []) (O' := [2]) (a_lc (z := 2) (i := 3) rfl scgiven_words.nd rfl rfl rfl (i_seq (d_ixA hu1 (b_var (pv 0)) (b_of_d d_int)) (pi_list (d_ixA hu1 (b_var (pv 0)) (b_of_d d_int))) (pi_tup (d_ixA hu1 (b_var (pv 0)) (b_of_d d_int))) (pi_str (d_ixA hu1 (b_var (pv 0)) (b_of_d d_int))) (pi_keys (d_ixA hu1 (b_var (pv 0)) (b_of_d d_int)))) (own := [("rule", 3)]) (blkOk_by (by rfl)) (fun _ _ _ _ _ => (pg_name (i := 3) scgiven_words.nd rfl (by first | exact .inl rfl | exact .inr rfl))) (fun _ _ _ _ _ => (ts_one (t_bool (w_and (t_eq hu (b_of_d (d_ixA hu1 (b_var (pv 3)) (b_of_d d_int))) (b_of_d d_str)) (w_and1 (t_eq hu (b_of_d (d_ixA hu1 (b_var (pv 3)) (b_of_d d_int))) (b_var (pv 1)))))))) (fun _ _ _ _ _ => (d_ixA hu1 (b_var (pv 3)) (b_of_d d_int))))) (ss_cons (s_if (O := [2]) (O' := [2]) (t_tru (b_of_d (d_callB (cr_any rfl) cd_any rfl m_any rfl (ab_cons (b_of_n (n_lc (i := 3) rfl scgiven_words.nd (i_seq (d_ixA hu1 (b_var (pv 0)) (b_of_d d_int)) (pi_list (d_ixA hu1 (b_var (pv 0)) (b_of_d d_int))) (pi_tup (d_ixA hu1 (b_var (pv 0)) (b_of_d d_int))) (pi_str (d_ixA hu1 (b_var (pv 0)) (b_of_d d_int))) (pi_keys (d_ixA hu1 (b_var (pv 0)) (b_of_d d_int)))) (own := [("rule", 3)]) (blkOk_by (by rfl)) (fun _ _ _ _ _ => (pg_name (i := 3) scgiven_words.nd rfl (by first | exact .inl rfl | exact .inr rfl))) (fun _ _ _ _ _ => ts_nil) (fun _ _ _ _ _ => (d_eq hu (b_of_d (d_ixA hu1 (b_var (pv 3)) (b_of_d d_int))) (b_of_d d_str))))) ab_nil)))) (ss_one (s_extA (O := [2]) (i := 2) (pe_bm PySem.F.plainAttrs_list PySem.F.slot_list_extend PySem.F.type_list_extend mt_extA (pv 2) (pa_cons (b_of_d (d_ixA hu1 (b_of_n (n_callT (call_dctA rfl) cn_toDct rfl m_dict rfl (ab_cons (b_of_d (d_ixA hu1 (b_var (pv 0)) (b_of_d d_int))) ab_nil))) (b_var (pv 1)))) pa_nil)))) ss_nil) (ss_one (s_retO (O := [2]) (O' := [2]) (d_var (by decide) (pv 2))))))

abbrev Nring_of : List Str := ["book", "ring", "given", "kept", "letter", "other"]
abbrev Aring_of : List Str := ["book"]
theorem scring_of : FnScope Nring_of Aring_of (defScope (topS 11)) := ⟨rfl, rfl, rfl, by decide +kernel, rfl, by decide +kernel, by decide +kernel⟩
theorem okring_of {P : Program} {w : World} {K : PySem.W.Frag} {mg : Str → Option Value} {base : Heap} {f : Addr} {fd : FuncData} (Fx : L2.Fun K "ring_of" "ring_of" (topS 11) f fd) (Cletters_of : Cg P w K mg base 1 "letters_of" (topS 5) Aletters_of Vletters_of) (Cgiven_words : Cg P w K mg base 1 "given_words" (topS 10) Agiven_words Vgiven_words) (m_tuple : mg "tuple" = none) (m_any : mg "any" = none) : FnG P w K mg base 2 f fd Aring_of (spF K 1 Vring_of) :=
  okF (k := 1) (O' := []) Fx scring_of rfl fun X _ _ _ _ _ _ _ _ hex hr hgd => by
    obtain ⟨cdv, L, A, outer, s, H, E, rfl, _⟩ := hex
    have hu := hr.units
    have hu1 := Nat.lt_of_le_of_lt (Nat.add_le_add_left (by decide : 1 ≤ 64) _) hu
    exact (ss_cons (s_set (O := []) (O' := []) (ps_set (i := 1) scring_of.nd rfl (by first | exact .inl rfl | exact .inr rfl) (d_cg Cletters_of hr (by decide) hgd rfl (ad_cons (d_var (by decide) (pv 0)) ad_nil) (al_cons al_nil)))) (ss_cons (s_setF (O := []) (O' := []) (ps_set (i := 2) scring_of.nd rfl (by first | exact .inl rfl | exact .inr rfl) (n_dc (i := 4) rfl scring_of.nd (i_seq (d_var (by decide) (pv 1)) (pi_list (d_var (by decide) (pv 1))) (pi_tup (d_var (by decide) (pv 1))) (pi_str (d_var (by decide) (pv 1))) (pi_keys (d_var (by decide) (pv 1)))) (own := [("letter", 4)]) (blkOk_by (by rfl)) (fun _ _ _ _ _ => (pg_name (i := 4) scring_of.nd rfl (by first | exact .inl rfl | exact .inr rfl))) (fun _ _ _ _ _ => ts_nil) (fun _ _ _ _ _ => (d_var (by decide) (pv 4))) (fun _ _ _ _ _ => (d_join (b_of_d d_str) (b_of_d (d_cg Cgiven_words hr (by decide) hgd rfl (ad_cons (d_var (by decide) (pv 0)) (ad_cons (d_var (by decide) (pv 4)) ad_nil)) (al_cons (al_cons al_nil))))))))) (ss_one (s_while (L := []) (O := []) FUEL PassesOwn.never (t_tru (b_of_d d_bl)) (ss_cons (s_set (O := []) (O' := []) (ps_set (i := 3) scring_of.nd rfl (by first | exact .inl rfl | exact .inr rfl) (d_callT call_tupA cd_toTup rfl m_tuple rfl (ab_cons (b_of_n (n_lc (i := 4) rfl scring_of.nd (i_seq (d_var (by decide) (pv 1)) (pi_list (d_var (by decide) (pv 1))) (pi_tup (d_var (by decide) (pv 1))) (pi_str (d_var (by decide) (pv 1))) (pi_keys (d_var (by decide) (pv 1)))) (own := [("letter", 4)]) (blkOk_by (by rfl)) (fun _ _ _ _ _ => (pg_name (i := 4) scring_of.nd rfl (by first | exact .inl rfl | exact .inr rfl))) (fun _ _ _ _ _ => (ts_one (t_tru (b_of_d (d_callB (cr_any rfl) cd_any rfl m_any rfl (ab_cons (b_of_n (n_lc (i := 5) rfl scring_of.nd (i_seq (d_ixA hu1 (b_var (pv 2)) (b_var (pv 4))) (pi_list (d_ixA hu1 (b_var (pv 2)) (b_var (pv 4)))) (pi_tup (d_ixA hu1 (b_var (pv 2)) (b_var (pv 4)))) (pi_str (d_ixA hu1 (b_var (pv 2)) (b_var (pv 4)))) (pi_keys (d_ixA hu1 (b_var (pv 2)) (b_var (pv 4))))) (own := [("other", 5)]) (blkOk_by (by rfl)) (fun _ _ _ _ _ => (pg_name (i := 5) scring_of.nd rfl (by first | exact .inl rfl | exact .inr rfl))) (fun _ _ _ _ _ => ts_nil) (fun _ _ _ _ _ => (d_inA hu1 (b_var (pv 5)) (b_var (pv 1)))))) ab_nil)))))) (fun _ _ _ _ _ => (d_var (by decide) (pv 4))))) ab_nil)))) (ss_cons (s_if (O := []) (O' := []) (t_eq hu (b_var (pv 3)) (b_var (pv 1))) (ss_one (s_retO (O := []) (O' := []) (d_var (by decide) (pv 1)))) ss_nil) (ss_one (s_set (O := []) (O' := []) (ps_set (i := 1) scring_of.nd rfl (by first | exact .inl rfl | exact .inr rfl) (d_var (by decide) (pv 3)))))))))))

abbrev Nis_ending : List Str := ["book"]
abbrev Ais_ending : List Str := ["book"]
theorem scis_ending : FnScope Nis_ending Ais_ending (defScope (topS 7)) := ⟨rfl, rfl, rfl, by decide +kernel, rfl, by decide +kernel, by decide +kernel⟩
theorem okis_ending {P : Program} {w : World} {K : PySem.W.Frag} {mg : Str → Option Value} {base : Heap} {f : Addr} {fd : FuncData} (Fx : L2.Fun K "is_ending" "is_ending" (topS 7) f fd) (Cring_of : Cg P w K mg base 2 "ring_of" (topS 11) Aring_of Vring_of) : FnG P w K mg base 3 f fd Ais_ending (spF K 1 Vis_ending) :=
  okF (k := 2) (O' := []) Fx scis_ending rfl fun X _ _ _ _ _ _ _ _ hex hr hgd => by
    obtain ⟨cdv, L, A, outer, s, H, E, rfl, _⟩ := hex
    have hu := hr.units
    have hu1 := Nat.lt_of_le_of_lt (Nat.add_le_add_left (by decide : 1 ≤ 64) _) hu
    exact (ss_one (s_retO (O := []) (O' := []) (d_eq hu (b_of_d (d_cg Cring_of hr (by decide) hgd rfl (ad_cons (d_var (by decide) (pv 0)) ad_nil) (al_cons al_nil))) (b_of_d (d_tup ad_nil)))))

abbrev N_law_least : List Str := ["_law_plan", "_law_gives_here", "_law_found", "_law_lowers", "_law_one", "_law_lap", "_law_lessers", "_law_wants", "_law_rule_here", "_law_low"]
abbrev A_law_least : List Str := ["_law_plan"]
theorem sc_law_least : FnScope N_law_least A_law_least (defScope (topS 23)) := ⟨rfl, rfl, rfl, by decide +kernel, rfl, by decide +kernel, by decide +kernel⟩
theorem ok_law_least {P : Program} {w : World} {K : PySem.W.Frag} {mg : Str → Option Value} {base : Heap} {f : Addr} {fd : FuncData} (Fx : L2.Fun K "_law_least" "_law_least" (topS 23) f fd) (C_law_gives : Cg P w K mg base 1 "_law_gives" (topS 21) A_law_gives V_law_gives_k19_k19) (m_range : mg "range" = none) (m_len : mg "len" = none) (m_sum : mg "sum" = none) (m_max : mg "max" = none) (m_tuple : mg "tuple" = none) : FnG P w K mg base 2 f fd A_law_least (spF K 1 V_law_least_k19_k19) :=
  okF (k := 1) (O' := [2]) Fx sc_law_least rfl fun X _ _ _ _ _ _ _ _ hex hr hgd => by
    obtain ⟨cdv, L, A, outer, s, H, E, rfl, _⟩ := hex
    have hu := hr.units
    have hu1 := Nat.lt_of_le_of_lt (Nat.add_le_add_left (by decide : 1 ≤ 64) _) hu
    exact (ss_cons (s_parN (O := []) (is := [1, 2]) [false, true] (ps_parT rfl (by exact (pa_cons (px_d (d_cg C_law_gives hr (by decide) hgd rfl (ad_cons (d_var (by decide) (pv 0)) ad_nil) (al_cons al_nil))) (pa_cons (px_n n_dnil) pa_nil))) (pgs_cons (pg_name (i := 1) sc_law_least.nd rfl (by first | exact .inl rfl | exact .inr rfl)) (pgs_cons (pg_name (i := 2) sc_law_least.nd rfl (by first | exact .inl rfl | exact .inr rfl)) pgs_nil))) rfl rfl [2]) (ss_cons (s_set (O := [2]) (O' := [2]) (ps_set (i := 3) sc_law_least.nd rfl (by first | exact .inl rfl | exact .inr rfl) (d_ne hu (b_of_n (n_lc (i := 8) rfl sc_law_least.nd (i_seq (d_ixA hu1 (b_var (pv 0)) (b_of_d d_int)) (pi_list (d_ixA hu1 (b_var (pv 0)) (b_of_d d_int))) (pi_tup (d_ixA hu1 (b_var (pv 0)) (b_of_d d_int))) (pi_str (d_ixA hu1 (b_var (pv 0)) (b_of_d d_int))) (pi_keys (d_ixA hu1 (b_var (pv 0)) (b_of_d d_int)))) (own := [("_law_rule_here", 8)]) (blkOk_by (by rfl)) (fun _ _ _ _ _ => (pg_name (i := 8) sc_law_least.nd rfl (by first | exact .inl rfl | exact .inr rfl))) (fun _ _ _ _ _ => (ts_one (t_eq hu (b_of_d (d_ixA hu1 (b_var (pv 8)) (b_of_d d_int))) (b_of_d d_str)))) (fun _ _ _ _ _ => (d_var (by decide) (pv 8))))) (b_of_n (n_lst ad_nil))))) (ss_cons (s_for (L := []) (O := [2]) PassesOwn.never rfl (i_seq (d_var (by decide) (pv 1)) (pi_list (d_var (by decide) (pv 1))) (pi_tup (d_var (by decide) (pv 1))) (pi_str (d_var (by decide) (pv 1))) (pi_keys (d_var (by decide) (pv 1)))) (g_name (pg_name (i := 4) sc_law_least.nd rfl (by first | exact .inl rfl | exact .inr rfl))) (ss_one (s_dput (O := [2]) (ps_dput hu1 (pv 2) (b_var (pv 4)) d_int rfl)))) (ss_cons (s_for (L := []) (O := [2]) PassesOwn.never rfl (i_range1 rfl m_range (b_of_d (d_callB call_lenA cd_len rfl m_len PySem.boot_len (ab_cons (b_var (pv 1)) ab_nil)))) (g_name (pg_name (i := 5) sc_law_least.nd rfl (by first | exact .inl rfl | exact .inr rfl))) (ss_one (s_for (L := [2]) (O := [2]) PassesOwn.never rfl (i_seq (d_ixA hu1 (b_var (pv 0)) (b_of_d d_int)) (pi_list (d_ixA hu1 (b_var (pv 0)) (b_of_d d_int))) (pi_tup (d_ixA hu1 (b_var (pv 0)) (b_of_d d_int))) (pi_str (d_ixA hu1 (b_var (pv 0)) (b_of_d d_int))) (pi_keys (d_ixA hu1 (b_var (pv 0)) (b_of_d d_int)))) (g_pair rfl rfl rfl (pgs_cons (g_name (pg_name (i := 4) sc_law_least.nd rfl (by first | exact .inl rfl | exact .inr rfl))) (pgs_cons (g_name (pg_name (i := 6) sc_law_least.nd rfl (by first | exact .inl rfl | exact .inr rfl))) pgs_nil))) (ss_end (O'' := [2]) (O' := [2, 7]) (ss_cons (s_setN (O := [2]) (O' := [2, 7]) (ps_set (i := 7) sc_law_least.nd rfl (by first | exact .inl rfl | exact .inr rfl) (n_cat (b_of_n (n_lst (ad_cons d_int ad_nil))) (b_of_n (n_lc (i := 9) rfl sc_law_least.nd (i_seq (d_var (by decide) (pv 6)) (pi_list (d_var (by decide) (pv 6))) (pi_tup (d_var (by decide) (pv 6))) (pi_str (d_var (by decide) (pv 6))) (pi_keys (d_var (by decide) (pv 6)))) (own := [("_law_low", 9)]) (blkOk_by (by rfl)) (fun _ _ _ _ _ => (pg_name (i := 9) sc_law_least.nd rfl (by first | exact .inl rfl | exact .inr rfl))) (fun _ _ _ _ _ => (ts_one (t_tru (b_var (pv 3))))) (fun _ _ _ _ _ => (d_addA (b_of_d (d_ixA hu1 (b_var (pv 2)) (b_var (pv 9)))) (b_of_d d_int)))))))) (ss_cons (s_for (L := [2]) (O := [2, 7]) PassesOwn.never rfl (i_seq (d_ixA hu1 (b_var (pv 0)) (b_of_d d_int)) (pi_list (d_ixA hu1 (b_var (pv 0)) (b_of_d d_int))) (pi_tup (d_ixA hu1 (b_var (pv 0)) (b_of_d d_int))) (pi_str (d_ixA hu1 (b_var (pv 0)) (b_of_d d_int))) (pi_keys (d_ixA hu1 (b_var (pv 0)) (b_of_d d_int)))) (g_name (pg_name (i := 8) sc_law_least.nd rfl (by first | exact .inl rfl | exact .inr rfl))) (ss_one (s_if (O := [2, 7]) (O' := [2, 7]) (t_bool (w_and (t_eq hu (b_of_d (d_ixA hu1 (b_var (pv 8)) (b_of_d d_int))) (b_of_d d_str)) (w_and1 (t_eq hu (b_of_d (d_ixA hu1 (b_var (pv 8)) (b_of_d d_int))) (b_var (pv 4)))))) (ss_one (s_app (O := [2, 7]) (i := 7) (pe_bm PySem.F.plainAttrs_list PySem.F.slot_list_append PySem.F.type_list_append mt_append (pv 7) (pa_cons (d_addA (b_of_d d_int) (b_of_d (d_callB (cr_sum rfl) cd_sum rfl m_sum rfl (ab_cons (b_of_n (n_lc (i := 9) rfl sc_law_least.nd (i_seq (d_ixA hu1 (b_var (pv 8)) (b_of_d d_int)) (pi_list (d_ixA hu1 (b_var (pv 8)) (b_of_d d_int))) (pi_tup (d_ixA hu1 (b_var (pv 8)) (b_of_d d_int))) (pi_str (d_ixA hu1 (b_var (pv 8)) (b_of_d d_int))) (pi_keys (d_ixA hu1 (b_var (pv 8)) (b_of_d d_int)))) (own := [("_law_low", 9)]) (blkOk_by (by rfl)) (fun _ _ _ _ _ => (pg_name (i := 9) sc_law_least.nd rfl (by first | exact .inl rfl | exact .inr rfl))) (fun _ _ _ _ _ => ts_nil) (fun _ _ _ _ _ => (d_ixA hu1 (b_var (pv 2)) (b_var (pv 9)))))) ab_nil)))) pa_nil)))) ss_nil))) (ss_one (s_dput (O := [2, 7]) (ps_dput hu1 (pv 2) (b_var (pv 4)) (d_callB (cr_max rfl) cd_maxL rfl m_max rfl (ab_cons (b_var (pv 7)) ab_nil)) rfl))))))))) (ss_one (s_retO (O := [2]) (O' := [2]) (d_callT call_tupA cd_toTup rfl m_tuple rfl (ab_cons (b_of_n (n_lcP (i := 4) (j := 6) rfl sc_law_least.nd (i_seq (d_ixA hu1 (b_var (pv 0)) (b_of_d d_int)) (pi_list (d_ixA hu1 (b_var (pv 0)) (b_of_d d_int))) (pi_tup (d_ixA hu1 (b_var (pv 0)) (b_of_d d_int))) (pi_str (d_ixA hu1 (b_var (pv 0)) (b_of_d d_int))) (pi_keys (d_ixA hu1 (b_var (pv 0)) (b_of_d d_int)))) (own := [("_law_one", 4), ("_law_lessers", 6)]) (blkOk_by (by rfl)) (fun _ _ _ _ _ => pg_tup rfl (pgs_cons (pg_name (i := 4) sc_law_least.nd rfl (by first | exact .inl rfl | exact .inr rfl)) (pgs_cons (pg_name (i := 6) sc_law_least.nd rfl (by first | exact .inl rfl | exact .inr rfl)) pgs_nil))) (fun _ _ _ _ _ => ts_nil) (fun _ _ _ _ _ => (d_ixA hu1 (b_var (pv 2)) (b_var (pv 4)))))) ab_nil))))))))

abbrev Nneed_ending : List Str := ["book", "ring"]
abbrev Aneed_ending : List Str := ["book"]
theorem scneed_ending : FnScope Nneed_ending Aneed_ending (defScope (topS 9)) := ⟨rfl, rfl, rfl, by decide +kernel, rfl, by decide +kernel, by decide +kernel⟩
theorem okneed_ending {P : Program} {w : World} {K : PySem.W.Frag} {mg : Str → Option Value} {base : Heap} {f : Addr} {fd : FuncData} (Fx : L2.Fun K "need_ending" "need_ending" (topS 9) f fd) (Cring_of : Cg P w K mg base 2 "ring_of" (topS 11) Aring_of Vring_of) : FnG P w K mg base 3 f fd Aneed_ending (spF K 1 Vneed_ending) :=
  okF (k := 2) (O' := []) Fx scneed_ending rfl fun X _ _ _ _ _ _ _ _ hex hr hgd => by
    obtain ⟨cdv, L, A, outer, s, H, E, rfl, _⟩ := hex
    have hu := hr.units
    have hu1 := Nat.lt_of_le_of_lt (Nat.add_le_add_left (by decide : 1 ≤ 64) _) hu
    exact (ss_cons (s_set (O := []) (O' := []) (ps_set (i := 1) scneed_ending.nd rfl (by first | exact .inl rfl | exact .inr rfl) (d_cg Cring_of hr (by decide) hgd rfl (ad_cons (d_var (by decide) (pv 0)) ad_nil) (al_cons al_nil)))) (ss_one (s_if (O := []) (O' := []) (t_ne hu (b_var (pv 1)) (b_of_d (d_tup ad_nil))) (ss_one s_never) ss_nil)))

abbrev Nleast_weights : List Str := ["book", "rows", "weights", "letter", "words", "sums", "word", "given"]
abbrev Aleast_weights : List Str := ["book"]
theorem scleast_weights : FnScope Nleast_weights Aleast_weights (defScope (topS 8)) := ⟨rfl, rfl, rfl, by decide +kernel, rfl, by decide +kernel, by decide +kernel⟩
theorem okleast_weights {P : Program} {w : World} {K : PySem.W.Frag} {mg : Str → Option Value} {base : Heap} {f : Addr} {fd : FuncData} (Fx : L2.Fun K "least_weights" "least_weights" (topS 8) f fd) (Cneed_ending : Cg P w K mg base 3 "need_ending" (topS 9) Aneed_ending Vneed_ending) (Cletters_of : Cg P w K mg base 1 "letters_of" (topS 5) Aletters_of Vletters_of) (Cgiven_words : Cg P w K mg base 1 "given_words" (topS 10) Agiven_words Vgiven_words) (m_len : mg "len" = none) (m_all : mg "all" = none) (m_sum : mg "sum" = none) (m_max : mg "max" = none) (m_tuple : mg "tuple" = none) : FnG P w K mg base 4 f fd Aleast_weights (spF K 1 Vleast_weights) :=
  okF (k := 3) (O' := [2]) Fx scleast_weights rfl fun X _ _ _ _ _ _ _ _ hex hr hgd => by
    obtain ⟨cdv, L, A, outer, s, H, E, rfl, _⟩ := hex
    have hu := hr.units
    have hu1 := Nat.lt_of_le_of_lt (Nat.add_le_add_left (by decide : 1 ≤ 64) _) hu
    exact (ss_cons (s_expr (O := []) (b_of_d (d_cg Cneed_ending hr (by decide) hgd rfl (ad_cons (d_var (by decide) (pv 0)) ad_nil) (al_cons al_nil)))) (ss_cons (s_setF (O := []) (O' := []) (a_dc (z := 1) (i := 3) rfl scleast_weights.nd rfl rfl rfl (i_seq (d_cg Cletters_of hr (by decide) hgd rfl (ad_cons (d_var (by decide) (pv 0)) ad_nil) (al_cons al_nil)) (pi_list (d_cg Cletters_of hr (by decide) hgd rfl (ad_cons (d_var (by decide) (pv 0)) ad_nil) (al_cons al_nil))) (pi_tup (d_cg Cletters_of hr (by decide) hgd rfl (ad_cons (d_var (by decide) (pv 0)) ad_nil) (al_cons al_nil))) (pi_str (d_cg Cletters_of hr (by decide) hgd rfl (ad_cons (d_var (by decide) (pv 0)) ad_nil) (al_cons al_nil))) (pi_keys (d_cg Cletters_of hr (by decide) hgd rfl (ad_cons (d_var (by decide) (pv 0)) ad_nil) (al_cons al_nil)))) (own := [("letter", 3)]) (blkOk_by (by rfl)) (fun _ _ _ _ _ => (pg_name (i := 3) scleast_weights.nd rfl (by first | exact .inl rfl | exact .inr rfl))) (fun _ _ _ _ _ => ts_nil) (fun _ _ _ _ _ => (d_var (by decide) (pv 3))) (fun _ _ _ _ _ => (d_cg Cgiven_words hr (by decide) hgd rfl (ad_cons (d_var (by decide) (pv 0)) (ad_cons (d_var (by decide) (pv 3)) ad_nil)) (al_cons (al_cons al_nil)))))) (ss_cons (s_setN (O := []) (O' := [2]) (ps_set (i := 2) scleast_weights.nd rfl (by first | exact .inl rfl | exact .inr rfl) n_dnil)) (ss_cons (s_while (L := []) (O := [2]) FUEL PassesOwn.never (t_lt (b_of_d (d_callB call_lenA cd_len rfl m_len PySem.boot_len (ab_cons (b_var (pv 2)) ab_nil))) (b_of_d (d_callB call_lenA cd_len rfl m_len PySem.boot_len (ab_cons (b_var (pv 1)) ab_nil)))) (ss_one (s_for (L := [2]) (O := [2]) PassesOwn.never rfl (i_items (pi_items (d_var (by decide) (pv 1)))) (g_pair rfl rfl rfl (pgs_cons (g_name (pg_name (i := 3) scleast_weights.nd rfl (by first | exact .inl rfl | exact .inr rfl))) (pgs_cons (g_name (pg_name (i := 4) scleast_weights.nd rfl (by first | exact .inl rfl | exact .inr rfl))) pgs_nil))) (ss_one (s_if (O := [2]) (O' := [2]) (t_bool (w_and (t_notinA hu1 (b_var (pv 3)) (b_var (pv 2))) (w_and1 (t_tru (b_of_d (d_callB (cr_all rfl) cd_all rfl m_all rfl (ab_cons (b_of_n (n_lc2 (i := 6) (i1 := 7) rfl scleast_weights.nd (i_seq (d_var (by decide) (pv 4)) (pi_list (d_var (by decide) (pv 4))) (pi_tup (d_var (by decide) (pv 4))) (pi_str (d_var (by decide) (pv 4))) (pi_keys (d_var (by decide) (pv 4)))) (own := [("word", 6), ("given", 7)]) (blkOk_by (by rfl)) (fun _ _ _ _ _ => (pg_name (i := 6) scleast_weights.nd rfl (by first | exact .inl rfl | exact .inr rfl))) (fun _ _ _ _ _ => (i_seq (d_var (by decide) (pv 6)) (pi_list (d_var (by decide) (pv 6))) (pi_tup (d_var (by decide) (pv 6))) (pi_str (d_var (by decide) (pv 6))) (pi_keys (d_var (by decide) (pv 6))))) (fun _ _ _ _ _ => (pg_name (i := 7) scleast_weights.nd rfl (by first | exact .inl rfl | exact .inr rfl))) (fun _ _ _ _ _ => ts_nil) (fun _ _ _ _ _ => (d_inA hu1 (b_var (pv 7)) (b_var (pv 2)))))) ab_nil))))))) (ss_cons (s_set (O := [2]) (O' := [2]) (a_d_of_n (a_lc (z := 5) (i := 6) rfl scleast_weights.nd rfl rfl rfl (i_seq (d_var (by decide) (pv 4)) (pi_list (d_var (by decide) (pv 4))) (pi_tup (d_var (by decide) (pv 4))) (pi_str (d_var (by decide) (pv 4))) (pi_keys (d_var (by decide) (pv 4)))) (own := [("word", 6)]) (blkOk_by (by rfl)) (fun _ _ _ _ _ => (pg_name (i := 6) scleast_weights.nd rfl (by first | exact .inl rfl | exact .inr rfl))) (fun _ _ _ _ _ => ts_nil) (fun _ _ _ _ _ => (d_callB (cr_sum rfl) cd_sum rfl m_sum rfl (ab_cons (b_of_n (n_lc (i := 7) rfl scleast_weights.nd (i_seq (d_var (by decide) (pv 6)) (pi_list (d_var (by decide) (pv 6))) (pi_tup (d_var (by decide) (pv 6))) (pi_str (d_var (by decide) (pv 6))) (pi_keys (d_var (by decide) (pv 6)))) (own := [("given", 7)]) (blkOk_by (by rfl)) (fun _ _ _ _ _ => (pg_name (i := 7) scleast_weights.nd rfl (by first | exact .inl rfl | exact .inr rfl))) (fun _ _ _ _ _ => ts_nil) (fun _ _ _ _ _ => (d_ixA hu1 (b_var (pv 2)) (b_var (pv 7)))))) ab_nil)))))) (ss_one (s_dput (O := [2]) (ps_dput hu1 (pv 2) (b_var (pv 3)) (d_addA (b_of_d d_int) (b_of_d (d_maxD rfl rfl m_max (b_var (pv 5)) (b_of_d d_int)))) rfl)))) ss_nil))))) (ss_one (s_retO (O := [2]) (O' := [2]) (d_callT call_tupA cd_toTup rfl m_tuple rfl (ab_cons (b_of_n (n_lc (i := 3) rfl scleast_weights.nd (i_seq (d_var (by decide) (pv 1)) (pi_list (d_var (by decide) (pv 1))) (pi_tup (d_var (by decide) (pv 1))) (pi_str (d_var (by decide) (pv 1))) (pi_keys (d_var (by decide) (pv 1)))) (own := [("letter", 3)]) (blkOk_by (by rfl)) (fun _ _ _ _ _ => (pg_name (i := 3) scleast_weights.nd rfl (by first | exact .inl rfl | exact .inr rfl))) (fun _ _ _ _ _ => ts_nil) (fun _ _ _ _ _ => (d_ixA hu1 (b_var (pv 2)) (b_var (pv 3)))))) ab_nil))))))))

abbrev Nlaw : List Str := ["_law_script", "_law_spring_here", "_law_names_here", "_law_lap", "_law_plan", "_law_ahead", "_law_fine", "_law_due"]
abbrev Alaw : List Str := ["_law_script"]
theorem sclaw : FnScope Nlaw Alaw (defScope (topS 28)) := ⟨rfl, rfl, rfl, by decide +kernel, rfl, by decide +kernel, by decide +kernel⟩
theorem oklaw {P : Program} {w : World} {K : PySem.W.Frag} {mg : Str → Option Value} {base : Heap} {f : Addr} {fd : FuncData} (Fx : L2.Fun K "law" "law" (topS 28) f fd) (C_law_spring : Cg P w K mg base 1 "_law_spring" (topS 13) A_law_spring V_law_spring_k16) (C_law_names : Cg P w K mg base 3 "_law_names" (topS 18) A_law_names (V_law_names_k16 V_law_dip_k19)) (C_law_any_book : Cg P w K mg base 5 "_law_any_book" (topS 27) A_law_any_book (V_law_any_book_k19 V_law_dip_k19)) (C_law_ringed : Cg P w K mg base 2 "_law_ringed" (topS 22) A_law_ringed V_law_ringed_k19_k19_k19) (Cis_ending : Cg P w K mg base 3 "is_ending" (topS 7) Ais_ending Vis_ending) (C_law_least : Cg P w K mg base 2 "_law_least" (topS 23) A_law_least V_law_least_k19_k19) (Cleast_weights : Cg P w K mg base 4 "least_weights" (topS 8) Aleast_weights Vleast_weights) (m_range : mg "range" = none) (m_repr : mg "repr" = none)
    (hL : ∀ js : List Int, js.length ≤ 63 → ∃ ks l y z u d, fourD ks l y z u = some d ∧ Elaw_k19 (some (.scr js) :: List.replicate 7 none) [] = some (d, []) ∧ ∀ p, ∃ s', Flaw_k19 ((some (.scr js) :: List.replicate 7 none).set 1 (some (.ref p))) [(p, d)] = some (.rt (.bl true), s')) : FnG P w K mg base 6 f fd Alaw (spLaw K) :=
  ok_lawS (k := 5) Fx sclaw (by decide) (fun X hex hr hgd => by
    obtain ⟨cdv, A, outer, s, H, E, rfl⟩ := hex
    have hu := hr.units
    have hu1 := Nat.lt_of_le_of_lt (Nat.add_le_add_left (by decide : 1 ≤ 64) _) hu
    exact (ss_share (O' := []) (ps_set (i := 1) sclaw.nd rfl (by first | exact .inl rfl | exact .inr rfl) (d_cg C_law_spring hr (by decide) hgd rfl (ad_cons (d_var (by decide) (pv 0)) ad_nil) (al_cons al_nil))) (ss_cons (s_set (O := []) (O' := []) (ps_set (i := 2) sclaw.nd rfl (by first | exact .inl rfl | exact .inr rfl) (d_cg C_law_names hr (by decide) hgd rfl (ad_cons (d_var (by decide) (pv 1)) ad_nil) (al_cons al_nil)))) (ss_cons (s_for (L := []) (O := []) PassesOwn.never rfl (i_range1 rfl m_range (b_of_d d_int)) (g_name (pg_name (i := 3) sclaw.nd rfl (by first | exact .inl rfl | exact .inr rfl))) (ss_cons (s_set (O := []) (O' := []) (ps_set (i := 4) sclaw.nd rfl (by first | exact .inl rfl | exact .inr rfl) (d_cg C_law_any_book hr (by decide) hgd rfl (ad_cons (d_var (by decide) (pv 1)) (ad_cons (d_var (by decide) (pv 2)) ad_nil)) (al_cons (al_cons al_nil))))) (ss_cons (s_par2 (O := []) false false (ps_par (i := 5) (j := 6) rfl sclaw.nd rfl rfl (by decide) rfl rfl (by exact (pa_cons (px_d (d_callB (call_reprD hgd hu) cd_repr rfl m_repr rfl (ab_cons (b_var (pv 4)) ab_nil))) (pa_cons (px_d (d_eq hu (b_of_d (d_cg C_law_ringed hr (by decide) hgd rfl (ad_cons (d_var (by decide) (pv 4)) ad_nil) (al_cons al_nil))) (b_of_n (n_lst ad_nil)))) pa_nil))) rfl) []) (ss_cons (s_if (O := []) (O' := []) (t_ne hu (b_of_d (d_callB (call_reprD hgd hu) cd_repr rfl m_repr rfl (ab_cons (b_of_n (n_lst (ad_cons (d_cg Cis_ending hr (by decide) hgd rfl (ad_cons (d_var (by decide) (pv 4)) ad_nil) (al_cons al_nil)) (ad_cons (d_cgK (x := "is_ending") (ps := Ais_ending) (Fn := Vis_ending) Cis_ending hr (by decide) hgd rfl [0] ["book"] (fun kV doc pm an cdv ct ws hl => match ws, hl with | [_], _ => rfl) (kd_cons (d_var (by decide) (pv 4)) kd_nil) (al_cons al_nil) (fun ds hl => match ds, hl with | [_], _ => rfl)) ad_nil)))) ab_nil))) (b_of_d (d_callB (call_reprD hgd hu) cd_repr rfl m_repr rfl (ab_cons (b_of_n (n_lst (ad_cons (d_var (by decide) (pv 6)) (ad_cons (d_var (by decide) (pv 6)) ad_nil)))) ab_nil)))) (ss_one (s_retO (O := []) (O' := []) d_bl)) ss_nil) (ss_cons (s_if (O := []) (O' := []) (t_tru (b_var (pv 6))) (ss_cons (s_set (O := []) (O' := []) (ps_set (i := 7) sclaw.nd rfl (by first | exact .inl rfl | exact .inr rfl) (d_cg C_law_least hr (by decide) hgd rfl (ad_cons (d_var (by decide) (pv 4)) ad_nil) (al_cons al_nil)))) (ss_one (s_if (O := []) (O' := []) (t_ne hu (b_of_d (d_callB (call_reprD hgd hu) cd_repr rfl m_repr rfl (ab_cons (b_of_n (n_lst (ad_cons (d_cg Cleast_weights hr (by decide) hgd rfl (ad_cons (d_var (by decide) (pv 4)) ad_nil) (al_cons al_nil)) (ad_cons (d_cgK (x := "least_weights") (ps := Aleast_weights) (Fn := Vleast_weights) Cleast_weights hr (by decide) hgd rfl [0] ["book"] (fun kV doc pm an cdv ct ws hl => match ws, hl with | [_], _ => rfl) (kd_cons (d_var (by decide) (pv 4)) kd_nil) (al_cons al_nil) (fun ds hl => match ds, hl with | [_], _ => rfl)) ad_nil)))) ab_nil))) (b_of_d (d_callB (call_reprD hgd hu) cd_repr rfl m_repr rfl (ab_cons (b_of_n (n_lst (ad_cons (d_var (by decide) (pv 7)) (ad_cons (d_var (by decide) (pv 7)) ad_nil)))) ab_nil)))) (ss_one (s_retO (O := []) (O' := []) d_bl)) ss_nil))) ss_nil) (ss_one (s_if (O := []) (O' := []) (t_ne hu (b_of_d (d_callB (call_reprD hgd hu) cd_repr rfl m_repr rfl (ab_cons (b_var (pv 4)) ab_nil))) (b_var (pv 5))) (ss_one (s_retO (O := []) (O' := []) d_bl)) ss_nil))))))) (ss_one (s_retO (O := []) (O' := []) d_bl)))))) hL

def LawOk : Prop := ∀ js : List Int, js.length ≤ 63 → ∃ ks l y z u d, fourD ks l y z u = some d ∧ Elaw_k19 (some (.scr js) :: List.replicate 7 none) [] = some (d, []) ∧ ∀ p, ∃ s', Flaw_k19 ((some (.scr js) :: List.replicate 7 none).set 1 (some (.ref p))) [(p, d)] = some (.rt (.bl true), s')
theorem all_ok {P : Program} {w : World} {K : PySem.W.Frag} {mg : Str → Option Value} (A_law_spring_ : FnAt K mg "_law_spring" (topS 13)) (A_law_dip_ : FnAt K mg "_law_dip" (topS 14)) (A_law_pick_ : FnAt K mg "_law_pick" (topS 15)) (A_law_names_ : FnAt K mg "_law_names" (topS 18)) (A_law_rule_ : FnAt K mg "_law_rule" (topS 16)) (A_law_read_ : FnAt K mg "_law_read" (topS 17)) (A_law_rings_ : FnAt K mg "_law_rings" (topS 26)) (A_law_drawn_ : FnAt K mg "_law_drawn" (topS 19)) (A_law_book_ : FnAt K mg "_law_book" (topS 20)) (A_law_menu_ : FnAt K mg "_law_menu" (topS 25)) (A_law_scenes_ : FnAt K mg "_law_scenes" (topS 24)) (A_law_any_book_ : FnAt K mg "_law_any_book" (topS 27)) (A_law_gives_ : FnAt K mg "_law_gives" (topS 21)) (A_law_ringed_ : FnAt K mg "_law_ringed" (topS 22)) (Aletters_of_ : FnAt K mg "letters_of" (topS 5)) (Agiven_words_ : FnAt K mg "given_words" (topS 10)) (Aring_of_ : FnAt K mg "ring_of" (topS 11)) (Ais_ending_ : FnAt K mg "is_ending" (topS 7)) (A_law_least_ : FnAt K mg "_law_least" (topS 23)) (Aneed_ending_ : FnAt K mg "need_ending" (topS 9)) (Aleast_weights_ : FnAt K mg "least_weights" (topS 8)) (m_list : mg "list" = none) (m_int : mg "int" = none) (m_len : mg "len" = none) (m_tuple : mg "tuple" = none) (m_sorted : mg "sorted" = none) (m_range : mg "range" = none) (m_any : mg "any" = none) (m_dict : mg "dict" = none) (m_sum : mg "sum" = none) (m_max : mg "max" = none) (m_all : mg "all" = none) (m_repr : mg "repr" = none) (hL : LawOk) (f : Addr) (fd : FuncData) (Fx : L2.Fun K "law" "law" (topS 28) f fd) (base : Heap) : FnG P w K mg base 6 f fd Alaw (spLaw K) := by
  have C_law_spring : Cg P w K mg base 1 "_law_spring" (topS 13) A_law_spring V_law_spring_k16 := cg_mk A_law_spring_ (fun f fd F => ok_law_spring F m_list) (fun _ _ _ _ _ _ us hl => match us, hl with | [_], _ => rfl)
  have C_law_dip : Cg P w K mg base 1 "_law_dip" (topS 14) A_law_dip V_law_dip_k19 := cg_mk A_law_dip_ (fun f fd F => ok_law_dip F m_int m_len) (fun _ _ _ _ _ _ us hl => match us, hl with | [_, _], _ => rfl)
  have C_law_pick : Cg P w K mg base 2 "_law_pick" (topS 15) A_law_pick (V_law_pick_k01 V_law_dip_k19) := cg_mk A_law_pick_ (fun f fd F => ok_law_pick F C_law_dip m_len) (fun _ _ _ _ _ _ us hl => match us, hl with | [_, _], _ => rfl)
  have C_law_names : Cg P w K mg base 3 "_law_names" (topS 18) A_law_names (V_law_names_k16 V_law_dip_k19) := cg_mk A_law_names_ (fun f fd F => ok_law_names F C_law_pick) (fun _ _ _ _ _ _ us hl => match us, hl with | [_], _ => rfl)
  have C_law_rule : Cg P w K mg base 1 "_law_rule" (topS 16) A_law_rule V_law_rule_k16 := cg_mk A_law_rule_ (fun f fd F => ok_law_rule F m_int) (fun _ _ _ _ _ _ us hl => match us, hl with | [_, _], _ => rfl)
  have C_law_read : Cg P w K mg base 2 "_law_read" (topS 17) A_law_read V_law_read_k16 := cg_mk A_law_read_ (fun f fd F => ok_law_read F C_law_rule m_tuple m_sorted) (fun _ _ _ _ _ _ us hl => match us, hl with | [_, _], _ => rfl)
  have C_law_rings : Cg P w K mg base 1 "_law_rings" (topS 26) A_law_rings V_law_rings_k19 := cg_mk A_law_rings_ (fun f fd F => ok_law_rings F ) (fun _ _ _ _ _ _ us hl => match us, hl with | [], _ => rfl)
  have C_law_drawn : Cg P w K mg base 3 "_law_drawn" (topS 19) A_law_drawn (V_law_drawn_k16 V_law_dip_k19) := cg_mk A_law_drawn_ (fun f fd F => ok_law_drawn F C_law_pick C_law_dip m_range) (fun _ _ _ _ _ _ us hl => match us, hl with | [_, _], _ => rfl)
  have C_law_book : Cg P w K mg base 4 "_law_book" (topS 20) A_law_book (V_law_book_k16 V_law_dip_k19) := cg_mk A_law_book_ (fun f fd F => ok_law_book F C_law_read C_law_dip C_law_drawn C_law_pick) (fun _ _ _ _ _ _ us hl => match us, hl with | [_, _, _, _], _ => rfl)
  have C_law_menu : Cg P w K mg base 1 "_law_menu" (topS 25) A_law_menu V_law_menu_k16 := cg_mk A_law_menu_ (fun f fd F => ok_law_menu F ) (fun _ _ _ _ _ _ us hl => match us, hl with | [], _ => rfl)
  have C_law_scenes : Cg P w K mg base 1 "_law_scenes" (topS 24) A_law_scenes V_law_scenes_k16 := cg_mk A_law_scenes_ (fun f fd F => ok_law_scenes F ) (fun _ _ _ _ _ _ us hl => match us, hl with | [], _ => rfl)
  have C_law_any_book : Cg P w K mg base 5 "_law_any_book" (topS 27) A_law_any_book (V_law_any_book_k19 V_law_dip_k19) := cg_mk A_law_any_book_ (fun f fd F => ok_law_any_book F C_law_dip C_law_read C_law_pick C_law_rings C_law_book C_law_menu C_law_scenes) (fun _ _ _ _ _ _ us hl => match us, hl with | [_, _], _ => rfl)
  have C_law_gives : Cg P w K mg base 1 "_law_gives" (topS 21) A_law_gives V_law_gives_k19_k19 := cg_mk A_law_gives_ (fun f fd F => ok_law_gives F m_list) (fun _ _ _ _ _ _ us hl => match us, hl with | [_], _ => rfl)
  have C_law_ringed : Cg P w K mg base 2 "_law_ringed" (topS 22) A_law_ringed V_law_ringed_k19_k19_k19 := cg_mk A_law_ringed_ (fun f fd F => ok_law_ringed F C_law_gives m_sorted m_range m_len) (fun _ _ _ _ _ _ us hl => match us, hl with | [_], _ => rfl)
  have Cletters_of : Cg P w K mg base 1 "letters_of" (topS 5) Aletters_of Vletters_of := cg_mk Aletters_of_ (fun f fd F => okletters_of F m_tuple) (fun _ _ _ _ _ _ us hl => match us, hl with | [_], _ => rfl)
  have Cgiven_words : Cg P w K mg base 1 "given_words" (topS 10) Agiven_words Vgiven_words := cg_mk Agiven_words_ (fun f fd F => okgiven_words F m_any m_dict) (fun _ _ _ _ _ _ us hl => match us, hl with | [_, _], _ => rfl)
  have Cring_of : Cg P w K mg base 2 "ring_of" (topS 11) Aring_of Vring_of := cg_mk Aring_of_ (fun f fd F => okring_of F Cletters_of Cgiven_words m_tuple m_any) (fun _ _ _ _ _ _ us hl => match us, hl with | [_], _ => rfl)
  have Cis_ending : Cg P w K mg base 3 "is_ending" (topS 7) Ais_ending Vis_ending := cg_mk Ais_ending_ (fun f fd F => okis_ending F Cring_of) (fun _ _ _ _ _ _ us hl => match us, hl with | [_], _ => rfl)
  have C_law_least : Cg P w K mg base 2 "_law_least" (topS 23) A_law_least V_law_least_k19_k19 := cg_mk A_law_least_ (fun f fd F => ok_law_least F C_law_gives m_range m_len m_sum m_max m_tuple) (fun _ _ _ _ _ _ us hl => match us, hl with | [_], _ => rfl)
  have Cneed_ending : Cg P w K mg base 3 "need_ending" (topS 9) Aneed_ending Vneed_ending := cg_mk Aneed_ending_ (fun f fd F => okneed_ending F Cring_of) (fun _ _ _ _ _ _ us hl => match us, hl with | [_], _ => rfl)
  have Cleast_weights : Cg P w K mg base 4 "least_weights" (topS 8) Aleast_weights Vleast_weights := cg_mk Aleast_weights_ (fun f fd F => okleast_weights F Cneed_ending Cletters_of Cgiven_words m_len m_all m_sum m_max m_tuple) (fun _ _ _ _ _ _ us hl => match us, hl with | [_], _ => rfl)
  exact oklaw Fx C_law_spring C_law_names C_law_any_book C_law_ringed Cis_ending C_law_least Cleast_weights m_range m_repr hL
end DL

namespace DL
open PySem PySem.Spec PyProof.Rows L2
local macro_rules | `(tactic| walk_at "op") => `(tactic| first | assumption | with_reducible rfl | exact cat_w (by omega) | exact sub_nn (by omega) | exact add_nn | exact at_w (by omega) (by assumption) | exact len_w (by omega) | exact in_l1 | exact notin_l1 | exact in_t1 | exact notin_t1 | exact in_k1 | exact notin_k1 | exact in_wl | exact notin_wl | exact in_wt | exact notin_wt | exact in_kd | exact notin_kd | exact eq_ww | exact ne_ww | exact any_bl | exact all_bl | rfl)
local macro_rules | `(tactic| walk_at "ev") => `(tactic| first | with_reducible exact c0 | ((with_reducible apply v0); rfl) | with_reducible exact a0 | with_reducible assumption | ((with_reducible apply aCons_ev); (focus walk_at "ev"); (focus walk_at "ev")) | ((with_reducible apply bindA_ev); (focus walk_at "ev"); (focus walk_at "op")) | ((with_reducible apply bind2_ev); (focus walk_at "ev"); (focus walk_at "ev"); (focus walk_at "op")) | ((with_reducible apply bind1_ev); (focus walk_at "ev"); (focus walk_at "op")) | ((with_reducible apply asB_ev); (focus walk_at "ev")) | ((with_reducible apply call_ev); (focus walk_at "ev"); (focus first | assumption | rfl)) | ((with_reducible apply truF_ev); (focus walk_at "ev"); (focus first | assumption | rfl)) | ((with_reducible apply notT_ev); (focus walk_at "ev")) | ((with_reducible apply andT_e); (focus walk_at "ev"); (focus (intro hq; walk_at "ev"))) | ((with_reducible apply orT_e); (focus walk_at "ev"); (focus (intro hq; walk_at "ev"))) | ((with_reducible apply seq_tup); (focus walk_at "ev")) | ((with_reducible apply seq_lst); (focus walk_at "ev")) | ((with_reducible apply seq_str); (focus walk_at "ev")))
local macro_rules | `(tactic| walk_at "w1") => `(tactic| with_reducible first | refine wS_seq ?_ | refine wS_set ?_ | refine wS_ret ?_ | refine wS_if ?_ | refine wS_skip ?_ | refine wS_drop ?_ | refine wS_unp ?_ | refine wE_b2 ?_ | refine wE_b1 ?_ | refine wE_bA ?_ | refine wE_bS ?_ | refine wE_call ?_ | refine wA_c ?_ | refine wA_n ?_ | refine wE_c ?_ | refine wO_n ?_ | refine wO_s ?_ | refine wT_asB ?_ | refine wT_tru ?_ | refine wT_not ?_ | refine wT_and ?_ | refine wT_or ?_ | refine wT_yes ?_ | refine wE_and ?_ | refine wE_or ?_ | refine wE_if ?_ | refine wI_seq ?_ | refine wI_rng ?_ | refine ex_bl ?_ | refine ex_trA ?_ | refine ex_trB ?_ | refine ex_nat ?_ | refine ex_int ?_ | refine ex_unT ?_ | refine ex_unL ?_ | refine and_t ?_ | refine and_f ?_ | refine and_nt ?_ | refine and_nf ?_)
local macro_rules | `(tactic| walk_at "w") => `(tactic| repeat (first | walk_at "w1" | refine wE_v (by rfl) ?_ | ((with_reducible refine wS_par2 ?_ ?_); focus (simp; done)) | ((with_reducible refine wS_par3 ?_ ?_); focus (simp; done)) | ((with_reducible refine wS_setN ?_ ?_); focus (simp; done)) | ((with_reducible apply ex_op); focus (first | exact seqOf_wd | with_reducible exact eq_ss | with_reducible exact ne_ss | with_reducible exact eq_ww | with_reducible exact ne_ww | with_reducible exact eq_ii | with_reducible exact ne_ii | with_reducible exact lt_ii | with_reducible exact gt_ii | with_reducible exact le_ii | with_reducible exact ge_ii | exact all_true' _ _ | walk_at "op")) ))
theorem law_ok : LawOk := fun js hjs => by
  refine ⟨["cells", "place", "rest", "count"], cutD js none (some 60), 0, 0, 0, .dct (spr (cutD js none (some 60)) 0 0 0), rfl, ?_, fun p => ?_⟩
  · exact call_ev (aCons_ev (v0 (d := .scr js) rfl) a0) (fn_rt (ret_ev rfl))
  · exact law19_main dip_k19 rfl p (.scr js) _ ⟨_, 0, 0, 0, rfl, Int.le_refl _, Int.le_refl _⟩

end DL

open PySem PySem.W PyProof.Rows
set_option maxHeartbeats 0 in
theorem PySem.Challenge.cw_firstfailing_k19_endings_told_holds : PySem.Challenge.rw_firstfailing_k19_endings_told.Holds := by
  w_on; o_law; k_head; (case hw => w_witness2)
  k_fill
  refine DL.walk_ofG (l := PySem.Challenge.rw_firstfailing_k19_endings_told) (m := 63) (n := 6) (pa := "_law_script") (sp := fun w => DL.spLaw _) rfl (by decide) rfl ⟨rfl, by decide, by decide⟩ (fun w h Y => PySem.W.kIn_of Y) ?F (fun _ _ a ns hl _ hS => ⟨a, ns, rfl, hS, hl, fun _ => rfl⟩)
  case F =>
    intro w mg fa h KX G hmg
    have hmg : mg "law" = some (.ref fa) := hmg
    refine' DL.fn_then "_law_spring" (DL.topS 13) KX G ?a ?l ?c ?k (fun A_law_spring => ?_); (case a => k_is); (case l => k_is); (case c => k_is); (case k => k_is)
    refine' DL.fn_then "_law_dip" (DL.topS 14) KX G ?a ?l ?c ?k (fun A_law_dip => ?_); (case a => k_is); (case l => k_is); (case c => k_is); (case k => k_is)
    refine' DL.fn_then "_law_pick" (DL.topS 15) KX G ?a ?l ?c ?k (fun A_law_pick => ?_); (case a => k_is); (case l => k_is); (case c => k_is); (case k => k_is)
    refine' DL.fn_then "_law_names" (DL.topS 18) KX G ?a ?l ?c ?k (fun A_law_names => ?_); (case a => k_is); (case l => k_is); (case c => k_is); (case k => k_is)
    refine' DL.fn_then "_law_rule" (DL.topS 16) KX G ?a ?l ?c ?k (fun A_law_rule => ?_); (case a => k_is); (case l => k_is); (case c => k_is); (case k => k_is)
    refine' DL.fn_then "_law_read" (DL.topS 17) KX G ?a ?l ?c ?k (fun A_law_read => ?_); (case a => k_is); (case l => k_is); (case c => k_is); (case k => k_is)
    refine' DL.fn_then "_law_rings" (DL.topS 26) KX G ?a ?l ?c ?k (fun A_law_rings => ?_); (case a => k_is); (case l => k_is); (case c => k_is); (case k => k_is)
    refine' DL.fn_then "_law_drawn" (DL.topS 19) KX G ?a ?l ?c ?k (fun A_law_drawn => ?_); (case a => k_is); (case l => k_is); (case c => k_is); (case k => k_is)
    refine' DL.fn_then "_law_book" (DL.topS 20) KX G ?a ?l ?c ?k (fun A_law_book => ?_); (case a => k_is); (case l => k_is); (case c => k_is); (case k => k_is)
    refine' DL.fn_then "_law_menu" (DL.topS 25) KX G ?a ?l ?c ?k (fun A_law_menu => ?_); (case a => k_is); (case l => k_is); (case c => k_is); (case k => k_is)
    refine' DL.fn_then "_law_scenes" (DL.topS 24) KX G ?a ?l ?c ?k (fun A_law_scenes => ?_); (case a => k_is); (case l => k_is); (case c => k_is); (case k => k_is)
    refine' DL.fn_then "_law_any_book" (DL.topS 27) KX G ?a ?l ?c ?k (fun A_law_any_book => ?_); (case a => k_is); (case l => k_is); (case c => k_is); (case k => k_is)
    refine' DL.fn_then "_law_gives" (DL.topS 21) KX G ?a ?l ?c ?k (fun A_law_gives => ?_); (case a => k_is); (case l => k_is); (case c => k_is); (case k => k_is)
    refine' DL.fn_then "_law_ringed" (DL.topS 22) KX G ?a ?l ?c ?k (fun A_law_ringed => ?_); (case a => k_is); (case l => k_is); (case c => k_is); (case k => k_is)
    refine' DL.fn_then "letters_of" (DL.topS 5) KX G ?a ?l ?c ?k (fun Aletters_of => ?_); (case a => k_is); (case l => k_is); (case c => k_is); (case k => k_is)
    refine' DL.fn_then "given_words" (DL.topS 10) KX G ?a ?l ?c ?k (fun Agiven_words => ?_); (case a => k_is); (case l => k_is); (case c => k_is); (case k => k_is)
    refine' DL.fn_then "ring_of" (DL.topS 11) KX G ?a ?l ?c ?k (fun Aring_of => ?_); (case a => k_is); (case l => k_is); (case c => k_is); (case k => k_is)
    refine' DL.fn_then "is_ending" (DL.topS 7) KX G ?a ?l ?c ?k (fun Ais_ending => ?_); (case a => k_is); (case l => k_is); (case c => k_is); (case k => k_is)
    refine' DL.fn_then "_law_least" (DL.topS 23) KX G ?a ?l ?c ?k (fun A_law_least => ?_); (case a => k_is); (case l => k_is); (case c => k_is); (case k => k_is)
    refine' DL.fn_then "need_ending" (DL.topS 9) KX G ?a ?l ?c ?k (fun Aneed_ending => ?_); (case a => k_is); (case l => k_is); (case c => k_is); (case k => k_is)
    refine' DL.fn_then "least_weights" (DL.topS 8) KX G ?a ?l ?c ?k (fun Aleast_weights => ?_); (case a => k_is); (case l => k_is); (case c => k_is); (case k => k_is)
    refine' DL.fn_then "law" (DL.topS 28) KX G ?a ?l ?c ?k (fun Alaw => ?_); (case a => k_is); (case l => k_is); (case c => k_is); (case k => k_is)
    refine' DL.no_then "list" KX G ?a (fun m_list => ?_); (case a => k_is)
    refine' DL.no_then "int" KX G ?a (fun m_int => ?_); (case a => k_is)
    refine' DL.no_then "len" KX G ?a (fun m_len => ?_); (case a => k_is)
    refine' DL.no_then "tuple" KX G ?a (fun m_tuple => ?_); (case a => k_is)
    refine' DL.no_then "sorted" KX G ?a (fun m_sorted => ?_); (case a => k_is)
    refine' DL.no_then "range" KX G ?a (fun m_range => ?_); (case a => k_is)
    refine' DL.no_then "any" KX G ?a (fun m_any => ?_); (case a => k_is)
    refine' DL.no_then "dict" KX G ?a (fun m_dict => ?_); (case a => k_is)
    refine' DL.no_then "sum" KX G ?a (fun m_sum => ?_); (case a => k_is)
    refine' DL.no_then "max" KX G ?a (fun m_max => ?_); (case a => k_is)
    refine' DL.no_then "all" KX G ?a (fun m_all => ?_); (case a => k_is)
    refine' DL.no_then "repr" KX G ?a (fun m_repr => ?_); (case a => k_is)
    exact DL.law_at Alaw hmg (fun _ _ _ _ _ _ u => rfl) fun f fd Fx bs => DL.all_ok A_law_spring A_law_dip A_law_pick A_law_names A_law_rule A_law_read A_law_rings A_law_drawn A_law_book A_law_menu A_law_scenes A_law_any_book A_law_gives A_law_ringed Aletters_of Agiven_words Aring_of Ais_ending A_law_least Aneed_ending Aleast_weights m_list m_int m_len m_tuple m_sorted m_range m_any m_dict m_sum m_max m_all m_repr DL.law_ok f fd Fx bs

