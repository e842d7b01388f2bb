import PyProof.Rows.All
import HandS.ForMost
import HandS.ForExc
import HandS.ExcInit
import HandS.FStr
import KE.KExcSuper
import HandS.ExcIs
import HandS.ExcField
import HandS.IsInst
import HandS.ExcOwn
import KE.KExcIs
import HandS.TupSets
import HandS.SetBool
import KE.SortData
import HandS.Iter
import HandS.Zip
import HandS.Sort
import HandS.Deep
import HandS.AnyAll
import HandS.EndTab
import KE.BitLaws
import PySem.Challenge.RW_webnumbers_k05_codes_there_and_back
set_option Elab.async false
set_option linter.all false
set_option maxRecDepth 100000
set_option maxHeartbeats 4100000
/-! Wn: defs over data. A value is a PyData; the frozen part of the heap is B, what a def owns stands beside it. -/
namespace Wn
open PySem PySem.Spec L2
open PyProof.Rows hiding St

/-! ### readings that are the thing itself -/
def WE (X : Cx) (e : Expr) : TE := fun σ H Q => ∀ (pins : List (Addr × Obj)) (s : Shared), Inv X pins σ H s → wpAny (model X.prog X.w) X.A (eval e X.env) (EP X pins σ Q) X.xe s
def WT (X : Cx) (e : Expr) : TT := fun σ H Q => ∀ (pins : List (Addr × Obj)) (s : Shared), Inv X pins σ H s → wpAny (model X.prog X.w) X.A (isTrue e X.env (eval e X.env)) (TP X pins σ Q) X.xe s
def WA (X : Cx) (es : List Expr) : TA := fun σ H Q => ∀ (pos : Pos) (pins : List (Addr × Obj)) (s : Shared), Inv X pins σ H s → wpAny (model X.prog X.w) X.A (spliced (backTo pos (starEach es X.env))) (AP X pins σ Q) X.xe s
def WS (X : Cx) (st : List Stmt) : TS := fun D σ H => ∀ (pins : List (Addr × Obj)) (s : Shared), Inv X pins σ H s → wpAny (model X.prog X.w) X.A (execs st X.env) (SP X pins D) X.xe s
section
variable {X : Cx}
theorem pe_we {e : Expr} : PE X e (WE X e) := ⟨fun pins s σ H Q I h => h pins s I⟩
theorem pt_wt {e : Expr} : PT X e (WT X e) := ⟨fun pins s σ H Q I h => h pins s I⟩
theorem pa_wa {es : List Expr} : PA X es (WA X es) := ⟨fun pos pins s σ H Q I h => h pos pins s I⟩
theorem ps_ws {st : List Stmt} : PSs X st (WS X st) := ⟨fun pins s σ H D I h => h pins s I⟩
theorem we_of {e : Expr} {t : TE} (h : PE X e t) {σ : St} {H : Hp} {Q : VK} (q : t σ H Q) : WE X e σ H Q := fun pins s I => h.run pins s σ H Q I q
theorem wt_of {e : Expr} {t : TT} (h : PT X e t) {σ : St} {H : Hp} {Q : Bool → Hp → Prop} (q : t σ H Q) : WT X e σ H Q := fun pins s I => h.run pins s σ H Q I q
theorem wa_of {es : List Expr} {t : TA} (h : PA X es t) {σ : St} {H : Hp} {Q : List V → Hp → Prop} (q : t σ H Q) : WA X es σ H Q := fun pos pins s I => h.run pos pins s σ H Q I q
theorem ws_of {st : List Stmt} {t : TS} (h : PSs X st t) {σ : St} {H : Hp} {D : Ends} (q : t D σ H) : WS X st D σ H := fun pins s I => h.run pins s σ H D I q
/-- the first statement, then the others -/
theorem ws_cons {st : Stmt} {rest : List Stmt} {t : TS} (h : PS X st t) {σ : St} {H : Hp} {D : Ends} (q : t { D with nx := fun σ' H' => WS X rest D σ' H' } σ H) : WS X (st :: rest) D σ H :=
  ws_of (pss_cons h ps_ws) q
end

/-! ### heaps: the frozen part grows by new things alone -/
structure Ext (B H B' H' : Hp) : Prop where
  b : Same B B'
  h : Same H H'
  n : ∀ a o, B' a = some o → B a = none → H a = none
theorem Ext.refl (B H : Hp) : Ext B H B H := ⟨Same.refl _, Same.refl _, fun a o e n => by rw [n] at e; cases e⟩
theorem Ext.trans {B H B1 H1 B2 H2 : Hp} (x : Ext B H B1 H1) (y : Ext B1 H1 B2 H2) : Ext B H B2 H2 := ⟨x.b.trans y.b, x.h.trans y.h, fun a o e n => by
  cases q : B1 a with
  | some u => exact x.n a u q n
  | none => exact x.h.free (y.n a o e q)⟩
/-- what is owned stays out of the frozen part -/
theorem Ext.out {B H B' H' : Hp} (x : Ext B H B' H') {a : Addr} {o : HO} (h : H a = some o) (n : B a = none) : B' a = none := by
  cases q : B' a with
  | none => rfl
  | some u => rw [x.n a u q n] at h; cases h
/-- a new thing, frozen -/
theorem Ext.new {B H B' H' : Hp} (x : Ext B H B' H') {a : Addr} {o : HO} (h : H a = none) (b : B' a = none) (h' : H' a = some o) (bh : Same B' H') : Ext B H (upd B' a o) H' ∧ Same (upd B' a o) H' := by
  refine ⟨⟨fun c u e => ?_, x.h, fun c u e n => ?_⟩, fun c u e => ?_⟩
  · by_cases hc : c = a
    · subst hc
      rw [x.b c u e] at b; cases b
    · rw [upd_ne hc]; exact x.b c u e
  · by_cases hc : c = a
    · subst hc; exact h
    · rw [upd_ne hc] at e; exact x.n c u e n
  · by_cases hc : c = a
    · subst hc; rw [upd_same] at e; cases e; exact h'
    · rw [upd_ne hc] at e; exact bh c u e
theorem same_new {H : Hp} {a : Addr} {o : HO} (h : H a = none) : Same H (upd H a o) := fun b x e => by
  rw [upd_ne (ne_of_none e h)]; exact e

/-! ### data in a heap -/
theorem seqT {K : PySem.W.Frag} {H H' : Hp} {a : Addr} {xs : List V} (e : Same H H') (h : SqT K H a xs) : SqT K H' a xs := by
  rcases h with (h | ⟨o, h⟩) | h
  · exact .inl (.inl (e _ _ h))
  · exact .inl (.inr ⟨o, e _ _ h⟩)
  · exact .inr h
mutual
theorem dp_mono {K : PySem.W.Frag} {H H' : Hp} (e : Same H H') : ∀ (d : PyData) (v : V), Dp K H v d → Dp K H' v d
  | .none, _, h => by cases h; exact .non
  | .bool _, _, h => by cases h; exact .bl _
  | .int _, _, h => by cases h; exact .int _
  | .str _, _, h => by cases h; exact .str _
  | .list ds, _, h => by
    cases h with
    | lst h1 h2 => exact .lst (e.seq h1) (dpAll_mono e ds _ h2)
  | .tuple ds, _, h => by
    cases h with
    | tup h1 h2 => exact .tup (seqT e h1) (dpAll_mono e ds _ h2)
  | .dict _, _, h => by cases h
theorem dpAll_mono {K : PySem.W.Frag} {H H' : Hp} (e : Same H H') : ∀ (ds : List PyData) (vs : List V), DpAll K H vs ds → DpAll K H' vs ds
  | [], _, h => by cases h; exact .nil
  | d :: ds, _, h => by
    cases h with
    | cons h1 h2 => exact .cons (dp_mono e d _ h1) (dpAll_mono e ds _ h2)
end
end Wn
namespace L2
open PySem PySem.Spec Wn
open PyProof.Rows hiding St
theorem Dp.to {K : PySem.W.Frag} {H H' : Hp} {v : V} {d : PyData} (h : Dp K H v d) (e : Same H H') : Dp K H' v d := dp_mono e d v h
theorem DpAll.to {K : PySem.W.Frag} {H H' : Hp} {vs : List V} {ds : List PyData} (h : DpAll K H vs ds) (e : Same H H') : DpAll K H' vs ds := dpAll_mono e ds vs h
theorem DpAll.len {K : PySem.W.Frag} {H : Hp} : ∀ {vs : List V} {ds : List PyData}, DpAll K H vs ds → vs.length = ds.length
  | _, _, .nil => rfl
  | _, _, .cons _ t => congrArg (· + 1) (DpAll.len t)
theorem DpAll.get {K : PySem.W.Frag} {H : Hp} : ∀ {vs : List V} {ds : List PyData} {i : Nat} {v : V}, DpAll K H vs ds → vs[i]? = some v → ∃ d, ds[i]? = some d ∧ Dp K H v d
  | _, _, _, _, .nil, e => by simp at e
  | _, _, 0, _, .cons r _, e => by simp at e; subst e; exact ⟨_, rfl, r⟩
  | _, _, i + 1, v, .cons _ t, e => by
    obtain ⟨d, h1, h2⟩ := DpAll.get (i := i) (v := v) t (by simpa using e)
    exact ⟨d, by simpa using h1, h2⟩
theorem DpAll.at {K : PySem.W.Frag} {H : Hp} : ∀ {vs : List V} {ds : List PyData} {i : Nat} {d : PyData}, DpAll K H vs ds → ds[i]? = some d → ∃ v, vs[i]? = some v ∧ Dp K H v d
  | _, _, _, _, .nil, e => by simp at e
  | _, _, 0, _, .cons r _, e => by simp at e; subst e; exact ⟨_, rfl, r⟩
  | _, _, i + 1, d, .cons _ t, e => by
    obtain ⟨v, h1, h2⟩ := DpAll.at (i := i) (d := d) t (by simpa using e)
    exact ⟨v, by simpa using h1, h2⟩
theorem DpAll.append {K : PySem.W.Frag} {H : Hp} : ∀ {vs ws : List V} {ds es : List PyData}, DpAll K H vs ds → DpAll K H ws es → DpAll K H (vs ++ ws) (ds ++ es)
  | _, _, _, _, .nil, s => s
  | _, _, _, _, .cons r t, s => .cons r (DpAll.append t s)
theorem DpAll.set {K : PySem.W.Frag} {H : Hp} {v : V} {d : PyData} (r : Dp K H v d) : ∀ {vs : List V} {ds : List PyData} (i : Nat), DpAll K H vs ds → DpAll K H (vs.set i v) (ds.set i d)
  | _, _, _, .nil => .nil
  | _, _, 0, .cons _ t => .cons r t
  | _, _, i + 1, .cons q t => .cons q (DpAll.set r i t)
theorem DpAll.take {K : PySem.W.Frag} {H : Hp} : ∀ {vs : List V} {ds : List PyData} (n : Nat), DpAll K H vs ds → DpAll K H (vs.take n) (ds.take n)
  | _, _, 0, _ => .nil
  | _, _, _ + 1, .nil => .nil
  | _, _, n + 1, .cons r t => .cons r (DpAll.take n t)
theorem DpAll.drop {K : PySem.W.Frag} {H : Hp} : ∀ {vs : List V} {ds : List PyData} (n : Nat), DpAll K H vs ds → DpAll K H (vs.drop n) (ds.drop n)
  | _, _, 0, r => r
  | _, _, _ + 1, .nil => .nil
  | _, _, n + 1, .cons _ t => DpAll.drop n t
theorem DpAll.ints {K : PySem.W.Frag} {H : Hp} : ∀ (ns : List Int) {vs : List V}, DpAll K H vs (ns.map PyData.int) → vs = ns.map V.int
  | [], _, h => by cases h; rfl
  | n :: ns, _, h => by
    cases h with
    | cons h1 h2 =>
      cases h1
      rw [DpAll.ints ns h2]; rfl
theorem DpAll.ofInts {K : PySem.W.Frag} {H : Hp} : ∀ (ns : List Int), DpAll K H (ns.map V.int) (ns.map PyData.int)
  | [] => .nil
  | n :: ns => .cons (.int n) (DpAll.ofInts ns)
theorem DpAll.strs {K : PySem.W.Frag} {H : Hp} : ∀ (ns : List Str) {vs : List V}, DpAll K H vs (ns.map PyData.str) → vs = ns.map V.str
  | [], _, h => by cases h; rfl
  | n :: ns, _, h => by
    cases h with
    | cons h1 h2 =>
      cases h1
      rw [DpAll.strs ns h2]; rfl
theorem DpAll.ofStrs {K : PySem.W.Frag} {H : Hp} : ∀ (ns : List Str), DpAll K H (ns.map V.str) (ns.map PyData.str)
  | [] => .nil
  | n :: ns => .cons (.str n) (DpAll.ofStrs ns)

end L2
namespace Wn
open PySem PySem.Spec L2
open PyProof.Rows hiding St
/-! ### what stands in a slot -/
inductive Ent where
  /-- nothing is known of it -/
  | un
  /-- frozen data -/
  | d (x : PyData)
  /-- a list of one's own; of lists of one's own -/
  | own (xs : List PyData)
  | own2 (xss : List (List PyData))
  /-- anything else, that stays true while the frozen part grows -/
  | raw (P : Hp → V → Prop)
def Rows (K : PySem.W.Frag) (B H : Hp) : List Addr → List (List PyData) → Prop := Paired fun b xs => ∃ us, H b = some (.lst us) ∧ DpAll K B us xs
def EntOk (K : PySem.W.Frag) (B H : Hp) : Ent → Option V → List Addr → Prop
  | .un, _, l => l = []
  | .d x, o, l => l = [] ∧ ∃ v, o = some v ∧ Dp K B v x
  | .own xs, o, l => ∃ a us, l = [a] ∧ o = some (.ref a) ∧ H a = some (.lst us) ∧ DpAll K B us xs
  | .own2 xss, o, l => ∃ a as, l = a :: as ∧ o = some (.ref a) ∧ H a = some (.lst (as.map V.ref)) ∧ Rows K B H as xss
  | .raw P, o, l => l = [] ∧ (∀ B B' v, Same B B' → P B v → P B' v) ∧ ∃ v, o = some v ∧ P B v
inductive Slots (K : PySem.W.Frag) (B H : Hp) : List Ent → St → List Addr → Prop
  | nil : Slots K B H [] [] []
  | cons {e : Ent} {es : List Ent} {o : Option V} {os : St} {l ls : List Addr} : EntOk K B H e o l → Slots K B H es os ls → Slots K B H (e :: es) (o :: os) (l ++ ls)
theorem rows_to {K : PySem.W.Frag} {B H B' H' : Hp} (eb : Same B B') : ∀ {as : List Addr} {xss : List (List PyData)}, (∀ a ∈ as, ∀ o, H a = some o → H' a = some o) → Rows K B H as xss → Rows K B' H' as xss
  | _, _, _, .nil => .nil
  | _, _, eh, .cons ⟨us, h, d⟩ t => .cons ⟨us, eh _ List.mem_cons_self _ h, DpAll.to d eb⟩ (rows_to eb (fun a ha => eh a (List.mem_cons_of_mem _ ha)) t)
theorem EntOk.to {K : PySem.W.Frag} {B H B' H' : Hp} (eb : Same B B') {e : Ent} {o : Option V} {l : List Addr} (eh : ∀ a ∈ l, ∀ o, H a = some o → H' a = some o) (h : EntOk K B H e o l) : EntOk K B' H' e o l := by
  cases e with
  | un => exact h
  | d x => obtain ⟨h1, v, h2, h3⟩ := h; exact ⟨h1, v, h2, Dp.to h3 eb⟩
  | own xs =>
    obtain ⟨a, us, h1, h2, h3, h4⟩ := h
    subst h1
    exact ⟨a, us, rfl, h2, eh a (by simp) _ h3, DpAll.to h4 eb⟩
  | own2 xss =>
    obtain ⟨a, as, h1, h2, h3, h4⟩ := h
    subst h1
    exact ⟨a, as, rfl, h2, eh a (by simp) _ h3, rows_to eb (fun b hb => eh b (List.mem_cons_of_mem _ hb)) h4⟩
  | raw P =>
    obtain ⟨h1, h2, v, h3, h4⟩ := h
    exact ⟨h1, h2, v, h3, h2 _ _ _ eb h4⟩
theorem Slots.to {K : PySem.W.Frag} {B H B' H' : Hp} (eb : Same B B') : ∀ {ρ : List Ent} {σ : St} {ow : List Addr}, (∀ a ∈ ow, ∀ o, H a = some o → H' a = some o) → Slots K B H ρ σ ow → Slots K B' H' ρ σ ow
  | _, _, _, _, .nil => .nil
  | _, _, _, eh, .cons h t => .cons (EntOk.to eb (fun a ha => eh a (List.mem_append_left _ ha)) h) (Slots.to eb (fun a ha => eh a (List.mem_append_right _ ha)) t)
theorem rows_lst {K : PySem.W.Frag} {B H : Hp} : ∀ {as : List Addr} {xss : List (List PyData)}, Rows K B H as xss → ∀ a ∈ as, ∃ us, H a = some (.lst us)
  | _, _, .nil, _, h => nomatch h
  | _, _, .cons ⟨us, h, _⟩ t, a, ha => by
    rcases List.mem_cons.mp ha with e | e
    · subst e; exact ⟨us, h⟩
    · exact rows_lst t a e
theorem EntOk.lst {K : PySem.W.Frag} {B H : Hp} {e : Ent} {o : Option V} {l : List Addr} (h : EntOk K B H e o l) : ∀ a ∈ l, ∃ us, H a = some (.lst us) := by
  intro a ha
  cases e with
  | un => cases h; cases ha
  | d x => obtain ⟨h1, _⟩ := h; subst h1; cases ha
  | own xs =>
    obtain ⟨b, us, h1, h2, h3, h4⟩ := h
    subst h1
    have e : a = b := by simpa using ha
    subst e
    exact ⟨us, h3⟩
  | own2 xss =>
    obtain ⟨b, as, h1, h2, h3, h4⟩ := h
    subst h1
    rcases List.mem_cons.mp ha with e | e
    · subst e; exact ⟨_, h3⟩
    · exact rows_lst h4 a e
  | raw P => obtain ⟨h1, _⟩ := h; subst h1; cases ha
theorem Slots.lst {K : PySem.W.Frag} {B H : Hp} : ∀ {ρ : List Ent} {σ : St} {ow : List Addr}, Slots K B H ρ σ ow → ∀ a ∈ ow, ∃ us, H a = some (.lst us)
  | _, _, _, .nil, _, h => nomatch h
  | _, _, _, .cons h t, a, ha => (List.mem_append.mp ha).elim (fun z => h.lst a z) fun z => Slots.lst t a z

/-! ### the state of a def's body -/
/-- some table of code objects stands at T (it may grow) -/
def TabIs (T : Addr) (h : Heap) : Prop := ∃ ps : Array Value, h.get? T = some { cls := .none, data := .fields ps } ∧ TriplesOk ps.toList
def TabX (T : Addr) : HO := .ext (TabIs T)
structure Fx where
  B0 : Hp
  H0 : Hp
  E : XK
  Tb : List Addr
  tb : ∀ T ∈ Tb, B0 T = some (TabX T)
structure Ok (X : Cx) (F : Fx) (ρ : List Ent) (B : Hp) (ow : List Addr) (σ : St) (H : Hp) : Prop where
  ext : Ext F.B0 F.H0 B H
  bh : Same B H
  sl : Slots X.K B H ρ σ ow
  nd : ow.Nodup
  out : ∀ a ∈ ow, B a = none ∧ F.H0 a = none
theorem Ok.grow {X : Cx} {F : Fx} {ρ : List Ent} {B B' H H' : Hp} {ow : List Addr} {σ : St} (k : Ok X F ρ B ow σ H) (e : Ext B H B' H') (s : Same B' H') : Ok X F ρ B' ow σ H' :=
  ⟨k.ext.trans e, s, k.sl.to e.b (fun a _ => e.h a), k.nd, fun a ha => by
    obtain ⟨us, q⟩ := k.sl.lst a ha
    exact ⟨e.out q (k.out a ha).1, (k.out a ha).2⟩⟩

/-! ### expressions -/
abbrev RP := Hp → Hp → Hp → Hp → V → Prop
def EvG (X : Cx) (F : Fx) (ρ : List Ent) (e : Expr) (P : RP) : Prop := ∀ B ow σ H Q, Ok X F ρ B ow σ H → (∀ B' H' u, Ext B H B' H' → Same B' H' → P B H B' H' u → Q u H') → WE X e σ H Q
/-- frozen data -/
def EvD (X : Cx) (F : Fx) (ρ : List Ent) (e : Expr) (x : PyData) : Prop := EvG X F ρ e fun _ _ B' _ u => Dp X.K B' u x
/-- a list that can be read -/
def EvL (X : Cx) (F : Fx) (ρ : List Ent) (e : Expr) (xs : List PyData) : Prop := EvG X F ρ e fun _ _ B' H' u => ∃ a us, u = .ref a ∧ SqL X.K H' a us ∧ DpAll X.K B' us xs
/-- a new list -/
def EvN (X : Cx) (F : Fx) (ρ : List Ent) (e : Expr) (xs : List PyData) : Prop := EvG X F ρ e fun _ H B' H' u => ∃ a us, u = .ref a ∧ H' a = some (.lst us) ∧ H a = none ∧ B' a = none ∧ DpAll X.K B' us xs
/-- a test -/
def EvT (X : Cx) (F : Fx) (ρ : List Ent) (e : Expr) (b : Bool) : Prop := ∀ B ow σ H Q, Ok X F ρ B ow σ H → (∀ B' H', Ext B H B' H' → Same B' H' → Q b H') → WT X e σ H Q
/-- arguments -/
def EvA (X : Cx) (F : Fx) (ρ : List Ent) (es : List Expr) (xs : List PyData) : Prop := ∀ B ow σ H Q, Ok X F ρ B ow σ H → (∀ B' H' us, Ext B H B' H' → Same B' H' → DpAll X.K B' us xs → Q us H') → WA X es σ H Q
/-- it raises -/
def EvX (X : Cx) (F : Fx) (ρ : List Ent) (e : Expr) : Prop := ∀ B ow σ H Q, Ok X F ρ B ow σ H → WE X e σ H Q
section
variable {X : Cx} {F : Fx} {ρ : List Ent} {e a b c : Expr} {es : List Expr} {x y z : PyData} {xs ys : List PyData} {pos : Pos}
theorem EvN.l (h : EvN X F ρ e xs) : EvL X F ρ e xs := fun B ow σ H Q k q => h B ow σ H Q k fun B' H' u e s ⟨a, us, h1, h2, h3, h4, h5⟩ => q B' H' u e s ⟨a, us, h1, SqL.of h2, h5⟩
theorem EvN.d (h : EvN X F ρ e xs) : EvD X F ρ e (.list xs) := fun B ow σ H Q k q => h B ow σ H Q k fun B' H' u e s ⟨a, us, h1, h2, h3, h4, h5⟩ => by
  obtain ⟨e', s'⟩ := e.new h3 h4 h2 s
  subst h1
  exact q _ H' _ e' s' (.lst (SqL.of upd_same) (DpAll.to h5 (same_new h4)))
theorem EvD.l (h : EvD X F ρ e (.list xs)) : EvL X F ρ e xs := fun B ow σ H Q k q => h B ow σ H Q k fun B' H' u e s d => by
  cases d with
  | lst h1 h2 => exact q B' H' _ e s ⟨_, _, rfl, s.seq h1, h2⟩

/-! names and constants -/
theorem slot_d : ∀ {ρ : List Ent} {σ : St} {ow : List Addr} {i : Nat} {K : PySem.W.Frag} {B H : Hp}, Slots K B H ρ σ ow → ρ[i]? = some (.d x) → ∃ v, σ[i]? = some (some v) ∧ Dp K B v x
  | _, _, _, _, _, _, _, .nil, e => by simp at e
  | _, _, _, 0, _, _, _, .cons h _, e => by
    simp at e; subst e
    obtain ⟨_, v, h2, h3⟩ := h
    subst h2
    exact ⟨v, rfl, h3⟩
  | _, _, _, i + 1, _, _, _, .cons _ t, e => by
    obtain ⟨v, h1, h2⟩ := slot_d (i := i) t (by simpa using e)
    exact ⟨v, by simpa using h1, h2⟩
theorem slot_own : ∀ {ρ : List Ent} {σ : St} {ow : List Addr} {i : Nat} {K : PySem.W.Frag} {B H : Hp}, Slots K B H ρ σ ow → ρ[i]? = some (.own xs) → ∃ a us, a ∈ ow ∧ σ[i]? = some (some (.ref a)) ∧ H a = some (.lst us) ∧ DpAll K B us xs
  | _, _, _, _, _, _, _, .nil, e => by simp at e
  | _, _, _, 0, _, _, _, .cons h _, e => by
    simp at e; subst e
    obtain ⟨a, us, h1, h2, h3, h4⟩ := h
    subst h1; subst h2
    exact ⟨a, us, by simp, rfl, h3, h4⟩
  | _, _, _, i + 1, _, _, _, .cons _ t, e => by
    obtain ⟨a, us, h0, h1, h2⟩ := slot_own (i := i) t (by simpa using e)
    exact ⟨a, us, List.mem_append_right _ h0, by simpa using h1, h2⟩
theorem ev_v (i : Nat) {n : Str} (hi : ρ[i]? = some (.d x) := by rfl) (hN : X.N[i]? = some n := by rfl) (hv : Vis X.env.scope n := by first | exact Or.inl rfl | exact Or.inr (Or.inl rfl) | exact Or.inr (Or.inr rfl))
    (hd : (n == ("__debug__" : Str)) = false := by decide) (hcd : (n == ("__classdict__" : Str)) = false := by decide) : EvD X F ρ (.Name n pos) x := fun B ow σ H Q k q => by
  obtain ⟨v, h1, h2⟩ := slot_d k.sl hi
  exact we_of (pe_var hN hv hd hcd) ⟨v, h1, q B H v (Ext.refl _ _) k.bh h2⟩
theorem ev_vl (i : Nat) {n : Str} (hi : ρ[i]? = some (.own xs) := by rfl) (hN : X.N[i]? = some n := by rfl) (hv : Vis X.env.scope n := by first | exact Or.inl rfl | exact Or.inr (Or.inl rfl) | exact Or.inr (Or.inr rfl))
    (hd : (n == ("__debug__" : Str)) = false := by decide) (hcd : (n == ("__classdict__" : Str)) = false := by decide) : EvL X F ρ (.Name n pos) xs := fun B ow σ H Q k q => by
  obtain ⟨a, us, h0, h1, h2, h3⟩ := slot_own k.sl hi
  exact we_of (pe_var hN hv hd hcd) ⟨_, h1, q B H _ (Ext.refl _ _) k.bh ⟨a, us, rfl, SqL.of h2, h3⟩⟩
theorem ev_int {i : Int} {j} : EvD X F ρ (.Constant (.int i) j pos) (.int i) := fun B ow σ H Q k q => we_of pe_int (q B H _ (Ext.refl _ _) k.bh (.int i))
theorem ev_bool {i : Bool} {j} : EvD X F ρ (.Constant (.bool i) j pos) (.bool i) := fun B ow σ H Q k q => we_of pe_bl (q B H _ (Ext.refl _ _) k.bh (.bl i))
theorem ev_none {j} : EvD X F ρ (.Constant .none j pos) .none := fun B ow σ H Q k q => we_of pe_non (q B H _ (Ext.refl _ _) k.bh .non)
theorem ev_str {i : Str} {j} : EvD X F ρ (.Constant (.str i) j pos) (.str i) := fun B ow σ H Q k q => we_of pe_str (q B H _ (Ext.refl _ _) k.bh (.str i))
/-- a module's constant -/
theorem ev_glob {n : Str} {v : V} {u : Value} (hg : Gl X n) (hm : X.mg n = some u) (r : RelV v u) (hx : ∀ H, Dp X.K H v x) (hd : (n == ("__debug__" : Str)) = false := by decide) : EvD X F ρ (.Name n pos) x := fun B ow σ H Q k q =>
  we_of (pe_glob hg hm r hd) (q B H _ (Ext.refl _ _) k.bh (hx B))

/-! operators -/
theorem ev_op2 {op : Operator} {r : R2} (ho : OpR X (binaryOp op) r) (ha : EvD X F ρ a x) (hb : EvD X F ρ b y)
    (hr : ∀ B H u v Q, Dp X.K B u x → Dp X.K B v y → Same B H → (∀ B' H' w, Ext B H B' H' → Same B' H' → Dp X.K B' w z → Q w H') → r u v H Q) : EvD X F ρ (.BinOp a op b pos) z := fun B ow σ H Q k q => by
  refine we_of (pe_op ho pe_we pe_we) ?_
  refine ha B ow σ H _ k fun B1 H1 u e1 s1 d1 => ?_
  refine hb B1 ow σ H1 _ (k.grow e1 s1) fun B2 H2 v e2 s2 d2 => ?_
  exact hr B2 H2 u v _ (Dp.to d1 e2.b) d2 s2 fun B3 H3 w e3 s3 d3 => q B3 H3 w ((e1.trans e2).trans e3) s3 d3
theorem dpInt {K : PySem.W.Frag} {B : Hp} {u : V} {i : Int} (h : Dp K B u (.int i)) : u = .int i := by cases h; rfl
theorem dpBool {K : PySem.W.Frag} {B : Hp} {u : V} {i : Bool} (h : Dp K B u (.bool i)) : u = .bl i := by cases h; rfl
theorem dpStr {K : PySem.W.Frag} {B : Hp} {u : V} {i : Str} (h : Dp K B u (.str i)) : u = .str i := by cases h; rfl
theorem dpNone {K : PySem.W.Frag} {B : Hp} {u : V} (h : Dp K B u .none) : u = .non := by cases h; rfl
theorem ev_opI {op : Operator} {C : Int → Int → Prop} {g : Int → Int → Int} {i j : Int} (ho : OpR X (binaryOp op) (rI C fun i j => .int (g i j))) (ha : EvD X F ρ a (.int i)) (hb : EvD X F ρ b (.int j)) (hC : C i j) : EvD X F ρ (.BinOp a op b pos) (.int (g i j)) :=
  ev_op2 ho ha hb fun B H u v Q d1 d2 s q => ⟨i, j, dpInt d1, dpInt d2, hC, q B H _ (Ext.refl _ _) s (.int _)⟩
theorem ev_opI0 {op : Operator} {g : Int → Int → Int} {i j : Int} (ho : OpR X (binaryOp op) (rI0 fun i j => .int (g i j))) (ha : EvD X F ρ a (.int i)) (hb : EvD X F ρ b (.int j)) : EvD X F ρ (.BinOp a op b pos) (.int (g i j)) :=
  ev_op2 ho ha hb fun B H u v Q d1 d2 s q => ⟨i, j, dpInt d1, dpInt d2, q B H _ (Ext.refl _ _) s (.int _)⟩
variable {i j : Int}
theorem ev_add (ha : EvD X F ρ a (.int i)) (hb : EvD X F ρ b (.int j)) : EvD X F ρ (.BinOp a .Add b pos) (.int (i + j)) := ev_opI0 op_add ha hb
theorem ev_sub (ha : EvD X F ρ a (.int i)) (hb : EvD X F ρ b (.int j)) : EvD X F ρ (.BinOp a .Sub b pos) (.int (i - j)) := ev_opI0 op_sub ha hb
theorem ev_mul (ha : EvD X F ρ a (.int i)) (hb : EvD X F ρ b (.int j)) (hC : CMul i j) : EvD X F ρ (.BinOp a .Mult b pos) (.int (i * j)) := ev_opI op_mul ha hb hC
theorem ev_div (ha : EvD X F ρ a (.int i)) (hb : EvD X F ρ b (.int j)) (hC : CDiv i j) : EvD X F ρ (.BinOp a .FloorDiv b pos) (.int (i / j)) := ev_opI op_fdiv ha hb hC
theorem ev_mod (ha : EvD X F ρ a (.int i)) (hb : EvD X F ρ b (.int j)) (hC : 0 < j) : EvD X F ρ (.BinOp a .Mod b pos) (.int (i % j)) := ev_opI op_mod ha hb hC
theorem ev_pow (ha : EvD X F ρ a (.int i)) (hb : EvD X F ρ b (.int j)) (hC : CPow i j) : EvD X F ρ (.BinOp a .Pow b pos) (.int (i ^ j.toNat)) := ev_opI op_pow ha hb hC
theorem ev_shl (ha : EvD X F ρ a (.int i)) (hb : EvD X F ρ b (.int j)) (hC : CPow i j) : EvD X F ρ (.BinOp a .LShift b pos) (.int (i * 2 ^ j.toNat)) := ev_opI (g := fun i j => i * 2 ^ j.toNat) op_shl ha hb hC
theorem ev_shr (ha : EvD X F ρ a (.int i)) (hb : EvD X F ρ b (.int j)) (hC : 0 ≤ j) : EvD X F ρ (.BinOp a .RShift b pos) (.int (i / 2 ^ j.toNat)) := ev_opI (g := fun i j => i / 2 ^ j.toNat) (C := fun _ j => 0 ≤ j) op_shr ha hb hC
theorem ev_and (ha : EvD X F ρ a (.int i)) (hb : EvD X F ρ b (.int j)) : EvD X F ρ (.BinOp a .BitAnd b pos) (.int (Builtin.bitAnd i j)) := ev_opI0 op_and ha hb
theorem ev_cat {i j : Str} (ha : EvD X F ρ a (.str i)) (hb : EvD X F ρ b (.str j)) (hl : i.length + j.length ≤ sizeLine) : EvD X F ρ (.BinOp a .Add b pos) (.str (i ++ j)) :=
  ev_op2 op_add_str ha hb fun B H u v Q d1 d2 s q => ⟨i, j, dpStr d1, dpStr d2, hl, q B H _ (Ext.refl _ _) s (.str _)⟩
theorem ev_neg (ha : EvD X F ρ a (.int i)) : EvD X F ρ (.UnaryOp .USub a pos) (.int (-i)) := fun B ow σ H Q k q => by
  refine we_of (pe_un un_neg pe_we) ?_
  refine ha B ow σ H _ k fun B1 H1 u e1 s1 d1 => ?_
  exact ⟨i, dpInt d1, q B1 H1 _ e1 s1 (.int _)⟩
end
end Wn

namespace Wn
open PySem PySem.Spec L2
open PyProof.Rows hiding St
section
variable {X : Cx} {F : Fx} {ρ : List Ent} {e a b c f g : Expr} {es : List Expr} {x y z : PyData} {xs ys : List PyData} {pos : Pos} {i j k : Int}

/-! ### comparisons -/
/-- what a comparison of two data answers -/
def CmpR (X : Cx) (op : CmpOp) (x y : PyData) (r : Bool) : Prop := ∃ t, OpR X (compareOp op) t ∧ ∀ B H u v Q, Dp X.K B u x → Dp X.K B v y → Same B H → Q (.bl r) H → t u v H Q
theorem ev_cmp {op : CmpOp} {r : Bool} (h : CmpR X op x y r) (ha : EvD X F ρ a x) (hb : EvD X F ρ b y) (hm : behindInMarks op b = false := by first | exact nomark _ | rfl) : EvD X F ρ (.Compare a [op] [b] pos) (.bool r) := fun B ow σ H Q k q => by
  obtain ⟨t, ho, hr⟩ := h
  refine we_of (pe_cmpR ho pe_we pe_we hm) ?_
  refine ha B ow σ H _ k fun B1 H1 u e1 s1 d1 => ?_
  refine hb B1 ow σ H1 _ (k.grow e1 s1) fun B2 H2 v e2 s2 d2 => ?_
  exact hr B2 H2 u v _ (Dp.to d1 e2.b) d2 s2 (q B2 H2 _ (e1.trans e2) s2 (.bl _))
theorem et_cmp {op : CmpOp} {r : Bool} (h : CmpR X op x y r) (ha : EvD X F ρ a x) (hb : EvD X F ρ b y) (hm : behindInMarks op b = false := by first | exact nomark _ | rfl) : EvT X F ρ (.Compare a [op] [b] pos) r := fun B ow σ H Q k q => by
  obtain ⟨t, ho, hr⟩ := h
  refine wt_of (pt_cmpR ho pe_we pe_we hm) ?_
  refine ha B ow σ H _ k fun B1 H1 u e1 s1 d1 => ?_
  refine hb B1 ow σ H1 _ (k.grow e1 s1) fun B2 H2 v e2 s2 d2 => ?_
  exact hr B2 H2 u v _ (Dp.to d1 e2.b) d2 s2 ⟨r, rfl, q B2 H2 (e1.trans e2) s2⟩
theorem cmpI {op : CmpOp} {g : Int → Int → Bool} (ho : OpR X (compareOp op) (rI0 fun i j => .bl (g i j))) : CmpR X op (.int i) (.int j) (g i j) := ⟨_, ho, fun B H u v Q d1 d2 s q => ⟨i, j, dpInt d1, dpInt d2, q⟩⟩
theorem cmp_lt : CmpR X .Lt (.int i) (.int j) (decide (i < j)) := cmpI (g := fun i j => decide (i < j)) op_lt
theorem cmp_le : CmpR X .LtE (.int i) (.int j) (decide (i ≤ j)) := cmpI (g := fun i j => decide (i ≤ j)) op_le
theorem cmp_gt : CmpR X .Gt (.int i) (.int j) (decide (j < i)) := cmpI (g := fun i j => decide (j < i)) op_gt
theorem cmp_ge : CmpR X .GtE (.int i) (.int j) (decide (j ≤ i)) := cmpI (g := fun i j => decide (j ≤ i)) op_ge
theorem cmp_eq : CmpR X .Eq (.int i) (.int j) (decide (i = j)) := ⟨_, op_eq, fun B H u v Q d1 d2 s q => by
  rw [dpInt d1, dpInt d2]
  exact ⟨rfl, by rw [dec_int, Bool.beq_eq_decide_eq]; exact q⟩⟩
theorem cmp_ne : CmpR X .NotEq (.int i) (.int j) (!decide (i = j)) := ⟨_, op_ne, fun B H u v Q d1 d2 s q => by
  rw [dpInt d1, dpInt d2]
  exact ⟨rfl, by rw [dec_int, Bool.beq_eq_decide_eq]; exact q⟩⟩
theorem cmp_eqB {i j : Bool} : CmpR X .Eq (.bool i) (.bool j) (decide (i = j)) := ⟨_, op_eq, fun B H u v Q d1 d2 s q => by
  rw [dpBool d1, dpBool d2]
  exact ⟨rfl, by rw [dec_bl, Bool.beq_eq_decide_eq]; exact q⟩⟩
theorem cmp_neB {i j : Bool} : CmpR X .NotEq (.bool i) (.bool j) (!decide (i = j)) := ⟨_, op_ne, fun B H u v Q d1 d2 s q => by
  rw [dpBool d1, dpBool d2]
  exact ⟨rfl, by rw [dec_bl, Bool.beq_eq_decide_eq]; exact q⟩⟩
theorem cmp_eqS {i j : Str} : CmpR X .Eq (.str i) (.str j) (decide (i = j)) := ⟨_, op_eq, fun B H u v Q d1 d2 s q => by
  rw [dpStr d1, dpStr d2]
  exact ⟨rfl, by rw [dec_str, Bool.beq_eq_decide_eq]; exact q⟩⟩
theorem cmp_neS {i j : Str} : CmpR X .NotEq (.str i) (.str j) (!decide (i = j)) := ⟨_, op_ne, fun B H u v Q d1 d2 s q => by
  rw [dpStr d1, dpStr d2]
  exact ⟨rfl, by rw [dec_str, Bool.beq_eq_decide_eq]; exact q⟩⟩
/-- == of data of any kind -/
theorem cmp_eqD (hu : X.A.units + 64 < cLine) (sx : SeqAt.shaped x = true) (sy : SeqAt.shaped y = true) : CmpR X .Eq x y (PyData.eqv x y) :=
  ⟨_, op_eqD hu, fun B H u v Q d1 d2 s q => ⟨x, y, Dp.to d1 s, Dp.to d2 s, sx, sy, q⟩⟩
theorem cmp_neD (hu : X.A.units + 64 < cLine) (sx : SeqAt.shaped x = true) (sy : SeqAt.shaped y = true) : CmpR X .NotEq x y (!PyData.eqv x y) :=
  ⟨_, op_neD hu, fun B H u v Q d1 d2 s q => ⟨x, y, Dp.to d1 s, Dp.to d2 s, sx, sy, q⟩⟩
def isNone : PyData → Bool
  | .none => true
  | _ => false
theorem isNone_of {K : PySem.W.Frag} {B : Hp} {u : V} {x : PyData} (d : Dp K B u x) : decide (u = .non) = isNone x := by cases d <;> first | rfl | simp [isNone]
theorem cmp_isN : CmpR X .Is x .none (isNone x) := ⟨_, op_isN, fun B H u v Q d1 d2 s q => ⟨dpNone d2, by rw [isNone_of d1]; exact q⟩⟩
theorem cmp_notN : CmpR X .IsNot x .none (!isNone x) := ⟨_, op_notN, fun B H u v Q d1 d2 s q => ⟨dpNone d2, by rw [isNone_of d1]; exact q⟩⟩
/-- a < b < c of ints -/
theorem ev_chain {op op' : CmpOp} {p r : Bool} (ho : CmpR X op x y p) (ho' : CmpR X op' y z r) (ha : EvD X F ρ a x) (hb : EvD X F ρ b y) (hc : p = true → EvD X F ρ c z)
    (hm : lastMarks [op, op'] [b, c] = false := by with_unfolding_all rfl) : EvD X F ρ (.Compare a [op, op'] [b, c] pos) (.bool (p && r)) := fun B ow σ H Q ok q => by
  obtain ⟨t, h1, hr⟩ := ho
  obtain ⟨t', h1', hr'⟩ := ho'
  refine we_of (pe_chain h1 h1' pe_we pe_we pe_we hm) ?_
  refine ha B ow σ H _ ok fun B1 H1 u e1 s1 d1 => ?_
  refine hb B1 ow σ H1 _ (ok.grow e1 s1) fun B2 H2 v e2 s2 d2 => ?_
  refine hr B2 H2 u v _ (Dp.to d1 e2.b) d2 s2 ⟨p, rfl, ?_⟩
  cases p with
  | false => exact iteF (q B2 H2 _ (e1.trans e2) s2 (.bl _))
  | true =>
    refine iteT (hc rfl B2 ow σ H2 _ ((ok.grow e1 s1).grow e2 s2) fun B3 H3 w e3 s3 d3 => ?_)
    exact hr' B3 H3 v w _ (Dp.to d2 e3.b) d3 s3 (q B3 H3 _ ((e1.trans e2).trans e3) s3 (.bl _))
theorem et_chain {op op' : CmpOp} {p r : Bool} (ho : CmpR X op x y p) (ho' : CmpR X op' y z r) (ha : EvD X F ρ a x) (hb : EvD X F ρ b y) (hc : p = true → EvD X F ρ c z)
    (hm : lastMarks [op, op'] [b, c] = false := by with_unfolding_all rfl) : EvT X F ρ (.Compare a [op, op'] [b, c] pos) (p && r) := fun B ow σ H Q ok q => by
  obtain ⟨t, h1, hr⟩ := ho
  obtain ⟨t', h1', hr'⟩ := ho'
  refine wt_of (pt_chain h1 h1' pe_we pe_we pe_we hm) ?_
  refine ha B ow σ H _ ok fun B1 H1 u e1 s1 d1 => ?_
  refine hb B1 ow σ H1 _ (ok.grow e1 s1) fun B2 H2 v e2 s2 d2 => ?_
  refine hr B2 H2 u v _ (Dp.to d1 e2.b) d2 s2 ⟨p, rfl, ?_⟩
  cases p with
  | false => exact iteF ⟨_, rfl, q B2 H2 (e1.trans e2) s2⟩
  | true =>
    refine iteT (hc rfl B2 ow σ H2 _ ((ok.grow e1 s1).grow e2 s2) fun B3 H3 w e3 s3 d3 => ?_)
    exact hr' B3 H3 v w _ (Dp.to d2 e3.b) d3 s3 ⟨_, rfl, q B3 H3 ((e1.trans e2).trans e3) s3⟩

/-! ### tests -/
theorem et_val {bs : Bool} (h : EvD X F ρ a (.bool bs)) (he : ∀ whole, isTrue a X.env whole = (do let v ← whole; standAt a.pos; holding [v] (truthy v)) := by intro _; rfl) : EvT X F ρ a bs := fun B ow σ H Q ok q => by
  refine wt_of (pt_val pe_we he) ?_
  refine h B ow σ H _ ok fun B1 H1 u e1 s1 d1 => ?_
  exact ⟨bs, dpBool d1, q B1 H1 e1 s1⟩
theorem et_not {bs : Bool} (h : EvT X F ρ a bs) : EvT X F ρ (.UnaryOp .Not a pos) (!bs) := fun B ow σ H Q ok q => by
  refine wt_of (pt_not pt_wt) ?_
  exact h B ow σ H _ ok fun B1 H1 e1 s1 => q B1 H1 e1 s1
/-- truth of any data -/
def truth : PyData → Bool
  | .none => false
  | .bool b => b
  | .int i => i != 0
  | .str s => (s.length : Int) != 0
  | .list xs => !xs.isEmpty
  | .tuple xs => !xs.isEmpty
  | .dict _ => false
def smallS : PyData → Prop
  | .str s => s.length ≤ sizeLine
  | _ => True
theorem dpEmpty {K : PySem.W.Frag} {B : Hp} {vs : List V} {xs : List PyData} (h : DpAll K B vs xs) : vs.isEmpty = xs.isEmpty := by
  cases h <;> rfl
theorem tru_of {K : PySem.W.Frag} {H : Hp} {u : V} {x : PyData} (d : Dp K H u x) (hs : smallS x) : TruV K u H (truth x) := by
  cases d with
  | non => rfl
  | bl b => rfl
  | int i => rfl
  | str s => exact ⟨hs, rfl⟩
  | lst h1 h2 => exact .inl ⟨_, h1, by rw [dpEmpty h2]; rfl⟩
  | tup h1 h2 => exact .inr (.inl ⟨_, h1, by rw [dpEmpty h2]; rfl⟩)
theorem et_truth (h : EvD X F ρ a x) (hs : smallS x := by trivial) (he : ∀ whole, isTrue a X.env whole = (do let v ← whole; standAt a.pos; holding [v] (truthy v)) := by intro _; rfl) : EvT X F ρ a (truth x) := fun B ow σ H Q ok q => by
  refine wt_of (pt_truth pe_we he) ?_
  refine h B ow σ H _ ok fun B1 H1 u e1 s1 d1 => ?_
  exact ⟨truth x, tru_of (Dp.to d1 s1) hs, q B1 H1 e1 s1⟩
theorem et_truthL (h : EvL X F ρ a xs) (he : ∀ whole, isTrue a X.env whole = (do let v ← whole; standAt a.pos; holding [v] (truthy v)) := by intro _; rfl) : EvT X F ρ a (!xs.isEmpty) := fun B ow σ H Q ok q => by
  refine wt_of (pt_truth pe_we he) ?_
  refine h B ow σ H _ ok fun B1 H1 u e1 s1 ⟨p, us, h1, h2, h3⟩ => ?_
  subst h1
  exact ⟨!xs.isEmpty, .inl ⟨us, h2, by rw [dpEmpty h3]⟩, q B1 H1 e1 s1⟩
/-- and, or, as tests, as values: one and one more -/
structure EvW (X : Cx) (F : Fx) (ρ : List Ent) (e : Expr) (b : Bool) : Prop where
  run : ∀ B ow σ H Q, Ok X F ρ B ow σ H → (∀ B' H', Ext B H B' H' → Same B' H' → Q b H') → ∀ (wh : Sem Value) (pins : List (Addr × Obj)) (s : Shared), Inv X pins σ H s → wpAny (model X.prog X.w) X.A (isTrue e X.env wh) (TP X pins σ Q) X.xe s
def WW (X : Cx) (e : Expr) : TT := fun σ H Q => ∀ (wh : Sem Value) (pins : List (Addr × Obj)) (s : Shared), Inv X pins σ H s → wpAny (model X.prog X.w) X.A (isTrue e X.env wh) (TP X pins σ Q) X.xe s
theorem pw_ww {e : Expr} : PW X e (WW X e) := ⟨fun wh pins s σ H Q I h => h wh pins s I⟩
theorem ww_of {e : Expr} {t : TT} (h : PW X e t) {σ : St} {H : Hp} {Q : Bool → Hp → Prop} (q : t σ H Q) : WW X e σ H Q := fun wh pins s I => h.run wh pins s σ H Q I q
theorem ew_and1 {bs : Bool} (h : EvT X F ρ a bs) : EvW X F ρ (.BoolOp .And [a] pos) bs := ⟨fun B ow σ H Q ok q => ww_of (pw_and1 pt_wt) (h B ow σ H _ ok q)⟩
theorem ew_or1 {bs : Bool} (h : EvT X F ρ a bs) : EvW X F ρ (.BoolOp .Or [a] pos) bs := ⟨fun B ow σ H Q ok q => ww_of (pw_or1 pt_wt) (h B ow σ H _ ok q)⟩
theorem ew_and {p q : Bool} {rest : List Expr} (h : EvT X F ρ a p) (hr : p = true → EvW X F ρ (.BoolOp .And (b :: rest) pos) q) : EvW X F ρ (.BoolOp .And (a :: b :: rest) pos) (p && q) := ⟨fun B ow σ H Q ok k => by
  refine ww_of (pw_and pt_wt pw_ww) ?_
  refine h B ow σ H _ ok fun B1 H1 e1 s1 => ?_
  cases p with
  | false => exact iteF (k B1 H1 e1 s1)
  | true => exact iteT ((hr rfl).run B1 ow σ H1 _ (ok.grow e1 s1) fun B2 H2 e2 s2 => k B2 H2 (e1.trans e2) s2)⟩
theorem ew_or {p q : Bool} {rest : List Expr} (h : EvT X F ρ a p) (hr : p = false → EvW X F ρ (.BoolOp .Or (b :: rest) pos) q) : EvW X F ρ (.BoolOp .Or (a :: b :: rest) pos) (p || q) := ⟨fun B ow σ H Q ok k => by
  refine ww_of (pw_or pt_wt pw_ww) ?_
  refine h B ow σ H _ ok fun B1 H1 e1 s1 => ?_
  cases p with
  | true => exact iteT (k B1 H1 e1 s1)
  | false => exact iteF ((hr rfl).run B1 ow σ H1 _ (ok.grow e1 s1) fun B2 H2 e2 s2 => k B2 H2 (e1.trans e2) s2)⟩
theorem et_w {p : Bool} (h : EvW X F ρ a p) : EvT X F ρ a p := fun B ow σ H Q ok q => wt_of pw_ww.pt (h.run B ow σ H Q ok q)
/-- .. as values -/
theorem ev_one {op} (h : EvD X F ρ a x) : EvD X F ρ (.BoolOp op [a] pos) x := fun B ow σ H Q ok q => we_of (pe_one pe_we) (h B ow σ H Q ok q)
theorem ev_andV {p q : Bool} {rest : List Expr} (h : EvD X F ρ a (.bool p)) (hr : p = true → EvD X F ρ (.BoolOp .And (b :: rest) pos) (.bool q)) : EvD X F ρ (.BoolOp .And (a :: b :: rest) pos) (.bool (p && q)) := fun B ow σ H Q ok k => by
  refine we_of (pe_and pe_we pe_we) ?_
  refine h B ow σ H _ ok fun B1 H1 u e1 s1 d1 => ?_
  refine ⟨p, dpBool d1, ?_⟩
  cases p with
  | false => exact iteF (k B1 H1 _ e1 s1 (.bl _))
  | true => exact iteT (hr rfl B1 ow σ H1 _ (ok.grow e1 s1) fun B2 H2 v e2 s2 d2 => k B2 H2 v (e1.trans e2) s2 d2)
theorem ev_orV {p q : Bool} {rest : List Expr} (h : EvD X F ρ a (.bool p)) (hr : p = false → EvD X F ρ (.BoolOp .Or (b :: rest) pos) (.bool q)) : EvD X F ρ (.BoolOp .Or (a :: b :: rest) pos) (.bool (p || q)) := fun B ow σ H Q ok k => by
  refine we_of (pe_or pe_we pe_we) ?_
  refine h B ow σ H _ ok fun B1 H1 u e1 s1 d1 => ?_
  refine ⟨p, dpBool d1, ?_⟩
  cases p with
  | true => exact iteT (k B1 H1 _ e1 s1 (.bl _))
  | false => exact iteF (hr rfl B1 ow σ H1 _ (ok.grow e1 s1) fun B2 H2 v e2 s2 d2 => k B2 H2 v (e1.trans e2) s2 d2)
theorem ev_notV {p : Bool} (h : EvD X F ρ a (.bool p)) : EvD X F ρ (.UnaryOp .Not a pos) (.bool (!p)) := fun B ow σ H Q ok k => by
  refine we_of (pe_not pe_we) ?_
  refine h B ow σ H _ ok fun B1 H1 u e1 s1 d1 => ?_
  exact ⟨p, dpBool d1, k B1 H1 _ e1 s1 (.bl _)⟩
theorem ev_ifExp {p : Bool} (hc : EvT X F ρ c p) (ha : p = true → EvD X F ρ a x) (hb : p = false → EvD X F ρ b x) : EvD X F ρ (.IfExp c a b pos) x := fun B ow σ H Q ok k => by
  refine we_of (pe_ifExp pt_wt pe_we pe_we) ?_
  refine hc B ow σ H _ ok fun B1 H1 e1 s1 => ?_
  cases p with
  | true => exact iteT (ha rfl B1 ow σ H1 _ (ok.grow e1 s1) fun B2 H2 v e2 s2 d2 => k B2 H2 v (e1.trans e2) s2 d2)
  | false => exact iteF (hb rfl B1 ow σ H1 _ (ok.grow e1 s1) fun B2 H2 v e2 s2 d2 => k B2 H2 v (e1.trans e2) s2 d2)

/-! ### arguments, displays -/
theorem ea_nil : EvA X F ρ [] [] := fun B ow σ H Q ok q => wa_of pa_nil (q B H [] (Ext.refl _ _) ok.bh .nil)
theorem ea_cons (ha : EvD X F ρ a x) (hr : EvA X F ρ es xs) (hs : starEach (a :: es) X.env = (false, eval a X.env) :: starEach es X.env := by rfl) : EvA X F ρ (a :: es) (x :: xs) := fun B ow σ H Q ok q => by
  refine wa_of (pa_cons pe_we pa_wa hs) ?_
  refine ha B ow σ H _ ok fun B1 H1 u e1 s1 d1 => ?_
  refine hr B1 ow σ H1 _ (ok.grow e1 s1) fun B2 H2 us e2 s2 d2 => ?_
  exact q B2 H2 _ (e1.trans e2) s2 (.cons (Dp.to d1 e2.b) d2)
theorem ev_tup {x1} (h : EvA X F ρ es xs) (hl : xs.length ≤ sizeLine := by decide) : EvD X F ρ (.Tuple es x1 pos) (.tuple xs) := fun B ow σ H Q ok q => by
  refine we_of (pe_tup pa_wa) ?_
  refine h B ow σ H _ ok fun B1 H1 us e1 s1 d1 => ?_
  refine ⟨by rw [d1.len]; exact hl, fun p hp => ?_⟩
  have bn : B1 p = none := s1.free hp
  have e2 : Ext B1 H1 B1 (upd H1 p (.tup us)) := ⟨Same.refl _, same_new hp, fun a o e n => by rw [n] at e; cases e⟩
  have s2 : Same B1 (upd H1 p (.tup us)) := s1.trans (same_new hp)
  obtain ⟨e3, s3⟩ := e2.new hp bn upd_same s2
  exact q _ _ _ (e1.trans e3) s3 (.tup (SqT.of upd_same) (DpAll.to d1 (same_new bn)))
theorem ev_lst (h : EvA X F ρ es xs) (hl : xs.length ≤ sizeLine := by decide) : EvN X F ρ (.List es pos) xs := fun B ow σ H Q ok q => by
  refine we_of (pe_lst pa_wa) ?_
  refine h B ow σ H _ ok fun B1 H1 us e1 s1 d1 => ?_
  refine ⟨by rw [d1.len]; exact hl, fun p hp => ?_⟩
  have bn : B1 p = none := s1.free hp
  have e2 : Ext B1 H1 B1 (upd H1 p (.lst us)) := ⟨Same.refl _, same_new hp, fun a o e n => by rw [n] at e; cases e⟩
  exact q B1 _ _ (e1.trans e2) (s1.trans (same_new hp)) ⟨p, us, rfl, upd_same, e1.h.free hp, bn, d1⟩

/-! ### built-ins by name -/
section
variable {id T : String} {n : Str} {p : Pos} {r : List V → Hp → VK → Prop}
theorem ev_callB (hc : CallR X (.builtin id) r) (hg : Gl X n) (hm : X.mg n = none) (hv : bootBuiltins n = some (.builtin id)) (ha : EvA X F ρ (a :: es) xs)
    (hr : ∀ B H us Q, DpAll X.K B us xs → Same B H → (∀ B' H' w, Ext B H B' H' → Same B' H' → Dp X.K B' w z → Q w H') → r us H Q)
    (hn : n ≠ "__name__" := by decide) (hdb : (n == ("__debug__" : Str)) = false := by decide) (he : starEach (a :: es) X.env = (false, eval a X.env) :: starEach es X.env := by rfl) (hpl : (backTo pos (starEach es X.env)).any (·.1) = false := by rfl) : EvD X F ρ (.Call (.Name n p) (a :: es) [] pos) z := fun B ow σ H Q ok q => by
  refine we_of (pe_callB hc hg hm hv pa_wa hn hdb he hpl) ?_
  refine ha B ow σ H _ ok fun B1 H1 us e1 s1 d1 => ?_
  exact hr B1 H1 us _ d1 s1 fun B2 H2 w e2 s2 d2 => q B2 H2 w (e1.trans e2) s2 d2
theorem ev_callTy (hc : CallR X (.type T) r) (hg : Gl X n) (hm : X.mg n = none) (hv : bootBuiltins n = some (.type T)) (ha : EvA X F ρ (a :: es) xs)
    (hr : ∀ B H us Q, DpAll X.K B us xs → Same B H → (∀ B' H' w, Ext B H B' H' → Same B' H' → Dp X.K B' w z → Q w H') → r us H Q)
    (hn : n ≠ "__name__" := by decide) (hdb : (n == ("__debug__" : Str)) = false := by decide) (he : starEach (a :: es) X.env = (false, eval a X.env) :: starEach es X.env := by rfl) (hpl : (backTo pos (starEach es X.env)).any (·.1) = false := by rfl) : EvD X F ρ (.Call (.Name n p) (a :: es) [] pos) z := fun B ow σ H Q ok q => by
  refine we_of (pe_callTy hc hg hm hv pa_wa hn hdb he hpl) ?_
  refine ha B ow σ H _ ok fun B1 H1 us e1 s1 d1 => ?_
  exact hr B1 H1 us _ d1 s1 fun B2 H2 w e2 s2 d2 => q B2 H2 w (e1.trans e2) s2 d2
end
theorem dp1 {K : PySem.W.Frag} {B : Hp} {us : List V} (h : DpAll K B us [x]) : ∃ u, us = [u] ∧ Dp K B u x := by
  cases h with
  | cons h1 h2 => cases h2; exact ⟨_, rfl, h1⟩
theorem dp2 {K : PySem.W.Frag} {B : Hp} {us : List V} (h : DpAll K B us [x, y]) : ∃ u v, us = [u, v] ∧ Dp K B u x ∧ Dp K B v y := by
  cases h with
  | cons h1 h2 =>
    obtain ⟨v, rfl, h3⟩ := dp1 h2
    exact ⟨_, v, rfl, h1, h3⟩
section
variable {p : Pos}
theorem ev_max2 (hg : Gl X "max") (hm : X.mg "max" = none) (hc : X.calm = true) (ha : EvD X F ρ a (.int i)) (hb : EvD X F ρ b (.int j)) (s1 : starEach [a, b] X.env = (false, eval a X.env) :: starEach [b] X.env := by rfl) (s2 : starEach [b] X.env = (false, eval b X.env) :: starEach [] X.env := by rfl) (hpl : (backTo pos (starEach [b] X.env)).any (·.1) = false := by rfl) : EvD X F ρ (.Call (.Name "max" p) [a, b] [] pos) (.int (max i j)) :=
  ev_callB (call_max2 hc) hg hm (by decide +kernel) (ea_cons ha (ea_cons hb ea_nil s2) s1) (fun B H us Q d s q => by
    obtain ⟨u, v, rfl, d1, d2⟩ := dp2 d
    refine ⟨i, j, by rw [dpInt d1, dpInt d2], ?_⟩
    have e : (if j > i then j else i) = max i j := by rw [Int.max_def]; split <;> split <;> omega
    rw [e]
    exact q B H _ (Ext.refl _ _) s (.int _)) (by decide) (by decide) s1 hpl
theorem ev_min2 (hg : Gl X "min") (hm : X.mg "min" = none) (hc : X.calm = true) (ha : EvD X F ρ a (.int i)) (hb : EvD X F ρ b (.int j)) (s1 : starEach [a, b] X.env = (false, eval a X.env) :: starEach [b] X.env := by rfl) (s2 : starEach [b] X.env = (false, eval b X.env) :: starEach [] X.env := by rfl) (hpl : (backTo pos (starEach [b] X.env)).any (·.1) = false := by rfl) : EvD X F ρ (.Call (.Name "min" p) [a, b] [] pos) (.int (min i j)) :=
  ev_callB (call_min2 hc) hg hm (by decide +kernel) (ea_cons ha (ea_cons hb ea_nil s2) s1) (fun B H us Q d s q => by
    obtain ⟨u, v, rfl, d1, d2⟩ := dp2 d
    refine ⟨i, j, by rw [dpInt d1, dpInt d2], ?_⟩
    have e : (if j < i then j else i) = min i j := by rw [Int.min_def]; split <;> split <;> omega
    rw [e]
    exact q B H _ (Ext.refl _ _) s (.int _)) (by decide) (by decide) s1 hpl
theorem ev_abs (hg : Gl X "abs") (hm : X.mg "abs" = none) (ha : EvD X F ρ a (.int i)) (s1 : starEach [a] X.env = (false, eval a X.env) :: starEach [] X.env := by rfl) (hpl : (backTo pos (starEach [] X.env)).any (·.1) = false := by rfl) : EvD X F ρ (.Call (.Name "abs" p) [a] [] pos) (.int (if i < 0 then -i else i)) :=
  ev_callB call_abs hg hm (by decide +kernel) (ea_cons ha ea_nil s1) (fun B H us Q d s q => by
    obtain ⟨u, rfl, d1⟩ := dp1 d
    exact ⟨i, by rw [dpInt d1], q B H _ (Ext.refl _ _) s (.int _)⟩) (by decide) (by decide) s1 hpl
theorem ev_intI (hg : Gl X "int") (hm : X.mg "int" = none) (ha : EvD X F ρ a (.int i)) (s1 : starEach [a] X.env = (false, eval a X.env) :: starEach [] X.env := by rfl) (hpl : (backTo pos (starEach [] X.env)).any (·.1) = false := by rfl) : EvD X F ρ (.Call (.Name "int" p) [a] [] pos) (.int i) :=
  ev_callTy call_int1 hg hm (by decide +kernel) (ea_cons ha ea_nil s1) (fun B H us Q d s q => by
    obtain ⟨u, rfl, d1⟩ := dp1 d
    exact .inl ⟨i, by rw [dpInt d1], q B H _ (Ext.refl _ _) s (.int _)⟩) (by decide) (by decide) s1 hpl
theorem ev_strI (hg : Gl X "str") (hm : X.mg "str" = none) (ha : EvD X F ρ a (.int i)) (hi : i.natAbs.log2 < 1920) (s1 : starEach [a] X.env = (false, eval a X.env) :: starEach [] X.env := by rfl) (hpl : (backTo pos (starEach [] X.env)).any (·.1) = false := by rfl) : EvD X F ρ (.Call (.Name "str" p) [a] [] pos) (.str (toString i)) :=
  ev_callTy call_str_int hg hm (by decide +kernel) (ea_cons ha ea_nil s1) (fun B H us Q d s q => by
    obtain ⟨u, rfl, d1⟩ := dp1 d
    exact ⟨i, by rw [dpInt d1], hi, q B H _ (Ext.refl _ _) s (.str _)⟩) (by decide) (by decide) s1 hpl
def lenD : PyData → Nat
  | .list xs => xs.length
  | .tuple xs => xs.length
  | .str s => s.length
  | _ => 0
def hasLen : PyData → Prop
  | .list _ => True
  | .tuple _ => True
  | .str s => s.length ≤ sizeLine
  | _ => False
theorem ev_len (hg : Gl X "len") (hm : X.mg "len" = none) (ha : EvD X F ρ a x) (hx : hasLen x) (s1 : starEach [a] X.env = (false, eval a X.env) :: starEach [] X.env := by rfl) (hpl : (backTo pos (starEach [] X.env)).any (·.1) = false := by rfl) : EvD X F ρ (.Call (.Name "len" p) [a] [] pos) (.int (lenD x)) :=
  ev_callB call_len hg hm (by decide +kernel) (ea_cons ha ea_nil s1) (fun B H us Q d s q => by
    obtain ⟨u, rfl, d1⟩ := dp1 d
    refine ⟨u, lenD x, rfl, ?_, q B H _ (Ext.refl _ _) s (.int _)⟩
    cases Dp.to d1 s with
    | non => cases hx
    | bl b => cases hx
    | int i => cases hx
    | str z => exact ⟨hx, rfl⟩
    | lst h1 h2 => exact .inl ⟨_, h1, h2.len.symm⟩
    | tup h1 h2 => exact .inr ⟨_, h1, h2.len.symm⟩) (by decide) (by decide) s1 hpl
theorem ev_lenL (hg : Gl X "len") (hm : X.mg "len" = none) (ha : EvL X F ρ a xs) (s1 : starEach [a] X.env = (false, eval a X.env) :: starEach [] X.env := by rfl) (hpl : (backTo pos (starEach [] X.env)).any (·.1) = false := by rfl) : EvD X F ρ (.Call (.Name "len" p) [a] [] pos) (.int xs.length) := fun B ow σ H Q ok q => by
  refine we_of (pe_callB call_len hg hm (by decide +kernel) (pa_cons pe_we pa_nil s1) (by decide) (by decide) s1 hpl) ?_
  refine ha B ow σ H _ ok fun B1 H1 u e1 s1 ⟨p, us, h1, h2, h3⟩ => ?_
  subst h1
  exact ⟨_, xs.length, rfl, .inl ⟨us, h2, h3.len.symm⟩, q B1 H1 _ e1 s1 (.int _)⟩
end

/-! ### subscripts -/
theorem at_dp {K : PySem.W.Frag} {B : Hp} {us : List V} (d : DpAll K B us xs) (h : atI xs i = some z) : ∃ v, atI us i = some v ∧ Dp K B v z := by
  unfold atI at h ⊢
  rw [d.len]
  cases e : ixN xs.length i with
  | none => rw [e] at h; cases h
  | some j =>
    rw [e] at h
    exact d.at h
theorem ev_ixL (ha : EvL X F ρ a xs) (hb : EvD X F ρ b (.int i)) (h : atI xs i = some z) (hs : PlainIx b := by exact fun _ _ => rfl) : EvD X F ρ (.Subscript a b pos) z := fun B ow σ H Q ok q => by
  refine we_of (pe_ix ix_list pe_we pe_we hs) ?_
  refine ha B ow σ H _ ok fun B1 H1 u e1 s1 ⟨p, us, h1, h2, h3⟩ => ?_
  refine hb B1 ow σ H1 _ (ok.grow e1 s1) fun B2 H2 v e2 s2 d2 => ?_
  obtain ⟨v', h4, h5⟩ := at_dp h3 h
  exact ⟨p, us, i, v', h1, dpInt d2, e2.h.seq h2, h4, q B2 H2 _ (e1.trans e2) s2 (Dp.to h5 e2.b)⟩
theorem ev_ixT (ha : EvD X F ρ a (.tuple xs)) (hb : EvD X F ρ b (.int i)) (h : atI xs i = some z) (hs : PlainIx b := by exact fun _ _ => rfl) : EvD X F ρ (.Subscript a b pos) z := fun B ow σ H Q ok q => by
  refine we_of (pe_ix ix_tup pe_we pe_we hs) ?_
  refine ha B ow σ H _ ok fun B1 H1 u e1 s1 d1 => ?_
  refine hb B1 ow σ H1 _ (ok.grow e1 s1) fun B2 H2 v e2 s2 d2 => ?_
  cases d1 with
  | tup h2 h3 =>
    obtain ⟨v', h4, h5⟩ := at_dp h3 h
    exact ⟨_, _, i, v', rfl, dpInt d2, seqT (e2.b.trans s2) h2, h4, q B2 H2 _ (e1.trans e2) s2 (Dp.to h5 e2.b)⟩
end
end Wn

namespace Wn
open PySem PySem.Spec L2
open PyProof.Rows hiding St

/-! ### one slot of many -/
theorem slots_lens {K : PySem.W.Frag} {B H : Hp} : ∀ {ρ : List Ent} {σ : St} {ow : List Addr} {i : Nat} {e0 : Ent}, Slots K B H ρ σ ow → ρ[i]? = some e0 →
    ∃ o0 l0 pre post, σ[i]? = some o0 ∧ ow = pre ++ (l0 ++ post) ∧ EntOk K B H e0 o0 l0 ∧ ∀ B' H' e o l, Same B B' → (∀ a, a ∈ pre ∨ a ∈ post → ∀ u, H a = some u → H' a = some u) → EntOk K B' H' e o l → Slots K B' H' (ρ.set i e) (σ.set i o) (pre ++ (l ++ post))
  | _, _, _, _, _, .nil, e => by simp at e
  | _ :: es, _ :: os, _, 0, e0, .cons (l := l) (ls := ls) h t, e => by
    simp at e; subst e
    refine ⟨_, l, [], ls, rfl, rfl, h, fun B' H' e o l' sb sh h' => ?_⟩
    show Slots K B' H' (e :: es) (o :: os) (l' ++ ls)
    exact Slots.cons h' (t.to sb fun a ha => sh a (.inr ha))
  | _, _, _, i + 1, e0, .cons (l := l) (ls := ls) h t, e => by
    obtain ⟨o0, l0, pre, post, h1, h2, h3, h4⟩ := slots_lens (i := i) (e0 := e0) t (by simpa using e)
    refine ⟨o0, l0, l ++ pre, post, by simpa using h1, by rw [h2, List.append_assoc], h3, fun B' H' e o l' sb sh h' => ?_⟩
    rw [List.append_assoc]
    exact .cons (h.to sb fun a ha => sh a (.inl (List.mem_append_left _ ha))) (h4 B' H' e o l' sb (fun a ha => sh a (ha.imp (List.mem_append_right _) id)) h')
theorem slots_len {K : PySem.W.Frag} {B H : Hp} : ∀ {ρ : List Ent} {σ : St} {ow : List Addr}, Slots K B H ρ σ ow → σ.length = ρ.length
  | _, _, _, .nil => rfl
  | _, _, _, .cons _ t => congrArg (· + 1) (slots_len t)
section
variable {X : Cx} {F : Fx} {ρ : List Ent} {B H : Hp} {ow : List Addr} {σ : St} {i : Nat} {e0 : Ent}
theorem nd_parts {pre l post : List Addr} (h : (pre ++ (l ++ post)).Nodup) : (pre ++ ([] ++ post)).Nodup ∧ (∀ a ∈ l, a ∉ pre ∧ a ∉ post) ∧ l.Nodup := by
  have h1 := List.nodup_append.mp h
  have h2 := List.nodup_append.mp h1.2.1
  refine ⟨?_, fun a ha => ⟨fun hp => h1.2.2 a hp a (List.mem_append_left _ ha) rfl, fun hp => h2.2.2 a ha a hp rfl⟩, h2.1⟩
  rw [List.nil_append]
  exact List.nodup_append.mpr ⟨h1.1, h2.2.1, fun a ha b hb => h1.2.2 a ha b (List.mem_append_right _ hb)⟩
/-- a slot that owns nothing is stored -/
theorem Ok.put (k : Ok X F ρ B ow σ H) (hi : ρ[i]? = some e0) {e : Ent} {o : Option V} (h : EntOk X.K B H e o []) : ∃ ow', Ok X F (ρ.set i e) B ow' (σ.set i o) H ∧ ∀ a ∈ ow', a ∈ ow := by
  obtain ⟨o0, l0, pre, post, h1, h2, h3, h4⟩ := slots_lens k.sl hi
  have nd := k.nd
  rw [h2] at nd
  have sub : ∀ a ∈ pre ++ ([] ++ post), a ∈ ow := fun a ha => by
    rw [h2]
    rcases List.mem_append.mp ha with z | z
    · exact List.mem_append_left _ z
    · exact List.mem_append_right _ (List.mem_append_right _ (by simpa using z))
  exact ⟨_, ⟨k.ext, k.bh, h4 B H e o [] (Same.refl _) (fun _ _ _ z => z) h, (nd_parts nd).1, fun a ha => k.out a (sub a ha)⟩, sub⟩
/-- one's own new list is stored -/
theorem Ok.putN (k : Ok X F ρ B ow σ H) (hi : ρ[i]? = some e0) {a : Addr} {us : List V} {xs : List PyData} (h : H a = some (.lst us)) (hb : B a = none) (h0 : F.H0 a = none) (ho : a ∉ ow) (hd : DpAll X.K B us xs) : ∃ ow', Ok X F (ρ.set i (.own xs)) B ow' (σ.set i (some (.ref a))) H := by
  obtain ⟨o0, l0, pre, post, h1, h2, h3, h4⟩ := slots_lens k.sl hi
  have nd := k.nd
  rw [h2] at nd
  have sub : ∀ b, b ∈ pre ∨ b ∈ post → b ∈ ow := fun b hb => by
    rw [h2]
    rcases hb with z | z
    · exact List.mem_append_left _ z
    · exact List.mem_append_right _ (List.mem_append_right _ z)
  have n1 := (nd_parts nd).1
  rw [List.nil_append] at n1
  have n2 := List.nodup_append.mp n1
  refine ⟨_, ⟨k.ext, k.bh, h4 B H (.own xs) (some (.ref a)) [a] (Same.refl _) (fun _ _ _ z => z) ⟨a, us, rfl, rfl, h, hd⟩, ?_, fun b hb' => ?_⟩⟩
  · refine List.nodup_append.mpr ⟨n2.1, List.nodup_cons.mpr ⟨fun z => ho (sub a (.inr z)), n2.2.1⟩, fun c hc d hd' => ?_⟩
    rcases List.mem_cons.mp hd' with z | z
    · subst z
      exact fun e => ho (by rw [← e]; exact sub c (.inl hc))
    · exact n2.2.2 c hc d z
  · rcases List.mem_append.mp hb' with z | z
    · exact k.out b (sub b (.inl z))
    · rcases List.mem_cons.mp z with z | z
      · subst z; exact ⟨hb, h0⟩
      · exact k.out b (sub b (.inr z))
/-- one's own list becomes another -/
theorem Ok.write (k : Ok X F ρ B ow σ H) {xs : List PyData} (hi : ρ[i]? = some (.own xs)) : ∃ a us, σ[i]? = some (some (.ref a)) ∧ H a = some (.lst us) ∧ B a = none ∧ F.H0 a = none ∧ DpAll X.K B us xs ∧
    ∀ us' ys, DpAll X.K B us' ys → Ok X F (ρ.set i (.own ys)) B ow σ (upd H a (.lst us')) := by
  obtain ⟨o0, l0, pre, post, h1, h2, ⟨a, us, e1, e2, e3, e4⟩, h4⟩ := slots_lens k.sl hi
  subst e1 e2
  have ha : a ∈ ow := by rw [h2]; simp
  have nd := k.nd
  rw [h2] at nd
  have hn := (nd_parts nd).2.1 a (by simp)
  refine ⟨a, us, h1, e3, (k.out a ha).1, (k.out a ha).2, e4, fun us' ys hd => ⟨⟨k.ext.b, fun b o e => ?_, fun b o e n => k.ext.n b o e n⟩, fun b o e => ?_, ?_, k.nd, k.out⟩⟩
  · rw [upd_ne (ne_of_none e (k.out a ha).2)]; exact k.ext.h b o e
  · rw [upd_ne (ne_of_none e (k.out a ha).1)]; exact k.bh b o e
  · have q := h4 B (upd H a (.lst us')) (.own ys) (some (.ref a)) [a] (Same.refl _) (fun b hb u e => by
      rw [upd_ne (fun z => by subst z; exact hb.elim hn.1 hn.2)]; exact e) ⟨a, us', rfl, rfl, upd_same, hd⟩
    have eσ : σ.set i (some (.ref a)) = σ := by
      apply List.ext_getElem?
      intro m
      by_cases hm : i = m
      · subst hm
        have hl : i < σ.length := (List.getElem?_eq_some_iff.mp h1).1
        rw [List.getElem?_set_self hl, h1]
      · rw [List.getElem?_set_ne hm]
    rw [eσ, ← h2] at q
    exact q
/-- one's own list is frozen -/
theorem Ok.freeze (k : Ok X F ρ B ow σ H) {xs : List PyData} (hi : ρ[i]? = some (.own xs)) : ∃ B' ow', Same B B' ∧ Ok X F (ρ.set i (.d (.list xs))) B' ow' σ H := by
  obtain ⟨o0, l0, pre, post, h1, h2, ⟨a, us, e1, e2, e3, e4⟩, h4⟩ := slots_lens k.sl hi
  subst e1 e2
  have ha : a ∈ ow := by rw [h2]; simp
  have nd := k.nd
  rw [h2] at nd
  obtain ⟨n1, n2, _⟩ := nd_parts nd
  have hn := n2 a (by simp)
  obtain ⟨hb, h0⟩ := k.out a ha
  have sb : Same B (upd B a (.lst us)) := same_new hb
  have q := h4 (upd B a (.lst us)) H (.d (.list xs)) (some (.ref a)) [] sb (fun _ _ _ z => z) ⟨rfl, _, rfl, .lst (SqL.of upd_same) (DpAll.to e4 sb)⟩
  have eσ : σ.set i (some (.ref a)) = σ := by
    apply List.ext_getElem?
    intro m
    by_cases hm : i = m
    · subst hm
      have hl : i < σ.length := (List.getElem?_eq_some_iff.mp h1).1
      rw [List.getElem?_set_self hl, h1]
    · rw [List.getElem?_set_ne hm]
  rw [eσ] at q
  have sub : ∀ b ∈ pre ++ ([] ++ post), b ∈ ow ∧ b ≠ a := fun b hb => by
    rw [h2]
    rcases List.mem_append.mp hb with z | z
    · exact ⟨List.mem_append_left _ z, fun e => hn.1 (e ▸ z)⟩
    · have z' : b ∈ post := by simpa using z
      exact ⟨List.mem_append_right _ (List.mem_append_right _ z'), fun e => hn.2 (e ▸ z')⟩
  have bh' : Same (upd B a (.lst us)) H := fun c u e => by
    by_cases hc : c = a
    · subst hc; rw [upd_same] at e; cases e; exact e3
    · rw [upd_ne hc] at e; exact k.bh c u e
  refine ⟨upd B a (.lst us), _, sb, ⟨⟨k.ext.b.trans sb, k.ext.h, fun c u e n => ?_⟩, bh', q, n1, fun b hb' => ?_⟩⟩
  · by_cases hc : c = a
    · subst hc; exact h0
    · rw [upd_ne hc] at e; exact k.ext.n c u e n
  · obtain ⟨z1, z2⟩ := sub b hb'
    exact ⟨by rw [upd_ne z2]; exact (k.out b z1).1, (k.out b z1).2⟩
end
/-! ### statements -/
inductive Out where
  | nx (ρ : List Ent)
  | rt (x : PyData)
  | rn (xs : List PyData)
  | bk (ρ : List Ent)
  | ct (ρ : List Ent)
structure Fits (X : Cx) (F : Fx) (Bb : Hp) (D : Ends) (Φ : Out → Prop) : Prop where
  nx : ∀ ρ' B' ow' σ' H', Φ (.nx ρ') → Ok X F ρ' B' ow' σ' H' → Same Bb B' → D.nx σ' H'
  bk : ∀ ρ' B' ow' σ' H', Φ (.bk ρ') → Ok X F ρ' B' ow' σ' H' → Same Bb B' → D.bk σ' H'
  ct : ∀ ρ' B' ow' σ' H', Φ (.ct ρ') → Ok X F ρ' B' ow' σ' H' → Same Bb B' → D.ct σ' H'
  rt : ∀ x B' H' u, Φ (.rt x) → Ext F.B0 F.H0 B' H' → Same B' H' → Dp X.K B' u x → D.rt u H'
  rn : ∀ xs B' H' a us, Φ (.rn xs) → Ext F.B0 F.H0 B' H' → Same B' H' → F.H0 a = none → B' a = none → H' a = some (.lst us) → DpAll X.K B' us xs → D.rt (.ref a) H'
def Ex (X : Cx) (F : Fx) (ρ : List Ent) (ss : List Stmt) (Φ : Out → Prop) : Prop := ∀ B ow σ H D Bb, Ok X F ρ B ow σ H → Same Bb B → Fits X F Bb D Φ → WS X ss D σ H
/-- what is wanted behind the first part of a block -/
def Seq (X : Cx) (F : Fx) (rest : List Stmt) (Φ : Out → Prop) : Out → Prop
  | .nx ρ => Ex X F ρ rest Φ
  | o => Φ o
theorem Fits.seq {X : Cx} {F : Fx} {Bb : Hp} {D : Ends} {Φ : Out → Prop} {rest : List Stmt} (f : Fits X F Bb D Φ) : Fits X F Bb { D with nx := fun σ' H' => WS X rest D σ' H' } (Seq X F rest Φ) :=
  ⟨fun ρ' B' ow' σ' H' h k bb => h B' ow' σ' H' D Bb k bb f, f.bk, f.ct, f.rt, f.rn⟩
section
variable {X : Cx} {F : Fx} {ρ : List Ent} {Φ : Out → Prop} {ss rest a b body : List Stmt} {e c it tg : Expr} {x y z : PyData} {xs ys : List PyData} {pos p2 : Pos} {i : Nat} {e0 : Ent} {n : Str}
theorem ex_nil (h : Φ (.nx ρ)) : Ex X F ρ [] Φ := fun B ow σ H D Bb k bb f => ws_of pss_nil (f.nx ρ B ow σ H h k bb)
theorem ex_mono {Φ' : Out → Prop} (h : Ex X F ρ ss Φ') (hi : ∀ o, Φ' o → Φ o) : Ex X F ρ ss Φ := fun B ow σ H D Bb k bb f =>
  h B ow σ H D Bb k bb ⟨fun ρ' B' ow' σ' H' p => f.nx ρ' B' ow' σ' H' (hi _ p), fun ρ' B' ow' σ' H' p => f.bk ρ' B' ow' σ' H' (hi _ p), fun ρ' B' ow' σ' H' p => f.ct ρ' B' ow' σ' H' (hi _ p), fun x B' H' u p => f.rt x B' H' u (hi _ p), fun xs B' H' a us p => f.rn xs B' H' a us (hi _ p)⟩
theorem ex_freeze (i : Nat) (hr : Ex X F (ρ.set i (.d (.list xs))) ss Φ) (hi : ρ[i]? = some (.own xs) := by rfl) : Ex X F ρ ss Φ := fun B ow σ H D Bb k bb f => by
  obtain ⟨B', ow', sb, k'⟩ := k.freeze hi
  exact hr B' ow' σ H D Bb k' (bb.trans sb) f
/-- a slot forgotten -/
theorem ex_un (i : Nat) (hr : Ex X F (ρ.set i .un) ss Φ) (hi : ρ[i]? = some e0 := by rfl) : Ex X F ρ ss Φ := fun B ow σ H D Bb k bb f => by
  obtain ⟨o0, l0, pre, post, h1, _⟩ := slots_lens k.sl hi
  obtain ⟨ow', k', _⟩ := k.put hi (e := .un) (o := o0) rfl
  have eσ : σ.set i o0 = σ := by
    apply List.ext_getElem?
    intro m
    by_cases hm : i = m
    · subst hm
      have hl : i < σ.length := (List.getElem?_eq_some_iff.mp h1).1
      rw [List.getElem?_set_self hl, h1]
    · rw [List.getElem?_set_ne hm]
  rw [eσ] at k'
  exact hr B ow' σ H D Bb k' bb f
theorem ex_set (i : Nat) (he : EvD X F ρ e x) (hr : Ex X F (ρ.set i (.d x)) rest Φ) (hN : X.N.Nodup) (hi : ρ[i]? = some e0 := by rfl) (hn : X.N[i]? = some n := by rfl) (hx : Loc X.env.scope n := by first | exact Or.inl rfl | exact Or.inr rfl)
    (hs : swapsWith e (some (.Name n p2)) pos.line X.env = pure false := by rfl) (hf : X.fn n = true ∨ X.env.scope.names.lookup n = some .local := by first | exact .inl rfl | exact .inr rfl) : Ex X F ρ (.Assign [.Name n p2] e pos :: rest) Φ := fun B ow σ H D Bb k bb f => by
  refine ws_cons (ps_set (i := i) hN hn hx pe_we hs hf) ?_
  refine he B ow σ H _ k fun B' H' u e1 s1 d1 => ?_
  obtain ⟨ow', k', _⟩ := (k.grow e1 s1).put hi (e := .d x) (o := some u) ⟨rfl, u, rfl, d1⟩
  exact hr B' ow' _ H' D Bb k' (bb.trans e1.b) f
theorem ex_setN (i : Nat) (he : EvN X F ρ e xs) (hr : Ex X F (ρ.set i (.own xs)) rest Φ) (hN : X.N.Nodup) (hi : ρ[i]? = some e0 := by rfl) (hn : X.N[i]? = some n := by rfl) (hx : Loc X.env.scope n := by first | exact Or.inl rfl | exact Or.inr rfl)
    (hs : swapsWith e (some (.Name n p2)) pos.line X.env = pure false := by rfl) (hf : X.fn n = true ∨ X.env.scope.names.lookup n = some .local := by first | exact .inl rfl | exact .inr rfl) : Ex X F ρ (.Assign [.Name n p2] e pos :: rest) Φ := fun B ow σ H D Bb k bb f => by
  refine ws_cons (ps_set (i := i) hN hn hx pe_we hs hf) ?_
  refine he B ow σ H _ k fun B' H' u e1 s1 ⟨p, us, h1, h2, h3, h4, h5⟩ => ?_
  subst h1
  obtain ⟨ow', k'⟩ := (k.grow e1 s1).putN hi h2 h4 (k.ext.h.free h3) (fun hp => by
    obtain ⟨vs, q⟩ := k.sl.lst _ hp
    rw [h3] at q; cases q) h5
  exact hr B' ow' _ H' D Bb k' (bb.trans e1.b) f
theorem ex_if {r : Bool} (hc : EvT X F ρ c r) (ha : r = true → Ex X F ρ a (Seq X F rest Φ)) (hb : r = false → Ex X F ρ b (Seq X F rest Φ)) : Ex X F ρ (.If c a b pos :: rest) Φ := fun B ow σ H D Bb k bb f => by
  refine ws_cons (ps_if pt_wt ps_ws ps_ws) ?_
  refine hc B ow σ H _ k fun B1 H1 e1 s1 => ?_
  cases r with
  | true => exact iteT (ha rfl B1 ow σ H1 _ Bb (k.grow e1 s1) (bb.trans e1.b) f.seq)
  | false => exact iteF (hb rfl B1 ow σ H1 _ Bb (k.grow e1 s1) (bb.trans e1.b) f.seq)
theorem ex_ret (he : EvD X F ρ e x) (h : Φ (.rt x)) : Ex X F ρ (.Return (some e) pos :: rest) Φ := fun B ow σ H D Bb k bb f => by
  refine ws_cons (ps_ret pe_we) ?_
  exact he B ow σ H _ k fun B' H' u e1 s1 d1 => f.rt x B' H' u h (k.ext.trans e1) s1 d1
theorem ex_retN (he : EvN X F ρ e xs) (h : Φ (.rn xs)) : Ex X F ρ (.Return (some e) pos :: rest) Φ := fun B ow σ H D Bb k bb f => by
  refine ws_cons (ps_ret pe_we) ?_
  exact he B ow σ H _ k fun B' H' u e1 s1 ⟨p, us, h1, h2, h3, h4, h5⟩ => by
    subst h1
    exact f.rn xs B' H' p us h (k.ext.trans e1) s1 (k.ext.h.free h3) h4 h2 h5
/-- return of one's own list -/
theorem ex_retO (i : Nat) (h : Φ (.rn xs)) (hi : ρ[i]? = some (.own xs) := by rfl) (hN : X.N[i]? = some n := by rfl) (hv : Vis X.env.scope n := by first | exact Or.inl rfl | exact Or.inr (Or.inl rfl) | exact Or.inr (Or.inr rfl))
    (hd : (n == ("__debug__" : Str)) = false := by decide) (hcd : (n == ("__classdict__" : Str)) = false := by decide) : Ex X F ρ (.Return (some (.Name n p2)) pos :: rest) Φ := fun B ow σ H D Bb k bb f => by
  obtain ⟨a, us, h1, h2, h3, h4, h5, _⟩ := k.write hi
  refine ws_cons (ps_ret (pe_var hN hv hd hcd)) ?_
  exact ⟨_, h1, f.rn xs B H a us h k.ext k.bh h4 h3 h2 h5⟩
theorem ex_retNone (h : Φ (.rt .none)) : Ex X F ρ (.Return none pos :: rest) Φ := fun B ow σ H D Bb k bb f => by
  refine ws_cons ps_retN ?_
  exact f.rt .none B H .non h k.ext k.bh .non
theorem ex_pass (hr : Ex X F ρ rest Φ) : Ex X F ρ (.Pass pos :: rest) Φ := fun B ow σ H D Bb k bb f => ws_cons ps_pass (hr B ow σ H D Bb k bb f)
theorem ex_break (h : Φ (.bk ρ)) : Ex X F ρ (.Break pos :: rest) Φ := fun B ow σ H D Bb k bb f => ws_cons ps_break (f.bk ρ B ow σ H h k bb)
theorem ex_cont (h : Φ (.ct ρ)) : Ex X F ρ (.Continue pos :: rest) Φ := fun B ow σ H D Bb k bb f => ws_cons ps_continue (f.ct ρ B ow σ H h k bb)
theorem ex_expr (he : EvD X F ρ e x) (hr : Ex X F ρ rest Φ) (hs : swapsWith e none pos.line X.env = pure false := by rfl) : Ex X F ρ (.Expr e pos :: rest) Φ := fun B ow σ H D Bb k bb f => by
  refine ws_cons (ps_expr pe_we hs) ?_
  exact he B ow σ H _ k fun B' H' u e1 s1 d1 => hr B' ow σ H' D Bb (k.grow e1 s1) (bb.trans e1.b) f
theorem ex_exprX (he : EvX X F ρ e) (hs : swapsWith e none pos.line X.env = pure false := by rfl) : Ex X F ρ (.Expr e pos :: rest) Φ := fun B ow σ H D Bb k bb f => ws_cons (ps_expr pe_we hs) (he B ow σ H _ k)
theorem ex_retX (he : EvX X F ρ e) : Ex X F ρ (.Return (some e) pos :: rest) Φ := fun B ow σ H D Bb k bb f => ws_cons (ps_ret pe_we) (he B ow σ H _ k)
theorem ex_setX (i : Nat) (he : EvX X F ρ e) (hN : X.N.Nodup) (hn : X.N[i]? = some n := by rfl) (hx : Loc X.env.scope n := by first | exact Or.inl rfl | exact Or.inr rfl)
    (hs : swapsWith e (some (.Name n p2)) pos.line X.env = pure false := by rfl) (hf : X.fn n = true ∨ X.env.scope.names.lookup n = some .local := by first | exact .inl rfl | exact .inr rfl) : Ex X F ρ (.Assign [.Name n p2] e pos :: rest) Φ := fun B ow σ H D Bb k bb f => ws_cons (ps_set (i := i) hN hn hx pe_we hs hf) (he B ow σ H _ k)

/-! one's own lists changed -/
theorem ex_append (i : Nat) {apos cpos npos : Pos} (he : EvD X F ρ e y) (hz : xs.length < sizeLine) (hr : Ex X F (ρ.set i (.own (xs ++ [y]))) rest Φ) (hi : ρ[i]? = some (.own xs) := by rfl) (hN : X.N[i]? = some n := by rfl) (hv : Vis X.env.scope n := by first | exact Or.inl rfl | exact Or.inr (Or.inl rfl) | exact Or.inr (Or.inr rfl))
    (hd : (n == ("__debug__" : Str)) = false := by decide) (hcd : (n == ("__classdict__" : Str)) = false := by decide)
    (hbase : attributeBase (.Name n npos) "append" X.env (eval (.Name n npos) X.env) = eval (.Name n npos) X.env := by rfl)
    (hfew : ((backTo cpos (starEach (e :: []) X.env)).all (fun x => !x.1) && (backToKw cpos (keywordEach [] X.env)).all (fun x => x.1.isSome)
      && decide ((e :: []).length + ([] : List Keyword).length + (if ([] : List Keyword).isEmpty then 0 else 1) < 30)) = true := by rfl)
    (hline : (apos.endLine == cpos.line) = true := by rfl) (hs : starEach (e :: []) X.env = (false, eval e X.env) :: starEach [] X.env := by rfl) (hplain : (backTo cpos (starEach [] X.env)).any (·.1) = false := by rfl)
    (hsw : swapsWith (.Call (.Attribute (.Name n npos) "append" apos) [e] [] cpos) none pos.line X.env = pure false := by rfl) :
    Ex X F ρ (.Expr (.Call (.Attribute (.Name n npos) "append" apos) [e] [] cpos) pos :: rest) Φ := fun B ow σ H D Bb k bb f => by
  obtain ⟨a, us, h1, h2, h3, h4, h5, _⟩ := k.write hi
  refine ws_cons (ps_expr (pe_bm PySem.F.plainAttrs_list PySem.F.slot_list_append PySem.F.type_list_append mt_append (pe_var hN hv hd hcd) (pa_cons pe_we pa_nil hs) hbase hfew hline hs hplain) hsw) ?_
  refine ⟨_, h1, .inl ⟨rfl, us, SqL.of h2⟩, ?_⟩
  refine he B ow σ H _ k fun B' H' u e1 s1 d1 => ?_
  obtain ⟨a', us', g1, g2, g3, g4, g5, g6⟩ := (k.grow e1 s1).write hi
  rw [h1] at g1
  have ea : a = a' := by cases g1; rfl
  subst ea
  refine ⟨a, us', u, rfl, rfl, g2, by rw [g5.len]; exact hz, ?_⟩
  exact hr B' ow σ _ D Bb (g6 (us' ++ [u]) (xs ++ [y]) (DpAll.append g5 (.cons d1 .nil))) (bb.trans e1.b) f
theorem ex_putI (i : Nat) {ie : Expr} {j : Int} {m : Nat} {spos npos : Pos} (he : EvD X F ρ e y) (hj : EvD X F ρ ie (.int j)) (hm : ixN xs.length j = some m) (hr : Ex X F (ρ.set i (.own (xs.set m y))) rest Φ) (hi : ρ[i]? = some (.own xs) := by rfl) (hN : X.N[i]? = some n := by rfl) (hv : Vis X.env.scope n := by first | exact Or.inl rfl | exact Or.inr (Or.inl rfl) | exact Or.inr (Or.inr rfl))
    (hd : (n == ("__debug__" : Str)) = false := by decide) (hcd : (n == ("__classdict__" : Str)) = false := by decide)
    (ha : ∀ v, assign (.Subscript (.Name n npos) ie spos) X.env v = (do
      let ov ← holding [v] (eval (.Name n npos) X.env)
      let iv ← holding [v, ov] (eval ie X.env)
      standAt spos
      holding [v, ov, iv] (setItem ov iv v)
      release [v, ov, iv] []) := by intro _; rfl)
    (hs : swapsWithSole [.Subscript (.Name n npos) ie spos] e pos.line X.env = pure false := by rfl) (hw : swappedStores [.Subscript (.Name n npos) ie spos] e X.env = pure none := by rfl)
    (h1 : (assignEach [.Subscript (.Name n npos) ie spos] X.env).map (·.2) = [assign (.Subscript (.Name n npos) ie spos) X.env] := by rfl) :
    Ex X F ρ (.Assign [.Subscript (.Name n npos) ie spos] e pos :: rest) Φ := fun B ow σ H D Bb k bb f => by
  refine ws_cons (ps_asg pe_we (pg_sub (pe_var hN hv hd hcd) pe_we set_list ha) hs hw h1) ?_
  refine he B ow σ H _ k fun B1 H1 u e1 s1 d1 => ?_
  have k1 := k.grow e1 s1
  obtain ⟨a, us, g1, _⟩ := k1.write hi
  refine ⟨_, g1, ?_⟩
  refine hj B1 ow σ H1 _ k1 fun B2 H2 v e2 s2 d2 => ?_
  have k2 := k1.grow e2 s2
  obtain ⟨a', us', q1, q2, q3, q4, q5, q6⟩ := k2.write hi
  rw [g1] at q1
  have ea : a = a' := by cases q1; rfl
  subst ea
  refine ⟨a, us', j, m, rfl, dpInt d2, q2, by rw [q5.len]; exact hm, ?_⟩
  exact hr B2 ow σ _ D Bb (q6 (us'.set m u) (xs.set m y) (DpAll.set (Dp.to d1 e2.b) m q5)) ((bb.trans e1.b).trans e2.b) f

/-! ### targets, walks -/
def WG (X : Cx) (tg : Expr) : TG := fun v σ H Q => ∀ (pins : List (Addr × Obj)) (s : Shared) (u : Value), Inv X pins σ H s → RelV v u → wpAny (model X.prog X.w) X.A (assign tg X.env u) (fun _ s' => ∃ σ' H', Inv X pins σ' H' s' ∧ Q σ' H') X.xe s
theorem pg_wg : PG X tg (WG X tg) := ⟨fun pins s σ H v u Q I r h => h pins s u I r⟩
theorem wg_of {g : TG} (h : PG X tg g) {v : V} {σ : St} {H : Hp} {Q : St → Hp → Prop} (q : g v σ H Q) : WG X tg v σ H Q := fun pins s u I r => h.run pins s σ H v u Q I r q
/-- what storing the data x to the target makes of the slots; is: the slots stored -/
def Tg (X : Cx) (F : Fx) (tg : Expr) (is : List Nat) (x : PyData) (ρ ρ' : List Ent) : Prop := ∀ B ow σ H v Q, Ok X F ρ B ow σ H → Dp X.K B v x → (∀ ow' σ', Ok X F ρ' B ow' σ' H → wipe σ' is = wipe σ is → (∀ a ∈ ow', a ∈ ow) → Q σ' H) → WG X tg v σ H Q
theorem wipe_set1 {σ : St} {i : Nat} {o : Option V} : wipe (σ.set i o) [i] = wipe σ [i] := by
  show (σ.set i o).set i none = σ.set i none
  rw [List.set_set]
theorem tg_name (i : Nat) {p : Pos} (hN : X.N.Nodup) (hi : ρ[i]? = some e0 := by rfl) (hn : X.N[i]? = some n := by rfl) (hx : Loc X.env.scope n := by first | exact Or.inl rfl | exact Or.inr rfl)
    (hf : X.fn n = true ∨ X.env.scope.names.lookup n = some .local := by first | exact .inl rfl | exact .inr rfl) : Tg X F (.Name n p) [i] x ρ (ρ.set i (.d x)) := fun B ow σ H v Q k d q => by
  refine wg_of (pg_name (i := i) hN hn hx hf) ?_
  obtain ⟨ow', k', sub⟩ := k.put hi (e := .d x) (o := some v) ⟨rfl, v, rfl, d⟩
  exact q ow' _ k' wipe_set1 sub
theorem wipe_set2 {σ : St} {i j : Nat} {o o' : Option V} : wipe ((σ.set i o).set j o') [i, j] = wipe σ [i, j] := by
  show ((((σ.set i o).set j o').set j none).set i none) = ((σ.set j none).set i none)
  rw [List.set_set]
  by_cases h : i = j
  · subst h
    rw [List.set_set, List.set_set, List.set_set]
  · rw [List.set_comm _ _ h, List.set_set]
theorem tg_pair (i j : Nat) {m : Str} {k0 : Nat} {p q p3 : Pos} {e1 : Ent} (hc : X.calm = true) (hN : X.N.Nodup) (hi : ρ[i]? = some e0 := by rfl) (hj : (ρ.set i (.d x))[j]? = some e1 := by rfl) (hn : X.N[i]? = some n := by rfl) (hm : X.N[j]? = some m := by rfl)
    (hx : Loc X.env.scope n := by first | exact Or.inl rfl | exact Or.inr rfl) (hx' : Loc X.env.scope m := by first | exact Or.inl rfl | exact Or.inr rfl)
    (hf : X.fn n = true ∨ X.env.scope.names.lookup n = some .local := by first | exact .inl rfl | exact .inr rfl) (hf' : X.fn m = true ∨ X.env.scope.names.lookup m = some .local := by first | exact .inl rfl | exact .inr rfl)
    (hs1 : (assignEach [.Name n p, .Name m q] X.env).map (·.2) = assign (.Name n p) X.env :: (assignEach [.Name m q] X.env).map (·.2) := by rfl)
    (hs2 : (assignEach [.Name m q] X.env).map (·.2) = assign (.Name m q) X.env :: (assignEach [] X.env).map (·.2) := by rfl)
    (hl : (assignEach [.Name n p, .Name m q] X.env).length = 2 := by rfl) (hst : (assignEach [.Name n p, .Name m q] X.env).findIdx? (·.1) = none := by rfl) :
    Tg X F (.Tuple [.Name n p, .Name m q] k0 p3) [i, j] (.tuple [x, y]) ρ ((ρ.set i (.d x)).set j (.d y)) := fun B ow σ H v Q k d q => by
  refine wg_of (pg_tup (n := 2) hc (pgs_cons (pg_name (i := i) hN hn hx hf) (pgs_cons (pg_name (i := j) hN hm hx' hf') pgs_nil hs2) hs1) hl hst) ?_
  cases d with
  | tup h1 h2 =>
    obtain ⟨u, w, rfl, d1, d2⟩ := dp2 h2
    obtain ⟨ow1, k1, sub1⟩ := k.put hi (e := .d x) (o := some u) ⟨rfl, u, rfl, d1⟩
    obtain ⟨ow2, k2, sub2⟩ := k1.put hj (e := .d y) (o := some w) ⟨rfl, w, rfl, d2⟩
    exact ⟨_, _, rfl, seqT k.bh h1, rfl, u, [w], rfl, w, [], rfl, rfl, q ow2 _ k2 wipe_set2 fun b hb => sub1 b (sub2 b hb)⟩
/-- an iterator that gives the items -/
def Serves (X : Cx) (J : It) (B : Hp) (items : List PyData) : Prop := (∀ B1 H, Same B B1 → Same B1 H → J.stop items.length H) ∧
  ∀ i x B1 H, Same B B1 → Same B1 H → items[i]? = some x → J.go i H ∧ ∀ v H', J.yld i H v H' → ∃ B', Ext B1 H B' H' ∧ Same B' H' ∧ Dp X.K B' v x
def WI (X : Cx) (tg iter : Expr) : TI := fun σ H R => ∀ (pins : List (Addr × Obj)) (s : Shared), Inv X pins σ H s → wpAny (model X.prog X.w) X.A (eval iter X.env) (fun v s1 => wpAny (model X.prog X.w) X.A (pyIter v) (PIE X pins σ tg R) X.xe s1) X.xe s
theorem pi_wi {iter : Expr} : PI X tg iter (WI X tg iter) := ⟨fun pins s σ H R I h => h pins s I⟩
theorem wi_of {iter : Expr} {t : TI} (h : PI X tg iter t) {σ : St} {H : Hp} {R : It → Hp → Prop} (q : t σ H R) : WI X tg iter σ H R := fun pins s I => h.run pins s σ H R I q
def Wk (X : Cx) (F : Fx) (ρ : List Ent) (tg iter : Expr) (items : List PyData) : Prop := ∀ B ow σ H R, Ok X F ρ B ow σ H → (∀ J B' H', Ext B H B' H' → Same B' H' → Serves X J B' items → R J H') → WI X tg iter σ H R
theorem wk_list {iter : Expr} (h : EvD X F ρ iter (.list xs)) : Wk X F ρ tg iter xs := fun B ow σ H R k q => by
  refine wi_of (pi_list pe_we) ?_
  refine h B ow σ H _ k fun B1 H1 u e1 s1 d1 => ?_
  cases d1 with
  | lst h1 h2 =>
    refine ⟨_, rfl, ⟨_, s1.seq h1⟩, q _ B1 H1 e1 s1 ⟨fun B2 H2 sb sh => ⟨_, (sb.trans sh).seq h1, by rw [h2.len]; exact Nat.le_refl _⟩, fun i x B2 H2 sb sh hx => ?_⟩⟩
    obtain ⟨v, hv, dv⟩ := h2.at hx
    refine ⟨⟨_, v, (sb.trans sh).seq h1, hv⟩, fun v' H' ⟨eH, hy⟩ => ?_⟩
    subst eH
    have ev : v' = v := Option.some.inj ((hy _ ((sb.trans sh).seq h1)).symm.trans hv)
    subst ev
    exact ⟨B2, Ext.refl _ _, sh, Dp.to dv sb⟩
theorem wk_tup {iter : Expr} (h : EvD X F ρ iter (.tuple xs)) : Wk X F ρ tg iter xs := fun B ow σ H R k q => by
  refine wi_of (pi_tup pe_we) ?_
  refine h B ow σ H _ k fun B1 H1 u e1 s1 d1 => ?_
  cases d1 with
  | tup h1 h2 =>
    refine ⟨_, rfl, ⟨_, seqT s1 h1⟩, q _ B1 H1 e1 s1 ⟨fun B2 H2 sb sh => ⟨_, seqT (sb.trans sh) h1, by rw [h2.len]; exact Nat.le_refl _⟩, fun i x B2 H2 sb sh hx => ?_⟩⟩
    obtain ⟨v, hv, dv⟩ := h2.at hx
    refine ⟨⟨_, v, seqT (sb.trans sh) h1, hv⟩, fun v' H' ⟨eH, hy⟩ => ?_⟩
    subst eH
    have ev : v' = v := Option.some.inj ((hy _ (seqT (sb.trans sh) h1)).symm.trans hv)
    subst ev
    exact ⟨B2, Ext.refl _ _, sh, Dp.to dv sb⟩
/-- lo, lo + 1, .. -/
def upFrom (lo : Int) (m : Nat) : List PyData := (List.range m).map fun k => PyData.int (lo + (k : Nat))
theorem upFrom_len {lo : Int} {m : Nat} : (upFrom lo m).length = m := by unfold upFrom; rw [List.length_map, List.length_range]
theorem serves_range {B : Hp} {lo : Int} {m : Nat} : Serves X (Itr lo m) B (upFrom lo m) := ⟨fun B1 H _ _ => by rw [upFrom_len]; exact Nat.le_refl _, fun i x B1 H sb sh hx => by
  unfold upFrom at hx
  rw [List.getElem?_map] at hx
  by_cases hi : i < m
  · rw [List.getElem?_range hi] at hx
    have ex : PyData.int (lo + (i : Nat)) = x := Option.some.inj hx
    subst ex
    refine ⟨hi, fun v H' ⟨e1, e2⟩ => ?_⟩
    subst e1 e2
    exact ⟨B1, Ext.refl _ _, sh, .int _⟩
  · rw [List.getElem?_eq_none (by rw [List.length_range]; omega)] at hx
    cases hx⟩
theorem wk_range1 {p : Pos} {j : Int} (hg : Gl X "range") (hm : X.mg "range" = none) (h : EvD X F ρ e (.int j)) (h1 : -(2 ^ 62) ≤ j) (h2 : j < 2 ^ 62) (hs : starEach [e] X.env = [(false, eval e X.env)] := by rfl) (hs1 : starEach [e] X.env = (false, eval e X.env) :: starEach [] X.env := by rfl) : Wk X F ρ tg (.Call (.Name "range" p) [e] [] pos) (upFrom 0 j.toNat) := fun B ow σ H R k q => by
  refine wi_of (pi_range1 hg hm (pa_cons pe_we pa_nil hs1) hs) ?_
  refine h B ow σ H _ k fun B1 H1 u e1 s1 d1 => ?_
  exact ⟨j, by rw [dpInt d1], h1, h2, q _ B1 H1 e1 s1 serves_range⟩
theorem wk_range2 {e' : Expr} {p : Pos} {i j : Int} (hg : Gl X "range") (hm : X.mg "range" = none) (h : EvD X F ρ e (.int i)) (h' : EvD X F ρ e' (.int j)) (hb : -(2 ^ 62) ≤ i ∧ i < 2 ^ 62 ∧ -(2 ^ 62) ≤ j ∧ j < 2 ^ 62) (hs : starEach [e, e'] X.env = [(false, eval e X.env), (false, eval e' X.env)] := by rfl) (hs2 : starEach [e'] X.env = [(false, eval e' X.env)] := by rfl)
    (ha : starEach [e, e'] X.env = (false, eval e X.env) :: starEach [e'] X.env := by rfl) (ha2 : starEach [e'] X.env = (false, eval e' X.env) :: starEach [] X.env := by rfl) : Wk X F ρ tg (.Call (.Name "range" p) [e, e'] [] pos) (upFrom i (j - i).toNat) := fun B ow σ H R k q => by
  refine wi_of (pi_range2 hg hm (pa_cons pe_we (pa_cons pe_we pa_nil ha2) ha) hs hs2) ?_
  refine h B ow σ H _ k fun B1 H1 u e1 s1 d1 => ?_
  refine h' B1 ow σ H1 _ (k.grow e1 s1) fun B2 H2 v e2 s2 d2 => ?_
  exact ⟨i, j, by rw [dpInt d1, dpInt d2], hb, q _ B2 H2 (e1.trans e2) s2 serves_range⟩

/-! ### for -/
/-- what the body of a loop is to reach -/
def Turn (Iv : Nat → List Ent → Prop) (k : Nat) (X : Cx) (F : Fx) (rest : List Stmt) (Φ : Out → Prop) : Out → Prop
  | .nx ρ => Iv (k + 1) ρ
  | .ct ρ => Iv (k + 1) ρ
  | .bk ρ => Ex X F ρ rest Φ
  | o => Φ o
theorem ex_for {iter : Expr} {items : List PyData} (hc : X.calm = true) (hp : PassesOwn (model X.prog X.w) X.A X.env X.xe) (hw : Wk X F ρ tg iter items) (Iv : Nat → List Ent → Prop) (h0 : Iv 0 ρ)
    (hs : ∀ k x ρ1, items[k]? = some x → Iv k ρ1 → ∃ is ρ2, Tg X F tg is x ρ1 ρ2 ∧ Ex X F ρ2 body (Turn Iv k X F rest Φ)) (hd : ∀ ρ1, Iv items.length ρ1 → Ex X F ρ1 rest Φ)
    (hfs : ∀ x, foldedSetIterable iter X.env x = pure x := by intro _; rfl) : Ex X F ρ (.For tg iter body [] pos :: rest) Φ := fun B ow σ H D Bb k bb f => by
  refine ws_cons (ps_for hp hc pi_wi pg_wg ps_ws hfs) ?_
  refine hw B ow σ H _ k fun J B1 H1 e1 s1 sv => ?_
  refine ⟨fun i m σ' H' => m = items.length - i ∧ i ≤ items.length ∧ ∃ ρ' B' ow', Iv i ρ' ∧ Same B1 B' ∧ Ok X F ρ' B' ow' σ' H', ⟨items.length, by simp, Nat.zero_le _, ρ, B1, ow, h0, Same.refl _, k.grow e1 s1⟩, ?_⟩
  rintro i m σ' H' ⟨rfl, hi, ρ', B', ow', hI, sb, k'⟩
  by_cases hlt : i < items.length
  · have hx : items[i]? = some items[i] := List.getElem?_eq_getElem hlt
    obtain ⟨hgo, hyl⟩ := sv.2 i items[i] B' H' sb k'.bh hx
    obtain ⟨is, ρ2, ht, hb⟩ := hs i items[i] ρ' hx hI
    refine .inr ⟨hgo, fun σ3 H3 => ∃ ρ3 B3 ow3, Iv (i + 1) ρ3 ∧ Same B1 B3 ∧ Ok X F ρ3 B3 ow3 σ3 H3, fun σ3 H3 ⟨ρ3, B3, ow3, a1, a2, a3⟩ => ⟨items.length - (i + 1), by omega, rfl, hlt, ρ3, B3, ow3, a1, a2, a3⟩, fun v H2 hy => ?_⟩
    obtain ⟨B2, e2, s2, d2⟩ := hyl v H2 hy
    refine ht B2 ow' σ' H2 v _ (k'.grow e2 s2) d2 fun ow3 σ3 k3 _ _ => ?_
    refine hb B2 ow3 σ3 H2 _ B1 k3 (sb.trans e2.b) ⟨fun ρ4 B4 ow4 σ4 H4 p k4 s4 => ⟨ρ4, B4, ow4, p, s4, k4⟩, fun ρ4 B4 ow4 σ4 H4 p k4 s4 => p B4 ow4 σ4 H4 D Bb k4 ((bb.trans e1.b).trans s4) f, fun ρ4 B4 ow4 σ4 H4 p k4 s4 => ⟨ρ4, B4, ow4, p, s4, k4⟩, fun y4 B4 H4 u4 p => f.rt y4 B4 H4 u4 p, fun y4 B4 H4 a4 u4 p => f.rn y4 B4 H4 a4 u4 p⟩
  · have e : i = items.length := by omega
    subst e
    exact .inl ⟨sv.1 B' H' sb k'.bh, hd ρ' hI B' ow' σ' H' D Bb k' ((bb.trans e1.b).trans sb) f⟩
/-- while, by an invariant and a measure -/
theorem ex_while (hp : PassesOwn (model X.prog X.w) X.A X.env X.xe) (Iv : Nat → List Ent → Prop) (m0 : Nat) (h0 : Iv m0 ρ)
    (hs : ∀ m ρ1, Iv m ρ1 → ∃ r, EvT X F ρ1 c r ∧ (r = true → Ex X F ρ1 body (fun o => match o with | .nx ρ2 => ∃ m', m' < m ∧ Iv m' ρ2 | .ct ρ2 => ∃ m', m' < m ∧ Iv m' ρ2 | .bk ρ2 => Ex X F ρ2 rest Φ | o => Φ o)) ∧ (r = false → Ex X F ρ1 rest Φ)) :
    Ex X F ρ (.While c body [] pos :: rest) Φ := fun B ow σ H D Bb k bb f => by
  refine ws_cons (ps_while hp pt_wt ps_ws) ?_
  refine ⟨fun m σ' H' => ∃ ρ' B' ow', Iv m ρ' ∧ Same Bb B' ∧ Ok X F ρ' B' ow' σ' H', ⟨m0, ρ, B, ow, h0, bb, k⟩, ?_⟩
  rintro m σ' H' ⟨ρ', B', ow', hI, sb, k'⟩
  obtain ⟨r, ht, h1, h2⟩ := hs m ρ' hI
  refine ht B' ow' σ' H' _ k' fun B2 H2 e2 s2 => ?_
  cases r with
  | true =>
    refine iteT ⟨fun σ3 H3 => ∃ m', m' < m ∧ ∃ ρ3 B3 ow3, Iv m' ρ3 ∧ Same Bb B3 ∧ Ok X F ρ3 B3 ow3 σ3 H3, fun σ3 H3 ⟨m', a0, ρ3, B3, ow3, a1, a2, a3⟩ => ⟨m', a0, ρ3, B3, ow3, a1, a2, a3⟩, ?_⟩
    refine h1 rfl B2 ow' σ' H2 _ Bb (k'.grow e2 s2) (sb.trans e2.b) ⟨fun ρ4 B4 ow4 σ4 H4 ⟨m', hm, p⟩ k4 s4 => ⟨m', hm, ρ4, B4, ow4, p, s4, k4⟩, fun ρ4 B4 ow4 σ4 H4 p k4 s4 => p B4 ow4 σ4 H4 D Bb k4 s4 f, fun ρ4 B4 ow4 σ4 H4 ⟨m', hm, p⟩ k4 s4 => ⟨m', hm, ρ4, B4, ow4, p, s4, k4⟩, fun y4 B4 H4 u4 p => f.rt y4 B4 H4 u4 p, fun y4 B4 H4 a4 u4 p => f.rn y4 B4 H4 a4 u4 p⟩
  | false => exact iteF (h2 rfl B2 ow' σ' H2 D Bb (k'.grow e2 s2) (sb.trans e2.b) f)
end
end Wn

namespace Wn
open PySem PySem.Spec L2
open PyProof.Rows hiding St

/-! ### what a def answers -/
inductive Outc where
  | ret (x : PyData)
  | new (xs : List PyData)
  /-- it raises an error of the class at C with these fields -/
  | exc (C : Addr) (fs : List (Str × PyData))
abbrev SpecD := List PyData → Outc → Prop
def Flds (K : PySem.W.Frag) (B : Hp) : List (Str × V) → List (Str × PyData) → Prop := Paired fun p q => p.1 = q.1 ∧ Dp K B p.2 q.2
def XDict (H H' : Hp) (vs : List (Str × V)) : Option Addr → Prop
  | some a => H a = none ∧ H' a = some (.xd vs)
  | none => vs = []
/-- what is wanted of an answer -/
def Ans (K : PySem.W.Frag) (B H : Hp) (Q : VK) (E : XK) : Outc → Prop
  | .ret x => ∀ B' H' u, Ext B H B' H' → Same B' H' → Dp K B' u x → Q u H'
  | .new xs => ∀ B' H' a us, Ext B H B' H' → Same B' H' → H a = none → B' a = none → H' a = some (.lst us) → DpAll K B' us xs → Q (.ref a) H'
  | .exc C fs => ∀ B' H' d vs, Ext B H B' H' → Same B' H' → XDict H H' vs d → Flds K B' vs fs → E (.ref C) d H'
def spD (K : PySem.W.Frag) (Tb : List Addr) (S : SpecD) : Sp := fun vs H Q E => ∃ B xs o, Same B H ∧ (∀ T ∈ Tb, B T = some (TabX T)) ∧ DpAll K B vs xs ∧ S xs o ∧ Ans K B H Q E o
/-- an error of this class with these fields may leave -/
def Lets (X : Cx) (F : Fx) (C : Addr) (fs : List (Str × PyData)) : Prop := ∀ B' H' d vs, Ext F.B0 F.H0 B' H' → Same B' H' → XDict F.H0 H' vs d → Flds X.K B' vs fs → F.E (.ref C) d H'
/-- what a def's body is to reach -/
def Fin (o : Outc) : Out → Prop
  | .nx _ => o = .ret .none
  | .rt x => o = .ret x
  | .rn xs => o = .new xs ∨ o = .ret (.list xs)
  | _ => False
structure DefOk (P : Program) (w : World) (K : PySem.W.Frag) (mg : Str → Option Value) (base : Heap) (Tb : List Addr) (n : Str) (k : Nat) (S : SpecD) : Prop where
  ex : ∃ f fd ps, FnOk P w K mg base (L2.CX P w) k f fd ps (spD K Tb S) ∧ mg n = some (.ref f) ∧ PySem.W.keepIn K (.ref f) = true ∧ Binds K fd ps []
theorem DefOk.mono {P : Program} {w : World} {K : PySem.W.Frag} {mg : Str → Option Value} {base : Heap} {Tb : List Addr} {n : Str} {j k : Nat} {S : SpecD} (h : DefOk P w K mg base Tb n j S) (l : j ≤ k) : DefOk P w K mg base Tb n k S := by
  obtain ⟨f, fd, ps, a, b, c, d⟩ := h.ex
  exact ⟨f, fd, ps, a.mono l, b, c, d⟩
def ents (n : Nat) (xs : List PyData) : List Ent := xs.map Ent.d ++ List.replicate (n - xs.length) Ent.un
theorem slots_un {K : PySem.W.Frag} {B H : Hp} : ∀ n, Slots K B H (List.replicate n Ent.un) (List.replicate n none) []
  | 0 => .nil
  | n + 1 => .cons (e := .un) (o := none) (l := []) rfl (slots_un n)
theorem slots_args {K : PySem.W.Frag} {B H : Hp} {m : Nat} : ∀ {xs : List PyData} {vs : List V}, DpAll K B vs xs → Slots K B H (xs.map Ent.d ++ List.replicate m Ent.un) (vs.map some ++ List.replicate m none) []
  | _, _, .nil => slots_un m
  | _, _, .cons h t => .cons (e := .d _) (o := some _) (l := []) ⟨rfl, _, rfl, h⟩ (slots_args t)
section
variable {P : Program} {w : World} {K : PySem.W.Frag} {mg : Str → Option Value} {base : Heap}
theorem fn_D {Tb : List Addr} {n q : Str} {st : Stmt} {f : Addr} {fd : FuncData} {N ps : List Str} {k : Nat} {S : SpecD} (Fu : Fun K n q st f fd) (sc : FnScope N ps (defScope st)) (hl : ∀ xs o, S xs o → xs.length = ps.length)
    (hb : ∀ xs o, S xs o → ∀ (cdv : Value) (A : Around) (outer : List Env) (s : Shared) (H : Hp) (E : XK) (B : Hp) (tb : ∀ T ∈ Tb, B T = some (TabX T)), Room k (A.deeper (envOfC q (defScope st) s.heap.objs.size f cdv)) →
      PassesOwn (model P w) (A.deeper (envOfC q (defScope st) s.heap.objs.size f cdv)) (envOfC q (defScope st) s.heap.objs.size f cdv) (cxOf (L2.CX P w) P w K mg base N q (defScope st) f cdv A outer s H E).xe →
      Passes (L2.CX P w) (cxOf (L2.CX P w) P w K mg base N q (defScope st) f cdv A outer s H E) E →
      (∀ C fs, o = .exc C fs → Lets (cxOf (L2.CX P w) P w K mg base N q (defScope st) f cdv A outer s H E) ⟨B, H, E, Tb, tb⟩ C fs) →
      Ex (cxOf (L2.CX P w) P w K mg base N q (defScope st) f cdv A outer s H E) ⟨B, H, E, Tb, tb⟩ (ents N.length xs) (defBody st) (Fin o)) : FnOk P w K mg base (L2.CX P w) (k + 1) f fd ps (spD K Tb S) := by
  refine Fu.okX sc (fun vs H Q E h => ?_) (fun cdv A outer s H vs Q E hr h => ?_)
  · obtain ⟨B, xs, o, _, _, d, hs, _⟩ := h
    rw [d.len]; exact hl xs o hs
  · obtain ⟨B, xs, o, bh, tb, d, hs, hq⟩ := h
    refine ⟨_, ps_ws, ?_⟩
    have hw := hb xs o hs cdv A outer s H E B tb hr (passes_of rfl) (passes_call (takes_of rfl rfl rfl rfl) fun _ _ _ _ z => z) (fun C fs e => by
      subst e
      exact hq)
    refine hw B [] (L2.start N vs) H _ B ⟨Ext.refl _ _, bh, ?_, List.nodup_nil, fun a ha => nomatch ha⟩ (Same.refl _) ⟨fun ρ' B' ow' σ' H' p k' _ => ?_, fun _ _ _ _ _ p => p.elim, fun _ _ _ _ _ p => p.elim, fun x B' H' u p e s' dd => ?_, fun ys B' H' a us p e s' h0 hb' h' dd => ?_⟩
    · unfold ents L2.start
      rw [d.len]
      exact slots_args d
    · have p' : o = .ret .none := p
      subst p'
      exact hq B' H' .non k'.ext k'.bh .non
    · have p' : o = .ret x := p
      subst p'
      exact hq B' H' u e s' dd
    · rcases p with p' | p'
      · subst p'
        exact hq B' H' a us e s' h0 hb' h' dd
      · subst p'
        obtain ⟨e', s''⟩ := e.new h0 hb' h' s'
        exact hq _ H' _ e' s'' (.lst (SqL.of upd_same) (DpAll.to dd (same_new hb')))
end
section
variable {X : Cx} {F : Fx} {ρ : List Ent} {e a : Expr} {es : List Expr} {x : PyData} {xs ys : List PyData} {pos p : Pos} {n : Str} {k : Nat} {S : SpecD}
theorem call_we {r : Outc} {B H : Hp} {ow : List Addr} {σ : L2.St} {Q : VK} {E : XK} (D : DefOk X.prog X.w X.K X.mg X.base F.Tb n k S) (hr : Room k X.A) (hg : Gl X n) (ha : EvA X F ρ (a :: es) xs) (hS : S xs r) (hx : Passes (L2.CX X.prog X.w) X E) (ok : Ok X F ρ B ow σ H)
    (hq : ∀ B1 H1, Ext B H B1 H1 → Same B1 H1 → Ans X.K B1 H1 Q E r)
    (hdb : (n == ("__debug__" : Str)) = false) (he : starEach (a :: es) X.env = (false, eval a X.env) :: starEach es X.env) (hpl : (backTo pos (starEach es X.env)).any (·.1) = false) : WE X (.Call (.Name n p) (a :: es) [] pos) σ H Q := by
  obtain ⟨f, fd, ps, G, hm, kp, hb⟩ := D.ex
  refine we_of (pe_call G hr hg hm kp hb .nil hx pa_wa hdb he hpl) ?_
  refine ha B ow σ H _ ok fun B1 H1 us e1 s1 d1 => ?_
  show spD X.K F.Tb S (us ++ []) H1 Q E
  rw [List.append_nil]
  exact ⟨B1, xs, r, s1, fun T hT => e1.b T _ (ok.ext.b T _ (F.tb T hT)), d1, hS, hq B1 H1 e1 s1⟩
theorem call_we0 {r : Outc} {B H : Hp} {ow : List Addr} {σ : L2.St} {Q : VK} {E : XK} (D : DefOk X.prog X.w X.K X.mg X.base F.Tb n k S) (hr : Room k X.A) (hg : Gl X n) (hS : S [] r) (hx : Passes (L2.CX X.prog X.w) X E) (ok : Ok X F ρ B ow σ H)
    (hq : Ans X.K B H Q E r) (hdb : (n == ("__debug__" : Str)) = false) : WE X (.Call (.Name n p) [] [] pos) σ H Q := by
  obtain ⟨f, fd, ps, G, hm, kp, hb⟩ := D.ex
  refine we_of (pe_call0 G hr hg hm kp hb .nil hx hdb) ?_
  exact ⟨B, [], r, ok.bh, fun T hT => ok.ext.b T _ (F.tb T hT), .nil, hS, hq⟩
/-- a call of a def: its answer -/
theorem ev_call (D : DefOk X.prog X.w X.K X.mg X.base F.Tb n k S) (hr : Room k X.A) (ha : EvA X F ρ (a :: es) xs) (hS : S xs (.ret x)) (hg : Gl X n := by rfl)
    (hdb : (n == ("__debug__" : Str)) = false := by decide) (he : starEach (a :: es) X.env = (false, eval a X.env) :: starEach es X.env := by rfl) (hpl : (backTo pos (starEach es X.env)).any (·.1) = false := by rfl) : EvD X F ρ (.Call (.Name n p) (a :: es) [] pos) x := fun B ow σ H Q ok q =>
  call_we D hr hg ha hS passL ok (fun B1 H1 e1 s1 B' H' u e2 s2 d2 => q B' H' u (e1.trans e2) s2 d2) hdb he hpl
theorem ev_callN (D : DefOk X.prog X.w X.K X.mg X.base F.Tb n k S) (hr : Room k X.A) (ha : EvA X F ρ (a :: es) xs) (hS : S xs (.new ys)) (hg : Gl X n := by rfl)
    (hdb : (n == ("__debug__" : Str)) = false := by decide) (he : starEach (a :: es) X.env = (false, eval a X.env) :: starEach es X.env := by rfl) (hpl : (backTo pos (starEach es X.env)).any (·.1) = false := by rfl) : EvN X F ρ (.Call (.Name n p) (a :: es) [] pos) ys := fun B ow σ H Q ok q =>
  call_we D hr hg ha hS passL ok (fun B1 H1 e1 s1 B' H' b us e2 s2 h1 h2 h3 d2 => q B' H' _ (e1.trans e2) s2 ⟨b, us, rfl, h3, e1.h.free h1, h2, d2⟩) hdb he hpl
theorem ev_callX {C : Addr} {fs : List (Str × PyData)} (D : DefOk X.prog X.w X.K X.mg X.base F.Tb n k S) (hr : Room k X.A) (hx : Passes (L2.CX X.prog X.w) X F.E) (ha : EvA X F ρ (a :: es) xs) (hS : S xs (.exc C fs)) (hE : Lets X F C fs) (hg : Gl X n := by rfl)
    (hdb : (n == ("__debug__" : Str)) = false := by decide) (he : starEach (a :: es) X.env = (false, eval a X.env) :: starEach es X.env := by rfl) (hpl : (backTo pos (starEach es X.env)).any (·.1) = false := by rfl) : EvX X F ρ (.Call (.Name n p) (a :: es) [] pos) := fun B ow σ H Q ok =>
  call_we D hr hg ha hS hx ok (fun B1 H1 e1 s1 B' H' d vs e2 s2 h1 d2 => hE B' H' d vs ((ok.ext.trans e1).trans e2) s2 (by
    cases d with
    | none => exact h1
    | some c => exact ⟨ok.ext.h.free (e1.h.free h1.1), h1.2⟩) d2) hdb he hpl
theorem ev_call0 (D : DefOk X.prog X.w X.K X.mg X.base F.Tb n k S) (hr : Room k X.A) (hS : S [] (.ret x)) (hg : Gl X n := by rfl) (hdb : (n == ("__debug__" : Str)) = false := by decide) : EvD X F ρ (.Call (.Name n p) [] [] pos) x := fun B ow σ H Q ok q =>
  call_we0 D hr hg hS passL ok (fun B' H' u e2 s2 d2 => q B' H' u e2 s2 d2) hdb

/-! ### comprehensions -/
def wipeE (ρ : List Ent) : List Nat → List Ent
  | [] => ρ
  | v :: vs => (wipeE ρ vs).set v .un
theorem slots_wipe {K : PySem.W.Frag} {B H : Hp} {ρ : List Ent} {σ : L2.St} : ∀ (vs : List Nat) {ow : List Addr}, Slots K B H ρ σ ow → ow.Nodup → ∃ ow', Slots K B H (wipeE ρ vs) (wipe σ vs) ow' ∧ ow'.Nodup ∧ ∀ a ∈ ow', a ∈ ow
  | [], ow, h, nd => ⟨ow, h, nd, fun _ z => z⟩
  | v :: vs, ow, h, nd => by
    obtain ⟨ow1, h1, nd1, s1⟩ := slots_wipe vs h nd
    by_cases hv : v < (wipeE ρ vs).length
    · obtain ⟨o0, l0, pre, post, q1, q2, q3, q4⟩ := slots_lens h1 (List.getElem?_eq_getElem hv)
      rw [q2] at nd1
      refine ⟨_, q4 B H .un none [] (Same.refl _) (fun _ _ _ z => z) rfl, (nd_parts nd1).1, fun a ha => s1 a ?_⟩
      rw [q2]
      rcases List.mem_append.mp ha with z | z
      · exact List.mem_append_left _ z
      · exact List.mem_append_right _ (List.mem_append_right _ (by simpa using z))
    · have e1 : (wipeE ρ vs).set v .un = wipeE ρ vs := List.set_eq_of_length_le (by omega)
      have e2 : (wipe σ vs).set v none = wipe σ vs := List.set_eq_of_length_le (by rw [slots_len h1]; omega)
      refine ⟨ow1, ?_, nd1, s1⟩
      show Slots K B H ((wipeE ρ vs).set v .un) ((wipe σ vs).set v none) ow1
      rw [e1, e2]; exact h1
theorem wipe_get {σ : L2.St} : ∀ (vs : List Nat) (i : Nat), (L2.wipe σ vs)[i]? = if i ∈ vs then (σ[i]?).map (fun _ => none) else σ[i]?
  | [], i => by simp [L2.wipe]
  | v :: vs, i => by
    show ((L2.wipe σ vs).set v none)[i]? = _
    rw [List.getElem?_set, wipe_length, wipe_get vs i]
    by_cases h : v = i
    · subst h
      rw [if_pos rfl, if_pos List.mem_cons_self]
      by_cases hl : v < σ.length
      · rw [if_pos hl, List.getElem?_eq_getElem hl]; rfl
      · rw [if_neg hl, List.getElem?_eq_none (by omega)]; rfl
    · rw [if_neg h]
      by_cases hm : i ∈ vs
      · rw [if_pos hm, if_pos (List.mem_cons_of_mem _ hm)]
      · rw [if_neg hm, if_neg (fun z => (List.mem_cons.mp z).elim (fun e => h e.symm) hm)]
theorem wipe_wipe {σ : L2.St} (vs : List Nat) : L2.wipe (L2.wipe σ vs) vs = L2.wipe σ vs := by
  apply List.ext_getElem?
  intro i
  rw [wipe_get vs i, wipe_get vs i]
  by_cases h : i ∈ vs
  · rw [if_pos h, if_pos h, Option.map_map]; rfl
  · rw [if_neg h]
theorem Ok.wipe {X : Cx} {F : Fx} {ρ : List Ent} {B H : Hp} {ow : List Addr} {σ : L2.St} (k : Ok X F ρ B ow σ H) (vs : List Nat) : ∃ ow', Ok X F (wipeE ρ vs) B ow' (L2.wipe σ vs) H ∧ ∀ a ∈ ow', a ∈ ow := by
  obtain ⟨ow', h1, h2, h3⟩ := slots_wipe vs k.sl k.nd
  exact ⟨ow', ⟨k.ext, k.bh, h1, h2, fun a ha => k.out a (h3 a ha)⟩, h3⟩
theorem Ok.to {X X' : Cx} {F : Fx} {ρ : List Ent} {B H : Hp} {ow : List Addr} {σ : L2.St} (k : Ok X F ρ B ow σ H) (e : X'.K = X.K) : Ok X' F ρ B ow σ H := ⟨k.ext, k.bh, by rw [e]; exact k.sl, k.nd, k.out⟩
/-- the context of a comprehension's block -/
structure Blk (X : Cx) (scope : Scope) (X' : Cx) : Prop where
  ex : ∃ (s : Shared) (H : Hp) (C : Addr) (cl : List (Str × Addr)) (fp : List Addr), X' = X.blk s H scope (compEnvC scope cl C X.env) fp
def WF (X : Cx) (ifs : List Expr) : TT := fun σ H Q => ∀ (pins : List (Addr × Obj)) (s : Shared), Inv X pins σ H s → wpAny (model X.prog X.w) X.A (forIn ifs true fun c r => if r = true then do let ok ← isTrue c X.env (eval c X.env); pure (ForInStep.yield ok) else pure (ForInStep.yield r)) (TP X pins σ Q) X.xe s
theorem pts_wf {X : Cx} {ifs : List Expr} : PTs X ifs (WF X ifs) := ⟨fun pins s σ H Q I h => h pins s I⟩
def EvF (X : Cx) (F : Fx) (ρ : List Ent) (ifs : List Expr) (b : Bool) : Prop := ∀ B ow σ H Q, Ok X F ρ B ow σ H → (∀ B' H', Ext B H B' H' → Same B' H' → Q b H') → WF X ifs σ H Q
theorem ef_nil : EvF X F ρ [] true := fun B ow σ H Q ok q pins s I => pts_nil.run pins s σ H Q I (q B H (Ext.refl _ _) ok.bh)
theorem ef_one {c : Expr} {b : Bool} (h : EvT X F ρ c b) : EvF X F ρ [c] b := fun B ow σ H Q ok q pins s I => (pts_one pt_wt).run pins s σ H Q I (h B ow σ H Q ok q)
section
variable {elt tg iter : Expr} {ifs : List Expr} {scope : Scope} {own : List (Str × Nat)} {items : List PyData}
def gAll (X : Cx) (scope : Scope) (tg : Expr) : TG := fun v σ H Q => ∀ X', Blk X scope X' → WG X' tg v σ H Q
def tAll (X : Cx) (scope : Scope) (ifs : List Expr) : TT := fun σ H Q => ∀ X', Blk X scope X' → WF X' ifs σ H Q
def eAll (X : Cx) (scope : Scope) (elt : Expr) : TE := fun σ H Q => ∀ X', Blk X scope X' → WE X' elt σ H Q
/-- one turn of a comprehension: the item, what it gives -/
def LcTurn (X : Cx) (F : Fx) (ρ : List Ent) (scope : Scope) (own : List (Str × Nat)) (tg elt : Expr) (ifs : List Expr) (f : PyData → Option PyData) (x : PyData) : Prop :=
  ∃ ρ' b, (∀ X', Blk X scope X' → Tg X' F tg (own.map (·.2)) x (wipeE ρ (own.map (·.2))) ρ') ∧ (∀ X', Blk X scope X' → EvF X' F ρ' ifs b) ∧ (b = false → f x = none) ∧ (b = true → ∃ y, f x = some y ∧ ∀ X', Blk X scope X' → EvD X' F ρ' elt y)
theorem ext_app {B H B' H' : Hp} {D : Addr} {o o' : HO} (e : Ext B H B' H') (hD : H D = none) (h : H' D = some o) (hb : B' D = none) (s : Same B' H') : Ext B H B' (upd H' D o') ∧ Same B' (upd H' D o') :=
  ⟨⟨e.b, fun b u q => by rw [upd_ne (ne_of_none q hD)]; exact e.h b u q, e.n⟩, fun b u q => by rw [upd_ne (ne_of_none q hb)]; exact s b u q⟩
theorem lc_read {B H : Hp} {ow : List Addr} {σ : L2.St} {Q : VK} (ok : Ok X F ρ B ow σ H) (hw : Wk X F ρ tg iter items) (f : PyData → Option PyData) (hz : items.length ≤ sizeLine) (ht : ∀ x ∈ items, LcTurn X F ρ scope own tg elt ifs f x)
    (hq : ∀ B' H' a us, Ext B H B' H' → Same B' H' → H' a = some (.lst us) → H a = none → B' a = none → DpAll X.K B' us (items.filterMap f) → Q (.ref a) H') :
    tLc (WI X tg iter) (gAll X scope tg) (tAll X scope ifs) (eAll X scope elt) (own.map (·.2)) σ H Q := by
  refine hw B ow σ H _ ok fun J B1 H1 e1 s1 sv => ?_
  intro D hD
  have hDH : H D = none := e1.h.free hD
  have b1D : B1 D = none := s1.free hD
  refine ⟨fun i m H' => m = items.length - i ∧ i ≤ items.length ∧ ∃ B' acc, Ext B H B' H' ∧ Same B' H' ∧ Same B1 B' ∧ H' D = some (.lst acc) ∧ B' D = none ∧ DpAll X.K B' acc ((items.take i).filterMap f), ⟨items.length, by simp, Nat.zero_le _, B1, [], ?_⟩, ?_⟩
  · have e2 : Ext B1 H1 B1 (upd H1 D (.lst [])) := ⟨Same.refl _, same_new hD, fun a o q n => by rw [n] at q; cases q⟩
    exact ⟨e1.trans e2, s1.trans (same_new hD), Same.refl _, upd_same, b1D, by simpa using DpAll.nil⟩
  rintro i m H2 ⟨rfl, hi, B2, acc, e2, s2, sb, h2, b2, d2⟩
  by_cases hlt : i < items.length
  · have hx : items[i]? = some items[i] := List.getElem?_eq_getElem hlt
    obtain ⟨hgo, hyl⟩ := sv.2 i items[i] B2 H2 sb s2 hx
    obtain ⟨ρ', b, htg, htt, hf0, hf1⟩ := ht items[i] (List.getElem_mem hlt)
    have tk : (items.take (i + 1)).filterMap f = (items.take i).filterMap f ++ (f items[i]).toList := by
      rw [List.take_succ, hx, List.filterMap_append]
      have one : ∀ z : PyData, List.filterMap f (some z).toList = (f z).toList := fun z => by
        show List.filterMap f [z] = _
        cases h : f z with
        | none => rw [List.filterMap_cons_none h]; rfl
        | some y => rw [List.filterMap_cons_some h]; rfl
      rw [one]
    refine .inr ⟨hgo, fun H' => ∃ B' acc, Ext B H B' H' ∧ Same B' H' ∧ Same B1 B' ∧ H' D = some (.lst acc) ∧ B' D = none ∧ DpAll X.K B' acc ((items.take (i + 1)).filterMap f), fun H' ⟨B', acc', a1, a2, a3, a4, a5, a6⟩ => ⟨items.length - (i + 1), by omega, rfl, hlt, B', acc', a1, a2, a3, a4, a5, a6⟩, fun v H3 hy => ?_⟩
    obtain ⟨B3, e3, s3, d3⟩ := hyl v H3 hy
    obtain ⟨ow', kw, _⟩ := (ok.grow (e2.trans e3) s3).wipe (own.map (·.2))
    intro X' hX'
    have eK : X'.K = X.K := by obtain ⟨s', H', C, cl, fp, rfl⟩ := hX'.ex; rfl
    refine htg X' hX' B3 ow' _ H3 v _ (kw.to eK) (by rw [eK]; exact d3) fun ow4 σ4 k4 hwp _ => ⟨by rw [hwp, wipe_wipe], ?_⟩
    intro X2 hX2
    have eK2 : X2.K = X.K := by obtain ⟨s', H', C, cl, fp, rfl⟩ := hX2.ex; rfl
    have k5 : Ok X F ρ' B3 ow4 σ4 H3 := k4.to eK.symm
    refine htt X2 hX2 B3 ow4 σ4 H3 _ (k5.to eK2) fun B5 H5 e5 s5 => ?_
    have e25 := (e2.trans e3).trans e5
    have h35 : H5 D = some (.lst acc) := e5.h D _ (e3.h D _ h2)
    have b5D : B5 D = none := e5.out (e3.h D _ h2) (e3.out h2 b2)
    cases b with
    | false =>
      refine iteF ⟨B5, acc, e25, s5, (sb.trans e3.b).trans e5.b, h35, b5D, ?_⟩
      rw [tk, hf0 rfl]
      simpa using DpAll.to d2 (e3.b.trans e5.b)
    | true =>
      obtain ⟨y, hy1, hy2⟩ := hf1 rfl
      refine iteT ?_
      intro X3 hX3
      have eK3 : X3.K = X.K := by obtain ⟨s', H', C, cl, fp, rfl⟩ := hX3.ex; rfl
      refine hy2 X3 hX3 B5 ow4 σ4 H5 _ ((k5.grow e5 s5).to eK3) fun B6 H6 u e6 s6 d6 => ?_
      have h6 : H6 D = some (.lst acc) := e6.h D _ h35
      have b6D : B6 D = none := e6.out h35 b5D
      refine ⟨acc, h6, ?_, ?_⟩
      · have hl := d2.len
        have hl2 : ((items.take i).filterMap f).length ≤ i := Nat.le_trans (List.length_filterMap_le _ _) (by rw [List.length_take]; omega)
        omega
      · obtain ⟨e7, s7⟩ := ext_app (o' := .lst (acc ++ [u])) (e25.trans e6) hDH h6 b6D s6
        refine ⟨B6, acc ++ [u], e7, s7, ((sb.trans e3.b).trans e5.b).trans e6.b, upd_same, b6D, ?_⟩
        rw [tk, hy1]
        refine DpAll.append (DpAll.to d2 ((e3.b.trans e5.b).trans e6.b)) ?_
        rw [eK3] at d6
        exact .cons d6 .nil
  · have e : i = items.length := by omega
    subst e
    refine .inl ⟨sv.1 B2 H2 sb s2, hq B2 H2 D acc e2 s2 h2 hDH b2 ?_⟩
    rw [List.take_length] at d2
    exact d2
theorem pg_all : ∀ (s : Shared) (H : Hp) (C : Addr) (cl : List (Str × Addr)) (fp : List Addr), PG (X.blk s H scope (compEnvC scope cl C X.env) fp) tg (gAll X scope tg) := fun s H C cl fp =>
  ⟨fun pins s' σ H' v u Q I r h => h _ ⟨s, H, C, cl, fp, rfl⟩ pins s' u I r⟩
theorem pt_all : ∀ (s : Shared) (H : Hp) (C : Addr) (cl : List (Str × Addr)) (fp : List Addr), PTs (X.blk s H scope (compEnvC scope cl C X.env) fp) ifs (tAll X scope ifs) := fun s H C cl fp =>
  ⟨fun pins s' σ H' Q I h => h _ ⟨s, H, C, cl, fp, rfl⟩ pins s' I⟩
theorem pe_all : ∀ (s : Shared) (H : Hp) (C : Addr) (cl : List (Str × Addr)) (fp : List Addr), PE (X.blk s H scope (compEnvC scope cl C X.env) fp) elt (eAll X scope elt) := fun s H C cl fp =>
  ⟨fun pins s' σ H' Q I h => h _ ⟨s, H, C, cl, fp, rfl⟩ pins s' I⟩
/-- [elt for tg in iter if ..] -/
theorem ev_lc (f : PyData → Option PyData) (hw : Wk X F ρ tg iter items) (ht : ∀ x ∈ items, LcTurn X F ρ scope own tg elt ifs f x) (hz : items.length ≤ sizeLine) (ok : BlkOk X.N X.env.scope scope own) (hc : X.calm = true) (hN : X.N.Nodup)
    (hs : ∀ x, foldedSetIterable iter X.env x = pure x := by intro _; rfl) : EvN X F ρ (.ListComp elt [⟨tg, iter, ifs, 0⟩] scope pos) (items.filterMap f) := fun B ow σ H Q k q =>
  we_of (pe_lc hc hN pi_wi ok pg_all pt_all pe_all hs) (lc_read k hw f hz ht fun B' H' a us e s h1 h2 h3 h4 => q B' H' _ e s ⟨a, us, rfl, h1, h2, h3, h4⟩)
theorem ex_setLc (i : Nat) {y : Str} {py spos : Pos} {rest : List Stmt} {Φ : Out → Prop} {e0 : Ent} (f : PyData → Option PyData) (hw : Wk X F ρ tg iter items) (ht : ∀ x ∈ items, LcTurn X F ρ scope own tg elt ifs f x) (hr : Ex X F (ρ.set i (.own (items.filterMap f))) rest Φ) (hz : items.length ≤ sizeLine) (ok : BlkOk X.N X.env.scope scope own) (hc : X.calm = true) (hN : X.N.Nodup)
    (hsw : swapsWith (.ListComp elt [⟨tg, iter, ifs, 0⟩] scope pos) (some (.Name y py)) spos.line X.env = pure true) (hi : ρ[i]? = some e0 := by rfl) (hy : X.N[i]? = some y := by rfl) (hyl : X.env.scope.names.lookup y = some .local := by rfl)
    (hs : ∀ x, foldedSetIterable iter X.env x = pure x := by intro _; rfl) : Ex X F ρ (.Assign [.Name y py] (.ListComp elt [⟨tg, iter, ifs, 0⟩] scope pos) spos :: rest) Φ := fun B ow σ H D Bb k bb fit =>
  ws_cons (ps_setLc hc hN hy hyl hsw pi_wi ok pg_all pt_all pe_all hs) (lc_read k hw f hz ht fun B' H' a us e s h1 h2 h3 h4 => by
    obtain ⟨ow', k'⟩ := (k.grow e s).putN hi h1 h3 (k.ext.h.free h2) (fun hp => by
      obtain ⟨vs, q⟩ := k.sl.lst _ hp
      rw [h2] at q; cases q) h4
    exact hr B' ow' _ H' D Bb k' (bb.trans e.b) fit)
end
end
end Wn

/-! own error classes over ValueError, of any depth, whose __init__ says super().__init__(text) and keeps its argument -/
namespace Wn
open PySem PySem.Spec L2 PySem.W
open PyProof.Rows hiding St

section
variable {P : Program} {w : World} {K : PySem.W.Frag} {mg : Str → Option Value} {base : Heap}
abbrev sEnv (q : Str) (sc : Scope) (L f : Addr) (cda cc : Addr) : Env := ksEnv q sc L f (.ref cda) cc
def cxI (P : Program) (w : World) (K : PySem.W.Frag) (mg : Str → Option Value) (base : Heap) (N : List Str) (q : Str) (sc : Scope) (f cda cc : Addr) (A : Around) (outer : List Env) (s : Shared) (H : Hp) : Cx where
  prog := P
  w := w
  K := K
  mg := mg
  base := base
  A := A.deeper (sEnv q sc s.heap.objs.size f cda cc)
  N := N
  s_0 := s
  H_0 := H
  env := sEnv q sc s.heap.objs.size f cda cc
  outer := outer
  stack := sEnv q sc s.heap.objs.size f cda cc :: outer
  ex := []
  fn := fun _ => false
  calm := true
  pn := []
  xe := fun _ _ => False
/-- the scope of such an __init__ -/
structure IScope (fld : Str) (sc : Scope) : Prop where
  kind : sc.kind = .function
  co : sc.isCoroutine = false
  gen : sc.isGenerator = false
  nocell : ∀ x ∈ sc.names, x.2 ≠ .cell
  free : ∀ x ∈ sc.names, x.2 = .free → x.1 = "__class__"
  self : sc.names.lookup ("self" : Str) = some .local
  hfld : sc.names.lookup fld = some .local
  ne : fld ≠ "self"
  sup : sc.names.lookup ("super" : Str) = some .globalImplicit
  cls : sc.names.lookup ("__class__" : Str) = some .free
theorem cells1 {cc c : Addr} {x : Str} (h : ([(("__class__" : Str), cc)] : List (Str × Addr)).lookup x = some c) : x = "__class__" ∧ c = cc := by
  rw [List.lookup_cons] at h
  by_cases e : x = "__class__"
  · subst e
    simp at h
    exact ⟨rfl, h.symm⟩
  · have hb : (x == ("__class__" : Str)) = false := beq_eq_false_iff_ne.mpr e
    rw [hb] at h
    simp at h
theorem inv_init {fld q : Str} {sc : Scope} {f cda cc D : Addr} {A : Around} {outer : List Env} {s : Shared} {h1 : Heap} {H : Hp} {x y : V} {u v : Value} {oc : Value} {od : Option Addr} {osl : Array (Option Value)} (S : IScope fld sc) (hd : A.handled = none) (e0 : Env0 P w K mg base A outer s H)
    (hcell : K.lookup cc = some ⟨oc, od, .cell (some (.ref D)), osl⟩) (rx : RelV x u) (ry : RelV y v) (hns : h1.Ns s.heap.objs.size (fun n => (([("self" : Str), fld]).zip [u, v]).reverse.lookup n)) (hk : ∀ b o, s.heap.get? b = some o → h1.get? b = some o) {tk : Nat} :
    Inv (cxI P w K mg base ["self", fld] q sc f cda cc A outer s H) [] [some x, some y] H { s with heap := h1, toks := tk } := by
  have KX : K.In s.heap := e0.mod.kin.keeps fun b o e => (e0.bs b o e).1
  have isF : ∀ n, (sc.names.lookup n = some .cell ∨ sc.names.lookup n = some .free) → n = "__class__" := fun n hn => by
    rcases hn with z | z
    · exact absurd rfl (S.nocell _ (PySem.mem_of_lookup z))
    · exact S.free _ (PySem.mem_of_lookup z) rfl
  refine ⟨⟨e0.mod, S.kind, rfl, rfl, Nat.le_refl _, fun a b c h1 h2 => ?_, fun n hn => ?_, fun n c hf _ => (by cases hf), fun _ => hd, Around.frames_deeper e0.frames, .inr ⟨rfl, rfl⟩, fun b z => (by cases z), e0.bs, e0.bsz, fun b o _ z => (by cases z), fun b z => (by cases z), e0.funs, e0.frf⟩,
    rfl, e0.bare, Un.kept hk, ⟨_, hns, fun i n z h1 h2 h3 => ?_⟩, fun n c h => ?_, e0.hok.fresh (Nat.le_refl _), fun n c h => ?_, fun p hp => (by cases hp), e0.hok.kept hk, rfl⟩
  · exact (cells1 h1).1.trans (cells1 h2).1.symm
  · have hn' : n = "__class__" := isF n hn
    subst hn'
    exact ⟨cc, by show List.lookup _ [(_, cc)] = _; simp⟩
  · match i, h1, h2 with
    | 0, h1, h2 =>
      cases h1; cases h2
      refine ⟨u, rx, .inl ⟨S.self, ?_⟩⟩
      show List.lookup ("self" : Str) [(fld, v), ("self", u)] = some u
      have hb : (("self" : Str) == fld) = false := beq_eq_false_iff_ne.mpr (Ne.symm S.ne)
      rw [List.lookup_cons, hb]
      simp
    | 1, h1, h2 =>
      cases h1; cases h2
      refine ⟨v, ry, .inl ⟨S.hfld, ?_⟩⟩
      show List.lookup fld [(fld, v), ("self", u)] = some v
      simp
    | i + 2, h1, h2 => simp at h2
  · obtain ⟨_, rfl⟩ := cells1 h
    exact ⟨_, _, hk _ _ (KX _ _ hcell), rfl⟩
  · obtain ⟨_, rfl⟩ := cells1 h
    exact (e0.bs _ _ (e0.mod.kin _ _ hcell)).2
/-- what K tells of an own error class with such an __init__ -/
structure ErrT (P : Program) (K : PySem.W.Frag) (mg : Str → Option Value) (q fld : Str) (st : Stmt) (C : Addr) (fI : Addr) (fd : FuncData) : Prop where
  ex : ∃ (oc : Value) (od : Option Addr) (kV doc pm : Value) (an : Option Addr) (cda cc : Addr) (ct : Value) (osl : Array (Option Value)) (o1 o2 : Value) (d1 d2 : Option Addr) (s1 s2 : Array (Option Value)) (vs : Array Value) (file : Str) (tf : Tok),
    fd = ksFn "__init__" q (defArgs st) (defBody st) (defScope st) .none kV doc pm an (.ref cda) ct cc ∧ K.lookup fI = some ⟨oc, od, .func fd, osl⟩ ∧ codeIn K (.ref cda) q = true ∧
    K.lookup cda = some ⟨o1, d1, .fields vs, s1⟩ ∧ vs[2]? = some (.str file tf) ∧ ((P.main.file : Str) == file) = true ∧ K.lookup cc = some ⟨o2, d2, .cell (some (.ref C)), s2⟩
  oex : OexC K C
  clsI : ∃ cd, clsIn K C = some cd
  sub : mroIn K C (.ref C) = some true
  nsup : nsIn K mainGlobals "super" = some none
  msup : mg "super" = none
  opq : nsIn K cStatics "thirdparty.any" = some none
  sin : ks_superIn K C C "__init__" = some (some (.builtin "ValueError.__init__"))
  isV : subIn K (.ref C) (.type "ValueError") = some true
  noF : findIn K (.ref C) fld = some none
  init : findIn K (.ref C) "__init__" = some (some (.ref fI))
  tyI : typeIn K (.ref fI) = some (.type "function")
  mC : True
def spI (C : Addr) (fld : Str) (Cond : V → Prop) : Sp := fun vs H Q _ => ∃ (a : Addr) (y : V), vs = [.ref a, y] ∧ Cond y ∧ H a = some (exo a C none) ∧ ∀ dx, H dx = none → dx ≠ a → Q .non (upd (upd H dx (exd dx [(fld, y)])) a (exo a C (some dx)))
theorem fn_init {CX : CXT} {q fld : Str} {st : Stmt} {C fI : Addr} {fd : FuncData} {k : Nat} {Cond : V → Prop} (T : ErrT P K mg q fld st C fI fd) (S : IScope fld (defScope st)) (htop : (P.main.scope.names.lookup ("super" : Str)).isSome = false)
    {p0 p1 p2 p3 p4 p5 p6 p7 p8 : Pos} {msg : Expr}
    (hbody : defBody st = [.Expr (.Call (.Attribute (.Call (.Name "super" p0) [] [] p1) "__init__" p2) [msg] [] p3) p4, .Assign [.Attribute (.Name "self" p5) fld p6] (.Name fld p7) p8])
    (hhead : ∃ ar, ((defArgs st).posonlyargs ++ (defArgs st).args).head? = some ar ∧ ar.arg = "self")
    (hmsg : ∀ (cda cc : Addr) (A : Around) (outer : List Env) (s : Shared) (H H1 : Hp) (a : Addr) (y : V) (Q : VK), Cond y → (∀ z : Str, z.length ≤ sizeLine → Q (.str z) H1) → WE (cxI P w K mg base ["self", fld] q (defScope st) fI cda cc A outer s H) msg [some (.ref a), some y] H1 Q)
    (hse : ∀ L cda cc, starEach [msg] (sEnv q (defScope st) L fI cda cc) = (false, eval msg (sEnv q (defScope st) L fI cda cc)) :: starEach [] (sEnv q (defScope st) L fI cda cc))
    (hcall : ∀ env, ∃ pl : Sem Bool, eval (.Call (.Attribute (.Call (.Name "super" p0) [] [] p1) "__init__" p2) [msg] [] p3) env = (do
      let ov ← attributeBase (.Call (.Name "super" p0) [] [] p1) "__init__" env (eval (.Call (.Name "super" p0) [] [] p1) env)
      standAt p2.atName
      let (f, first) ← holding [ov] (getMethod ov "__init__" pl)
      callWith p3 f first (backTo p3 (starEach [msg] env)) []))
    (hdb1 : (fld == ("__debug__" : Str)) = false) (hdb2 : (fld == ("__classdict__" : Str)) = false) (hsw2 : ∀ {L cda cc : Addr}, swapsWith (.Name fld p7) (some (.Attribute (.Name "self" p5) fld p6)) p8.line (sEnv q (defScope st) L fI cda cc) = pure false)
    (hsw1 : ∀ env, swapsWith (.Call (.Attribute (.Call (.Name "super" p0) [] [] p1) "__init__" p2) [msg] [] p3) none p4.line env = pure false) :
    FnOk P w K mg base CX (k + 1) fI fd ["self", fld] (spI C fld Cond) := by
  refine ⟨fun vs H Q E h => ?_, fun A outer s H args us vs Q E hr e0 hb r hsp => ?_⟩
  · obtain ⟨a, y, rfl, _⟩ := h; rfl
  obtain ⟨a, y, rfl, hC, ha, kq⟩ := hsp
  obtain ⟨oc, od, kV, doc, pm, an, cda, cc, ct, osl, o1, o2, d1, d2, s1, s2, vs, file, tf, rfl, lk, hcd, lcda, hvs, hfile, lcc⟩ := T.ex
  obtain ⟨u0, v, rfl, r0, ry⟩ := vals2 r
  cases r0
  have KX : K.In s.heap := e0.mod.kin.keeps fun b o e => (e0.bs b o e).1
  have lim : s.heap.NoLimit := e0.mod.nolimit.keeps fun b o e => (e0.bs b o e).1
  refine ks_codeAny_call_defAt (fd := ksFn "__init__" q (defArgs st) (defBody st) (defScope st) .none kV doc pm an (.ref cda) ct cc) (body := defBody st) (binds := (["self", fld] : List Str).zip [.ref a, v]) hr.depth (KX _ _ lk) rfl lim (PySem.W.codeRec_of KX hcd) rfl hb S.nocell (fun z hz => ?_) (fun h1 hns hk1 => ?_) S.co S.gen S.kind
  · have hz' : z = (("self" : Str), Value.ref a) ∨ z = (fld, v) := by simpa using hz
    rcases hz' with e | e
    · subst e; exact S.self
    · subst e; exact S.hfld
  have I : Inv (cxI P w K mg base ["self", fld] q (defScope st) fI cda cc A outer s H) [] [some (.ref a), some y] H { s with heap := h1, toks := s.toks + ((["self", fld] : List Str).zip [Value.ref a, v]).length } := inv_init S hr.hd e0 lcc (show RelV (V.ref a) (Value.ref a) from rfl) ry hns hk1
  -- out of the activation's form
  refine ks_wpAt_mono (Q := SP (cxI P w K mg base ["self", fld] q (defScope st) fI cda cc A outer s H) [] { nx := fun _ H' => Q .non H', rt := Q }) (E := fun _ _ => False) ?_ (fun fl s' hs => ?_) fun _ _ z => z.elim
  · rw [hbody]
    obtain ⟨ar, har, harn⟩ := hhead
    obtain ⟨cdC, hcdC⟩ := T.clsI
    obtain ⟨t1, hae⟩ := exo_at I.hok ha
    have KX1 : K.In h1 := I.kIn
    obtain ⟨pl, hpl⟩ := hcall (sEnv q (defScope st) s.heap.objs.size fI cda cc)
    refine ks_wpAt_execs_cons (ks_wpAt_Expr_any (ks_wpAt_MethodCall (pl := pl) ?_ hpl) I.quiet (hsw1 _))
    refine ks_wpAt_super_base S.sup S.cls (by decide) rfl (KX1 _ _ lk) rfl har rfl (KX1 _ _ lcda) rfl hvs hfile htop ?_
    obtain ⟨mb, b1, b2⟩ := e0.mod.blt
    refine ks_loadName_global S.kind S.sup (Calls.loadGlobal_builtin (I.mod.glob.keeps I.bk) T.msup (b1.keeps I.bk) ((b2 _ (by decide +kernel)).trans (by decide +kernel)) ⟨rfl, ?_⟩)
    refine wpAny_loadName_free S.kind S.cls (by show List.lookup _ [(_, cc)] = _; simp) ⟨_, KX1 _ _ lcc, rfl⟩ ?_
    rw [harn]
    refine wpAny_loadName_local S.kind S.self hns (v := .ref a) ?_ ?_
    · show List.lookup ("self" : Str) [(fld, v), ("self", Value.ref a)] = _
      have hb' : (("self" : Str) == fld) = false := beq_eq_false_iff_ne.mpr (Ne.symm S.ne)
      rw [List.lookup_cons, hb']
      simp
    obtain ⟨oD, hD1, hD2⟩ : ∃ oD, h1.get? C = some oD ∧ oD.data = .cls cdC := by
      unfold clsIn at hcdC
      split at hcdC
      · rename_i c d cd' sl ho
        cases hcdC
        exact ⟨_, KX1 _ _ ho, rfl⟩
      · cases hcdC
    refine ks_wpAny_isType_cls hD1 hD2 ⟨rfl, ?_⟩
    refine ks_wpAny_call_super hD1 hD2 hae rfl (fun c z => by cases z) (looks_mroIn KX1 T.sub) fun h2 hso k2 => ?_
    have I2 : Inv (cxI P w K mg base ["self", fld] q (defScope st) fI cda cc A outer s H) [] [some (.ref a), some y] H { s with heap := h2, toks := s.toks + ((["self", fld] : List Str).zip [Value.ref a, v]).length } := I.kept k2
    have KX2 : K.In h2 := I2.kIn
    have ia : InstAt h2 a _ C none := ⟨k2 _ _ hae, rfl, rfl, trivial⟩
    have hsin := T.sin
    unfold ks_superIn at hsin
    rw [hcdC] at hsin
    refine kxs_getMethod kxs_ValueError hso (looks_opaque KX2 T.opq) (l₀ := cdC.mro) (fun A Q E s k q => wpAny_bind ((looks_clsIn KX2 hcdC) A _ E s k (wpAny_pure q))) rfl KX2 hsin (ia.type.andThen (looks_subIn KX2 T.isV)) (ks_ne KX2 ia hcdC) (by decide) ?_
    dsimp only
    generalize hmw : (kxs_mw "ValueError.__init__" a) = mw
    have I3 : Inv (cxI P w K mg base ["self", fld] q (defScope st) fI cda cc A outer s H) [(h2.objs.size, mw)] [some (.ref a), some y] H { s with heap := h2.push mw, toks := s.toks + ((["self", fld] : List Str).zip [Value.ref a, v]).length + 1 } :=
      (I2.kept (h' := h2.push mw) (t' := s.toks + ((["self", fld] : List Str).zip [Value.ref a, v]).length + 1) fun b o e => Heap.get?_push_of_some _ e).pins_of fun p hp => by
        have e : p = (h2.objs.size, mw) := by simpa using hp
        subst e
        refine ⟨Heap.get?_push_size _ (by rw [← hmw]; rfl), I2.hok.fresh (Nat.le_refl _), Nat.ne_of_gt I2.lt, I2.nofs (Nat.le_refl _), fun z hz => by rw [← hmw] at hz; cases hz⟩
    refine kxs_callWith1 (i := "ValueError.__init__") (x := a) (h₀ := h2) (L := s.heap.objs.size) (news := [(h2.objs.size, mw)]) (fun p hp => ?_) (by rw [hmw]; simp) ?_ (hse _ _ _) rfl
    · have e : p = (h2.objs.size, mw) := by simpa using hp
      subst e
      exact ⟨Heap.get?_push_size _ (by rw [← hmw]; rfl), Nat.ne_of_gt I2.lt, Heap.get?_none_of_le (Nat.le_refl _)⟩
    refine thn ((pa_cons (X := cxI P w K mg base ["self", fld] q (defScope st) fI cda cc A outer s H) pe_we pa_nil (hse _ _ _)).run p3 _ _ _ H (fun vs' H' => ∃ z : Str, vs' = [.str z] ∧ H' = H) I3 (hmsg cda cc A outer s H H a y _ hC fun z hz => ⟨z, rfl, rfl⟩)) fun us' s4 ⟨vs', H', I4, r4, q4⟩ => ?_
    obtain ⟨z, rfl, rfl⟩ := q4
    have hu4 : s4.heap.get? h2.objs.size = some mw := (I4.pin (h2.objs.size, mw) (by simp)).1
    refine ⟨by unfold KxsAt; rw [hu4, hmw], ?_⟩
    have hlen : us'.length = 1 := r4.length.symm
    obtain ⟨t4, ha4⟩ := exo_at I4.hok ha
    obtain ⟨nm, qn, N', bs, bm, sn, sub, ab, col, dd, k0, k1, k2', k3, k5, hCl, hbm⟩ := T.oex.cls
    have hC4 := I4.kIn _ _ hCl
    obtain ⟨hh, g, d, tk, os⟩ := s4
    refine wpAny_call (codeAny_of_tree ?_)
    show wpAny _ _ (callAny (.ref h2.objs.size) ⟨us', []⟩) _ _ _
    simp only [callAny]
    refine wpAny_bind (wpAny_load hu4 ?_)
    rw [← hmw]
    simp only [kxs_mw, show (Value.type "method-wrapper" == Value.type "method" || Value.type "method-wrapper" == Value.type "builtin_function_or_method" || Value.type "method-wrapper" == Value.type "method-wrapper") = true by decide, if_true]
    refine KFB.if_so (by decide) ?_
    refine wpAny_bind (check_bound_init PySem.F.excBase_ValueError.toExcCallFacts hC4 ha4 rfl ?_)
    refine wpAny_bind (wpAny_pure (wpAny_pure ?_))
    refine ⟨plainId_quiet PySem.F.excBase_ValueError.init.plain _, codeAny_builtin PySem.F.excBase_ValueError.initEntry ?_⟩
    refine exc_init_tree (cls := .ref C) (t0 := t4) (dv := none) (c2 := .none) (c3 := .none) (b4 := .bool false) ha4 (by rw [hlen]; decide) fun h5 k5' e5 et5 => ?_
    have J := I4.write (t' := tk) (x := a) (e := a) (o := exo a C none) (by rw [ha]; exact True.intro) (.inl rfl) k5' ⟨_, e5⟩ (exo_ok e5)
    have eu : upd H' a (exo a C none) = H' := by
      funext b
      by_cases hb : b = a
      · rw [hb, upd_same, ha]
      · rw [upd_ne hb]
    rw [eu] at J
    have J' := J.pins_of (pins' := []) fun p hp => by cases hp
    refine wpAt_of_wpAny ((pss_one (ps_ost (X := cxI P w K mg base ["self", fld] q (defScope st) fI cda cc A outer s H') (pe_var (i := 0) rfl (.inl S.self)) (pe_var (i := 1) rfl (.inl S.hfld) hdb1 hdb2) hsw2)).run [] _ _ H' _ J' ?_)
    exact ⟨y, rfl, .ref a, rfl, a, C, rfl, T.oex, T.noF, .inl ⟨ha, fun dx h1 h2 => kq dx h1 h2⟩⟩
  · have fin : ∀ {σ' : L2.St} {H' : Hp} {z : V} {u : Value}, Inv (cxI P w K mg base ["self", fld] q (defScope st) fI cda cc A outer s H) [] σ' H' s' → RelV z u → Q z H' → CE outer P w H s Q u s' :=
      fun {σ' H' z u} J rv q => ⟨z, H', J.os, J.bare, J.base, J.hok, rv, q⟩
    cases fl with
    | ret u =>
      obtain ⟨z, σ', H', J, rv, q⟩ := hs
      exact fin J rv q
    | next =>
      obtain ⟨σ', H', J, q⟩ := hs
      exact fin (z := V.non) (u := Value.none) J rfl q
    | brk => obtain ⟨_, _, _, q⟩ := hs; exact q.elim
    | cont => obtain ⟨_, _, _, q⟩ := hs; exact q.elim
end
end Wn

/-! raise, try, isinstance -/
namespace Wn
open PySem PySem.Spec L2
open PyProof.Rows hiding St

/-! ### raise -/
structure ErrOk (P : Program) (w : World) (K : PySem.W.Frag) (mg : Str → Option Value) (base : Heap) (n : Str) (k : Nat) (C : Addr) (fld : Str) (Cond : V → Prop) : Prop where
  oex : OexC K C
  mC : mg n = some (.ref C)
  ex : ∃ fI fd, PySem.W.findIn K (.ref C) "__init__" = some (some (.ref fI)) ∧ PySem.W.typeIn K (.ref fI) = some (.type "function") ∧ FnOk P w K mg base (L2.CX P w) k fI fd ["self", fld] (spI C fld Cond) ∧ Binds K fd ["self", fld] []
section
variable {X : Cx} {F : Fx} {ρ : List Ent} {Φ : Out → Prop} {rest body : List Stmt} {e a : Expr} {es : List Expr} {x y : PyData} {xs ys : List PyData} {pos p rp : Pos} {n : Str} {k : Nat} {C : Addr} {fld : Str} {Cond : V → Prop}
theorem ex_raise (T : ErrOk X.prog X.w X.K X.mg X.base n k C fld Cond) (hr : Room (k + 1) X.A) (tk : Takes X (fun cls d _ H => F.E cls d H)) (hc : X.calm = true) (he : EvD X F ρ e y) (hy : ∀ B u, Dp X.K B u y → Cond u) (hl : Lets X F C [(fld, y)]) (hg : Gl X n := by rfl)
    (hdb : (n == ("__debug__" : Str)) = false := by decide) (hs : starEach (e :: []) X.env = (false, eval e X.env) :: starEach [] X.env := by rfl) (hpl : (backTo pos (starEach [] X.env)).any (·.1) = false := by rfl) : Ex X F ρ (.Raise (some (.Call (.Name n p) [e] [] pos)) none rp :: rest) Φ := fun B ow σ H D Bb ok bb f => by
  obtain ⟨fI, fd, iC, tI, G, hb⟩ := T.ex
  refine ws_cons (ps_raise hc tk (pmk_oex T.oex iC tI G hr hb .nil passL hg T.mC (pa_cons pe_we pa_nil hs) hdb hs hpl)) ?_
  refine he B ow σ H _ ok fun B1 H1 u e1 s1 d1 => ?_
  refine ⟨by show 1 ≤ 1000; decide, fun a ha => ?_⟩
  refine ⟨a, u, rfl, hy B1 u d1, upd_same, fun dx hdx hne => ⟨rfl, dx, _, upd_same, by rw [upd_ne hne, upd_same], ?_, ?_⟩⟩
  · rw [upd_ne hne] at hdx; exact hdx
  · have hdx' : H1 dx = none := by rw [upd_ne hne] at hdx; exact hdx
    have sm : Same H1 (upd (del (upd (upd (upd H1 a (exo a C none)) dx (exd dx [(fld, u)])) a (exo a C (some dx))) a) dx (.xd [(fld, u)])) := fun b o q => by
      have nb : b ≠ dx := ne_of_none q hdx'
      have na : b ≠ a := ne_of_none q ha
      rw [upd_ne nb, del_ne na, upd_ne na, upd_ne nb, upd_ne na]
      exact q
    have ek := ok.ext.trans e1
    exact hl B1 _ (some dx) [(fld, u)] ⟨ek.b, ek.h.trans sm, ek.n⟩ (s1.trans sm) ⟨ek.h.free hdx', upd_same⟩ (.cons ⟨rfl, d1⟩ .nil)

/-! ### try -/
theorem ex_try_ok {h : ExceptHandler} {hs : List ExceptHandler} (hb : Ex X.nox F ρ body (Seq X F rest Φ)) : Ex X F ρ (.Try body (h :: hs) [] [] pos :: rest) Φ := fun B ow σ H D Bb ok bb f => by
  refine ws_cons (ps_try_thru0 ps_ws) ?_
  refine hb B ow σ H _ Bb ⟨ok.ext, ok.bh, ok.sl, ok.nd, ok.out⟩ bb ?_
  have g := f.seq (rest := rest)
  exact ⟨fun ρ' B' ow' σ' H' h k => g.nx ρ' B' ow' σ' H' h ⟨k.ext, k.bh, k.sl, k.nd, k.out⟩, fun ρ' B' ow' σ' H' h k => g.bk ρ' B' ow' σ' H' h ⟨k.ext, k.bh, k.sl, k.nd, k.out⟩, fun ρ' B' ow' σ' H' h k => g.ct ρ' B' ow' σ' H' h ⟨k.ext, k.bh, k.sl, k.nd, k.out⟩, g.rt, g.rn⟩
/-- a call in a try's body that raises: wished for at these slots -/
theorem call_weS {S : SpecD} {Cx0 : Addr} {fs : List (Str × PyData)} {B H : Hp} {ow : List Addr} {σ : L2.St} {Q : VK} {W : WX} (D : DefOk X.prog X.w X.K X.mg X.base F.Tb n k S) (hr : Room k X.A) (hg : Gl X n) (ha : EvA X F ρ (a :: es) xs) (hS : S xs (.exc Cx0 fs)) (tk : Takes X W) (ok : Ok X F ρ B ow σ H)
    (hq : ∀ B' H' d vs, Ext B H B' H' → Same B' H' → XDict H H' vs d → Flds X.K B' vs fs → W (.ref Cx0) d σ H')
    (hdb : (n == ("__debug__" : Str)) = false) (he : starEach (a :: es) X.env = (false, eval a X.env) :: starEach es X.env) (hpl : (backTo pos (starEach es X.env)).any (·.1) = false) : Wn.WE X (.Call (.Name n p) (a :: es) [] pos) σ H Q := by
  obtain ⟨f, fd, ps, G, hm, kp, hb⟩ := D.ex
  refine we_of (pe_callS G hr hg hm kp hb (fun σ => passAt tk σ) pa_wa hdb he hpl) ?_
  refine ha B ow σ H _ ok fun B1 H1 us e1 s1 d1 => ?_
  refine ⟨B1, xs, _, s1, fun T hT => e1.b T _ (ok.ext.b T _ (F.tb T hT)), d1, hS, fun B' H' d vs e2 s2 xd fl => hq B' H' d vs (e1.trans e2) s2 ?_ fl⟩
  cases d with
  | none => exact xd
  | some c => exact ⟨e1.h.free xd.1, xd.2⟩
/-- the caught error in its slot -/
def Caught (K : PySem.W.Frag) (a : Addr) (d : Option Addr) (fs : List (Str × PyData)) : Hp → V → Prop := fun B v => v = .ref a ∧ match d with
  | some dd => ∃ vs, B dd = some (.xd vs) ∧ Flds K B vs fs
  | none => fs = []
theorem flds_to {K : PySem.W.Frag} {B B' : Hp} (s : Same B B') : ∀ {vs : List (Str × V)} {fs : List (Str × PyData)}, Flds K B vs fs → Flds K B' vs fs
  | _, _, .nil => .nil
  | _, _, .cons ⟨h1, h2⟩ t => .cons ⟨h1, Dp.to h2 s⟩ (flds_to s t)
theorem caught_to {K : PySem.W.Frag} {a : Addr} {d : Option Addr} {fs : List (Str × PyData)} (B B' : Hp) (v : V) (s : Same B B') (h : Caught K a d fs B v) : Caught K a d fs B' v := by
  obtain ⟨h1, h2⟩ := h
  refine ⟨h1, ?_⟩
  cases d with
  | none => exact h2
  | some dd =>
    obtain ⟨vs, h3, h4⟩ := h2
    exact ⟨vs, s _ _ h3, flds_to s h4⟩
/-- the context of an except suite, the error of class C with its dict at d -/
structure Suite (X : Cx) (a : Addr) (C : Addr) (d : Option Addr) (X' : Cx) : Prop where
  ex : ∃ (oe : Obj) (pn : List (Addr × Obj)), Zc (.ref C) d oe ∧ (∃ vs, oe.data = .fields vs) ∧ X' = X.suite a ((a, oe) :: pn)
def wAll (X : Cx) (body : List Stmt) (W : WX) : TS := fun D σ H => ∀ pn xe, Takes (X.tr pn xe) W → WS (X.tr pn xe) body D σ H
def sAll (X : Cx) (suite : List Stmt) (a : Addr) (cls : Value) (d : Option Addr) : TS := fun D σ H => ∀ oe pn, Zc cls d oe → (∃ vs, oe.data = .fields vs) → WS (X.suite a ((a, oe) :: pn)) suite D σ H
/-- the body's one statement raises, the suite takes it -/
theorem ex_try_exc (i : Nat) {S : SpecD} {suite : List Stmt} {b0 : Stmt} {xn en : Str} {c : Value} {Cx0 : Addr} {fs : List (Str × PyData)} {e0 : Ent} {np p2 p3 : Pos} (mk : Expr → Stmt)
    (hmk : ∀ (Y : Cx) (σ : L2.St) (H : Hp) (D : Ends), (∀ Q, Wn.WE Y (.Call (.Name n p) (a :: es) [] pos) σ H Q) → Y.N = X.N → Y.env = X.env → WS Y [mk (.Call (.Name n p) (a :: es) [] pos)] D σ H)
    (D : DefOk X.prog X.w X.K X.mg X.base F.Tb n k S) (hr : Room k X.A) (ha : ∀ pn xe, EvA (X.tr pn xe) F ρ (a :: es) xs) (hS : S xs (.exc Cx0 fs)) (hcls : PySem.W.exmOne X.K (.ref Cx0) c = some true)
    (hsu : ∀ b d X', Suite X b Cx0 d X' → Ex X' F (ρ.set i (.raw (Caught X.K b d fs))) (b0 :: suite) (fun o => match o with | .nx ρ' => Ex X F (ρ'.set i .un) rest Φ | .bk _ => False | .ct _ => False | o => Φ o))
    (hst : X.stack = X.env :: X.outer) (hfr : X.env.frame = some X.env.locals) (hN : X.N.Nodup) (hn : Names X xn c) (tk : Takes X (fun _ _ _ _ => False)) (hi : ρ[i]? = some e0 := by rfl) (hni : X.N[i]? = some en := by rfl) (hln : X.env.kindOf en = some .local := by rfl) (hg : Gl X n := by rfl)
    (hdb : (n == ("__debug__" : Str)) = false := by decide) (he : starEach (a :: es) X.env = (false, eval a X.env) :: starEach es X.env := by rfl) (hpl : (backTo pos (starEach es X.env)).any (·.1) = false := by rfl) :
    Ex X F ρ (.Try [mk (.Call (.Name n p) (a :: es) [] pos)] [.ExceptHandler (some (.Name xn np)) (some en) (b0 :: suite) p2] [] [] p3 :: rest) Φ := fun B ow σ H D0 Bb ok bb f => by
  refine ws_cons (ps_try_as (i := i) (tb := wAll X [mk (.Call (.Name n p) (a :: es) [] pos)]) (ts := sAll X (b0 :: suite)) (Wout := fun _ _ _ _ => False) hst hfr hN hni hln hn tk (fun W pn xe tk' _ => ⟨fun pins s σ H D I h => h pn xe tk' pins s I⟩) (fun a oe cls d pn hz hf => ⟨fun pins s σ H D I h => h oe pn hz hf pins s I⟩)) ?_
  intro pn xe tk'
  refine hmk _ _ _ _ (fun Q => ?_) rfl rfl
  refine call_weS (X := X.tr pn xe) (F := F) (ρ := ρ) (W := _) D hr hg (ha pn xe) hS tk' (ok.to rfl) (fun B' H' d vs e1 s1 xd fl => ?_) hdb he hpl
  refine ⟨true, hcls, fun _ b hb => ?_, fun z => by cases z⟩
  intro oe pn2 hz hf
  -- the frozen part takes the error's dict in
  have big : ∃ B2, Same B' B2 ∧ Ext B H B2 H' ∧ Same B2 H' ∧ Caught X.K b d fs B2 (.ref b) := by
    cases d with
    | none =>
      have z : vs = [] := xd
      subst z
      cases fl
      exact ⟨B', Same.refl _, e1, s1, rfl, rfl⟩
    | some dd =>
      obtain ⟨h1, h2⟩ := xd
      cases q : B' dd with
      | some o =>
        have z := s1 _ _ q
        rw [h2] at z
        cases z
        exact ⟨B', Same.refl _, e1, s1, rfl, vs, q, fl⟩
      | none =>
        obtain ⟨e2, s2⟩ := e1.new h1 q h2 s1
        exact ⟨_, same_new q, e2, s2, rfl, vs, upd_same, flds_to (same_new q) fl⟩
  obtain ⟨B2, sB, e2, s2, hC⟩ := big
  obtain ⟨ow', k', _⟩ := (ok.grow e2 s2).put hi (e := .raw (Caught X.K b d fs)) (o := some (.ref b)) ⟨rfl, fun B B' v s h => caught_to B B' v s h, _, rfl, hC⟩
  refine hsu b d _ ⟨oe, pn2, hz, hf, rfl⟩ B2 ow' _ H' _ Bb (k'.to rfl) (bb.trans e2.b) ⟨fun ρ3 B3 ow3 σ3 H3 p3 k3 b3 => ?_, fun _ _ _ _ _ p => p.elim, fun _ _ _ _ _ p => p.elim, fun y B3 H3 u p3 => f.rt y B3 H3 u p3, fun y B3 H3 a3 u p3 => f.rn y B3 H3 a3 u p3⟩
  have k4 : Ok X F ρ3 B3 ow3 σ3 H3 := k3.to rfl
  have p4 : Ex X F (ρ3.set i .un) rest Φ := p3
  show WS X rest D0 (σ3.set i none) H3
  by_cases hl : i < ρ3.length
  · obtain ⟨ow4, k5, _⟩ := k4.put (List.getElem?_eq_getElem hl) (e := .un) (o := none) rfl
    exact p4 B3 ow4 _ H3 D0 Bb k5 b3 f
  · have z1 : ρ3.set i .un = ρ3 := List.set_eq_of_length_le (by omega)
    have z2 : σ3.set i none = σ3 := List.set_eq_of_length_le (by rw [slots_len k4.sl]; omega)
    rw [z1] at p4
    rw [z2]
    exact p4 B3 ow3 _ H3 D0 Bb k4 b3 f
theorem mk_expr {hs : Unit} {pe : Pos} (Y : Cx) (e : Expr) (σ : L2.St) (H : Hp) (D : Ends) (h : ∀ Q, Wn.WE Y e σ H Q) (hsw : swapsWith e none pe.line Y.env = pure false) : WS Y [.Expr e pe] D σ H := ws_of (pss_one (ps_expr pe_we hsw)) (h _)

/-! ### isinstance -/
/-- reading the caught error's slot -/
theorem ev_vRaw (i : Nat) {Pr : Hp → V → Prop} (hi : ρ[i]? = some (.raw Pr)) (hN : X.N[i]? = some n) (hv : Vis X.env.scope n) (hd : (n == ("__debug__" : Str)) = false := by decide) (hcd : (n == ("__classdict__" : Str)) = false := by decide) : EvG X F ρ (.Name n pos) (fun _ _ B' _ u => Pr B' u) := fun B ow σ H Q k q => by
  obtain ⟨o0, l0, pre, post, h1, _, ⟨_, _, v, e1, e2⟩, _⟩ := slots_lens k.sl hi
  subst e1
  exact we_of (pe_var hN hv hd hcd) ⟨v, h1, q B H v (Ext.refl _ _) k.bh e2⟩
/-- what K tells of an own error class, for isinstance of a caught one -/
structure IsE (K : PySem.W.Frag) (D : Addr) : Prop where
  cl : (PySem.W.clsIn K D).isSome = true
  st : L2.ExcC K D
def rIsX (K : PySem.W.Frag) (D a : Addr) (d : Option Addr) : List V → Hp → VK → Prop := fun xs H Q => ∃ (c : V) (cv : Value) (b : Bool), xs = [.ref a, c] ∧ (∀ u, RelV c u → u = cv) ∧ PySem.W.kitOne K (.ref D) cv = some b ∧ (∀ dd, d = some dd → ∃ o, H dd = some o) ∧ Q (.bl b) H
theorem call_isX {X X' : Cx} {a D : Addr} {d : Option Addr} (C : IsE X.K D) (hS : Suite X a D d X') : CallR X' (.builtin "isinstance") (rIsX X.K D a d) := by
  obtain ⟨oe, pn, hz, hf, rfl⟩ := hS.ex
  intro pins s σ H xs us Q I r h
  obtain ⟨c, cv, b, rfl, hcv, e, hdd, q⟩ := h
  obtain ⟨u1, u2, rfl, rx, rt⟩ := vals2 r
  cases rx
  have ec := hcv _ rt
  subst ec
  obtain ⟨hget, _⟩ := I.pin (a, oe) (List.mem_append.mpr (.inl List.mem_cons_self))
  obtain ⟨vs, hv⟩ := hf
  obtain ⟨od, J⟩ : ∃ od, PySem.W.InstAt s.heap a oe D od := by
    rcases oe with ⟨kc, kd, kx, ks⟩
    rcases hz with ⟨z1, z2⟩
    dsimp only at z1 z2 hv
    subst z1 z2 hv
    cases kd with
    | none => exact ⟨none, hget, rfl, rfl, trivial⟩
    | some dd =>
      obtain ⟨o, ho⟩ := hdd dd rfl
      obtain ⟨ob, hob⟩ := objOk_get (I.hok dd o ho)
      exact ⟨some ob, hget, rfl, rfl, hob⟩
  exact PySem.W.kia_one (PySem.W.kitx_exc C.cl C.st.hg C.st.hk C.st.hs C.st.ha C.st.hn C.st.ht C.st.hm) I.kIn J e (fun z => nomatch z) fun tk => ⟨.bl b, H, I.kept (t' := tk) fun _ _ z => z, rfl, q⟩
/-- isinstance(e, C), e the caught error -/
theorem ev_isX (i : Nat) {X' : Cx} {b D : Addr} {d : Option Addr} {fs : List (Str × PyData)} {cn en : Str} {cv : Value} {cV : V} {r : Bool} {q1 q2 q3 : Pos} (C : IsE X.K D) (hS : Suite X b D d X') (hm : X'.mg "isinstance" = none) (hi : ρ[i]? = some (.raw (Caught X.K b d fs))) (hN : X'.N[i]? = some en) (hv : Vis X'.env.scope en)
    (hcls : PE X' (.Name cn q2) (tC cV)) (hcv : ∀ u, RelV cV u → u = cv) (hk : PySem.W.kitOne X.K (.ref D) cv = some r) (hg : Gl X' "isinstance") (hd : (en == ("__debug__" : Str)) = false := by decide) (hcd : (en == ("__classdict__" : Str)) = false := by decide)
    (hs : starEach [.Name en q1, .Name cn q2] X'.env = (false, eval (.Name en q1) X'.env) :: starEach [.Name cn q2] X'.env := by rfl) (hs2 : starEach [.Name cn q2] X'.env = (false, eval (.Name cn q2) X'.env) :: starEach [] X'.env := by rfl) (hpl : (backTo pos (starEach [.Name cn q2] X'.env)).any (·.1) = false := by rfl) :
    EvD X' F ρ (.Call (.Name "isinstance" q3) [.Name en q1, .Name cn q2] [] pos) (.bool r) := fun B ow σ H Q k q => by
  refine we_of (pe_callB (call_isX C hS) hg hm (by decide +kernel) (pa_cons pe_we (pa_cons hcls pa_nil hs2) hs) (by decide) (by decide) hs hpl) ?_
  refine ev_vRaw i hi hN hv hd hcd B ow σ H _ k fun B1 H1 u e1 s1 ⟨h1, h2⟩ => ?_
  subst h1
  refine ⟨cV, cv, r, rfl, hcv, hk, fun dd hdd => ?_, q B1 H1 _ e1 s1 (.bl _)⟩
  subst hdd
  obtain ⟨vs, h3, _⟩ := h2
  exact ⟨_, s1 _ _ h3⟩
/-- e.f, e the caught error -/
theorem ev_xf (i : Nat) {X' : Cx} {b D : Addr} {d : Option Addr} {fs : List (Str × PyData)} {en fn : Str} {q1 : Pos} (T : XfC X.K D) (hS : Suite X b D d X') (hno : PySem.W.findIn X.K (.ref D) fn = some none) (hi : ρ[i]? = some (.raw (Caught X.K b d fs))) (hN : X'.N[i]? = some en) (hv : Vis X'.env.scope en)
    (hf : fs.lookup fn = some x) (hd : (en == ("__debug__" : Str)) = false := by decide) (hcd : (en == ("__classdict__" : Str)) = false := by decide) (hb : attributeBase (.Name en q1) fn X.env (eval (.Name en q1) X.env) = eval (.Name en q1) X.env := by rfl) :
    EvD X' F ρ (.Attribute (.Name en q1) fn pos) x := by
  obtain ⟨oe, pn, hz, hfl, rfl⟩ := hS.ex
  intro B ow σ H Q k q
  refine we_of (pe_xf T hno hz hfl pe_we hb) ?_
  refine ev_vRaw i hi hN hv hd hcd B ow σ H _ k fun B1 H1 u e1 s1 ⟨h1, h2⟩ => ?_
  cases d with
  | none => subst h2; simp at hf
  | some dd =>
    obtain ⟨vs, h3, h4⟩ := h2
    have look : ∀ {vs : List (Str × V)} {fs : List (Str × PyData)}, Flds X.K B1 vs fs → fs.lookup fn = some x → ∃ v, vs.lookup fn = some v ∧ Dp X.K B1 v x := by
      intro vs fs hfl
      induction hfl with
      | nil => intro z; simp at z
      | @cons p q ps qs h _ ih =>
        intro z
        rw [List.lookup_cons] at z ⊢
        rw [h.1]
        cases hb : fn == q.1 with
        | true => rw [hb] at z; cases z; exact ⟨_, rfl, h.2⟩
        | false => rw [hb] at z; exact ih z
    obtain ⟨v, l1, l2⟩ := look h4 hf
    exact ⟨h1, rfl, dd, vs, v, rfl, s1 _ _ h3, l1, q B1 H1 v e1 s1 l2⟩
/-- isinstance(x, T) of data, T a built-in class -/
def tyD : PyData → String
  | .none => "NoneType"
  | .bool _ => "bool"
  | .int _ => "int"
  | .str _ => "str"
  | .list _ => "list"
  | .tuple _ => "tuple"
  | .dict _ => "dict"
theorem ty_of {K : PySem.W.Frag} {H : Hp} {u : V} {x : PyData} (d : Dp K H u x) : TyX K H u (.type (tyD x)) := by
  cases d with
  | non => exact .base .non
  | bl b => exact .base (.bl b)
  | int i => exact .base (.int i)
  | str s => exact .base (.str s)
  | lst h1 h2 =>
    rcases h1 with (h | ⟨o, h⟩) | ⟨o, its, m, h, hc, _⟩
    · exact .base (.lst h)
    · exact .base (.frz h)
    · exact .kList h hc
  | tup h1 h2 =>
    rcases h1 with (h | ⟨o, h⟩) | ⟨o, its, m, h, hc, _⟩
    · exact .base (.tup h)
    · exact .fTuple h
    · exact .kTuple h hc
theorem ev_isD {T : Str} {t : String} {r : Bool} {q2 q3 : Pos} (hm : X.mg "isinstance" = none) (hmT : X.mg T = none) (hbT : bootBuiltins T = some (.type t)) (ha : EvD X F ρ a x) (hk : kitB (tyD x) t = some r) (hg : Gl X "isinstance" := by rfl) (hgT : Gl X T := by rfl) (hnT : T ≠ "__name__" := by decide) (hdT : (T == ("__debug__" : Str)) = false := by decide)
    (hs : starEach [a, .Name T q2] X.env = (false, eval a X.env) :: starEach [.Name T q2] X.env := by rfl) (hs2 : starEach [.Name T q2] X.env = (false, eval (.Name T q2) X.env) :: starEach [] X.env := by rfl) (hpl : (backTo pos (starEach [.Name T q2] X.env)).any (·.1) = false := by rfl) :
    EvD X F ρ (.Call (.Name "isinstance" q3) [a, .Name T q2] [] pos) (.bool r) := fun B ow σ H Q k q => by
  refine we_of (pe_callB call_isi hg hm (by decide +kernel) (pa_cons pe_we (pa_cons (pe_bltn (v := .ty t) hgT hmT hbT rfl hnT hdT) pa_nil hs2) hs) (by decide) (by decide) hs hpl) ?_
  refine ha B ow σ H _ k fun B1 H1 u e1 s1 d1 => ?_
  exact ⟨u, .ty t, .type (tyD x), .type t, r, rfl, .ty t, ty_of (Dp.to d1 s1), kit_ty hk, q B1 H1 _ e1 s1 (.bl _)⟩
end
end Wn

/-! S0: a set's table at every size up to 8192 slots: each slot is met, a key goes in, all is laid anew. -/
namespace Ws
open PySem PySem.Spec L2 PyProof.Rows

/-- one less than a power of two, from 8 to 8192 -/
def Mk (m : Nat) : Prop := ∃ k, 3 ≤ k ∧ k ≤ 13 ∧ m + 1 = 2 ^ k
theorem Mk.bd {m : Nat} (h : Mk m) : 7 ≤ m ∧ m ≤ 8191 := by
  obtain ⟨k, a, b, e⟩ := h
  have l1 := Nat.pow_le_pow_right (n := 2) (by decide) a
  have l2 := Nat.pow_le_pow_right (n := 2) (by decide) b
  have e1 : (2 : Nat) ^ 3 = 8 := by decide
  have e2 : (2 : Nat) ^ 13 = 8192 := by decide
  omega
theorem Mk.odd {m : Nat} (h : Mk m) : m % 2 = 1 := by
  obtain ⟨k, a, b, e⟩ := h
  obtain ⟨j, rfl⟩ : ∃ j, k = j + 1 := ⟨k - 1, by omega⟩
  rw [Nat.pow_succ] at e
  omega

/-! ### z -> 5 z + 1, without the mask -/
def five : Nat → Nat → Nat
  | z, 0 => z
  | z, k + 1 => five z k * 5 + 1
theorem five_add (z a : Nat) : ∀ b, five z (a + b) = five (five z a) b
  | 0 => rfl
  | b + 1 => by show five z (a + b) * 5 + 1 = _; rw [five_add z a b]; rfl
theorem five_pow : ∀ e : Nat, ∃ a c : Nat, ∀ z, five z (2 ^ e) = z + 2 ^ e * (1 + 2 * c + 4 * (a * z))
  | 0 => ⟨1, 0, fun z => by show z * 5 + 1 = _; omega⟩
  | e + 1 => by
    obtain ⟨a, c, h⟩ := five_pow e
    refine ⟨a + 2 * (a * a * 2 ^ e), c + a * 2 ^ e * (1 + 2 * c), fun z => ?_⟩
    have e2 : 2 ^ (e + 1) = 2 ^ e + 2 ^ e := by rw [Nat.pow_succ]; omega
    rw [e2, five_add, h (five z (2 ^ e)), h z]
    generalize 2 ^ e = p
    grind
/-- within 2 ^ e steps each class is met -/
theorem five_meets : ∀ (e x y : Nat), ∃ k, k < 2 ^ e ∧ five x k % 2 ^ e = y % 2 ^ e
  | 0, x, y => ⟨0, by decide, by rw [Nat.pow_zero, Nat.mod_one, Nat.mod_one]⟩
  | e + 1, x, y => by
    obtain ⟨k, hk, q⟩ := five_meets e x y
    obtain ⟨a, c, h⟩ := five_pow e
    have pp : 0 < 2 ^ e := Nat.pow_pos (by decide)
    have h2 := h (five x k)
    rw [← five_add] at h2
    rw [Nat.pow_succ]
    have n1 := Nat.mod_lt (five x k) (show 0 < 2 ^ e * 2 by omega)
    generalize five x (k + 2 ^ e) = v at h2
    generalize eu : five x k = u at h2 q n1
    generalize hr : 2 * c + 4 * (a * u) = r at h2
    have hr2 : r = 2 * (c + 2 * (a * u)) := by omega
    generalize c + 2 * (a * u) = d at hr2
    have hv : v = u + 2 ^ e + 2 ^ e * 2 * d := by
      rw [h2, show 1 + 2 * c + 4 * (a * u) = 1 + 2 * d by omega]
      generalize 2 ^ e = p
      grind
    have hv2 : v % (2 ^ e * 2) = (u + 2 ^ e) % (2 ^ e * 2) := by rw [hv, Nat.add_mul_mod_self_left]
    have a1 := Nat.mod_mul (x := u) (a := 2 ^ e) (b := 2)
    have a2 := Nat.mod_mul (x := y) (a := 2 ^ e) (b := 2)
    have a3 := Nat.mod_mul (x := u + 2 ^ e) (a := 2 ^ e) (b := 2)
    rw [Nat.add_mod_right, Nat.add_div_right _ pp] at a3
    have b1 := Nat.mod_lt (u / 2 ^ e) (show 0 < 2 by decide)
    have b2 := Nat.mod_lt (y / 2 ^ e) (show 0 < 2 by decide)
    by_cases w : u / 2 ^ e % 2 = y / 2 ^ e % 2
    · refine ⟨k, by omega, ?_⟩
      rw [eu, a1, a2, q, w]
    · refine ⟨k + 2 ^ e, by omega, ?_⟩
      have w2 : (u / 2 ^ e).succ % 2 = y / 2 ^ e % 2 := by omega
      show five x (k + 2 ^ e) % _ = _
      rw [five_add, eu, h u]
      rw [h2] at hv2
      rw [hv2, a3, a2, q, w2]
theorem lcg_five (m i : Nat) (hi : i ≤ m) : ∀ k, lcgI m i k = five i k % (m + 1)
  | 0 => (Nat.mod_eq_of_lt (Nat.lt_succ_of_le hi)).symm
  | k + 1 => by
    show (lcgI m i k * 5 + 1) % (m + 1) = (five i k * 5 + 1) % (m + 1)
    rw [lcg_five m i hi k, Nat.add_mod, Nat.mul_mod, Nat.mod_mod, ← Nat.mul_mod, ← Nat.add_mod]
theorem lcg_meets {m i j : Nat} (hm : Mk m) (hi : i ≤ m) (hj : j ≤ m) : ∃ k, k ≤ m ∧ lcgI m i k = j := by
  obtain ⟨e, _, _, q⟩ := hm
  obtain ⟨k, hk, w⟩ := five_meets e i j
  rw [← q] at hk w
  exact ⟨k, Nat.le_of_lt_succ hk, by rw [lcg_five m i hi, w]; exact Nat.mod_eq_of_lt (Nat.lt_succ_of_le hj)⟩
/-- a run begins at each slot, in time -/
theorem starts {m : Nat} (hm : Mk m) (h : Int) {j : Nat} (hj : j ≤ m) : ∃ n, n < SetTable.turns m ∧ runI m (SetTable.bits h) n = j := by
  obtain ⟨k, a, b⟩ := lcg_meets hm (runI_le m (SetTable.bits h) 12) hj
  have c := runI_tail (m := m) (bits_lt h) k
  exact ⟨12 + k, by unfold SetTable.turns; omega, c.trans b⟩
theorem meets {m : Nat} (hm : Mk m) (h : Int) {j : Nat} (hj : j ≤ m) : ∃ k, k < 10 * SetTable.turns m ∧ way m h k = j := by
  obtain ⟨n, a, b⟩ := starts hm h hj
  obtain ⟨k, c, d⟩ := run_nth m (SetTable.bits h) n
  exact ⟨k, by omega, (congrArg SetTable.Probe.j d).trans b⟩
theorem way_in (m : Nat) (h : Int) (k : Nat) : way m h k ≤ m := by
  have a : SetTable.bits h % (m + 1) ≤ m := Nat.le_of_lt_succ (Nat.mod_lt _ (Nat.succ_pos _))
  obtain ⟨b, c, _⟩ := runEnd_bd a
  refine Nat.le_trans (Nat.le_add_right _ _) (nth_in (m := m) k (runAt m (SetTable.bits h % (m + 1)) (SetTable.bits h)) ?_)
  show _ % _ + (_ - _ % _) ≤ m
  rw [Nat.add_sub_cancel' c]
  exact b

/-- the masks that come -/
def Ms (m : Nat) : Prop := m = 7 ∨ m = 31 ∨ m = 127 ∨ m = 511 ∨ m = 2047 ∨ m = 8191
theorem mk_of {m : Nat} (hm : Ms m) : Mk m := by
  rcases hm with rfl | rfl | rfl | rfl | rfl | rfl
  · exact ⟨3, by decide, by decide, rfl⟩
  · exact ⟨5, by decide, by decide, rfl⟩
  · exact ⟨7, by decide, by decide, rfl⟩
  · exact ⟨9, by decide, by decide, rfl⟩
  · exact ⟨11, by decide, by decide, rfl⟩
  · exact ⟨13, by decide, by decide, rfl⟩

/-! ### a table and the hashes of its rows -/
structure Tb (t : SetTable) (hs : List Int) : Prop where
  ms : Ms t.mask
  up : Ris t.place.toList
  cnt : t.place.toList.length = hs.length
  lim : ∀ j ∈ t.place.toList, j ≤ t.mask
  clean : t.dummies = #[]
  found : ∀ (i : Nat) (h : Int) (j : Nat), hs[i]? = some h → t.place.toList[i]? = some j → ∃ k, way t.mask h k = j ∧ ∀ c, c < k → way t.mask h c ∈ t.place.toList
/-- the first empty slot that a hash leads to -/
def Gap (t : SetTable) (h : Int) (K : Nat) : Prop := way t.mask h K ∉ t.place.toList ∧ ∀ c, c < K → way t.mask h c ∈ t.place.toList
section
variable {t : SetTable} {hs : List Int}
theorem Tb.gap (T : Tb t hs) (few : hs.length ≤ t.mask) (h : Int) : ∃ K, K < 10 * SetTable.turns t.mask ∧ Gap t h K := by
  obtain ⟨j, a, b⟩ := st_missing t.place.toList (t.mask + 1) (by have := T.cnt; omega)
  obtain ⟨k, c, d⟩ := meets (mk_of T.ms) h (Nat.le_of_lt_succ a)
  obtain ⟨K, x, y, z⟩ := st_least (p := fun k => way t.mask h k ∉ t.place.toList) k (d ▸ b)
  exact ⟨K, by omega, y, fun c hc => Classical.not_not.mp (z c hc)⟩
theorem Tb.met (T : Tb t hs) {h : Int} {K i j : Nat} (g : Gap t h K) (hi : hs[i]? = some h) (hj : t.place.toList[i]? = some j) : ∃ k, k < K ∧ way t.mask h k = j := by
  obtain ⟨k, e, b⟩ := T.found i h j hi hj
  by_cases q : k < K
  · exact ⟨k, q, e⟩
  · rcases Nat.eq_or_lt_of_le (Nat.ge_of_not_lt q) with z | z
    · exact absurd (List.mem_of_getElem? hj) (by rw [← e, ← z]; exact g.1)
    · exact absurd (b K z) g.1
/-- the row's place in the table's order, and the table with it -/
theorem Tb.put (T : Tb t hs) {h : Int} {K p : Nat} (g : Gap t h K) (hp : p = SetTable.below t.place (way t.mask h K)) :
    p ≤ hs.length ∧ Tb (t.put (way t.mask h K)).1 (hs.take p ++ h :: hs.drop p) := by
  have lim := way_in t.mask h K
  obtain ⟨cut, _, _⟩ := below_cut T.up (way t.mask h K)
  have cnt := T.cnt
  rw [← hp] at cut
  have lp : p ≤ t.place.toList.length := by rw [Array.length_toList]; exact cut
  have pl : (t.put (way t.mask h K)).1.place.toList = t.place.toList.take p ++ way t.mask h K :: t.place.toList.drop p := by rw [hp]; exact put_place t _
  have old : ∀ {j : Nat}, j ∈ t.place.toList → j ∈ (t.put (way t.mask h K)).1.place.toList := fun hj => by rw [pl]; exact mem_ins.mpr (Or.inr hj)
  have new : t.place[SetTable.below t.place (way t.mask h K)]? ≠ some (way t.mask h K) := fun e => g.1 (List.mem_of_getElem? ((Array.getElem?_toList).trans e))
  refine ⟨by omega, T.ms, ris_insert T.up new, ?_, fun j hj => ?_, put_dm T.clean _, fun i h' j a b => ?_⟩
  · rw [pl, len_ins _ lp, len_ins _ (by omega), cnt]
  · rw [pl] at hj
    exact (mem_ins.mp hj).elim (fun e => by rw [e]; exact lim) (T.lim j)
  · rw [tins_get hs (by omega)] at a
    rw [pl, tins_get _ lp] at b
    have hand : ∀ n : Nat, hs[n]? = some h' → t.place.toList[n]? = some j → ∃ k, way t.mask h' k = j ∧ ∀ c, c < k → way t.mask h' c ∈ (t.put (way t.mask h K)).1.place.toList := fun n x y =>
      (T.found n h' j x y).imp fun k z => ⟨z.1, fun c hc => old (z.2 c hc)⟩
    split at a
    · rename_i z
      rw [if_pos z] at b
      exact hand i a b
    · rename_i z
      rw [if_neg z] at b
      split at a
      · rename_i z2
        rw [if_pos z2] at b
        cases a
        cases b
        exact ⟨K, rfl, fun c hc => old (g.2 c hc)⟩
      · rename_i z2
        rw [if_neg z2] at b
        exact hand (i - 1) a b
end

/-! ### all laid anew -/
theorem spot {m : Nat} (hm : Mk m) (ow : Array (Option Nat)) (h : Int) {j : Nat} (hj : j ≤ m) (free : oAt ow j = none) :
    ∃ K, SetTable.layClean.free m ow (SetTable.turns m) (SetTable.bits h % (m + 1)) (SetTable.bits h) = some (way m h K) ∧ oAt ow (way m h K) = none ∧ ∀ c, c < K → oAt ow (way m h c) ≠ none := by
  obtain ⟨n, a, b⟩ := starts hm h hj
  have at_n : way m h (off m (SetTable.bits h % (m + 1)) (SetTable.bits h) n) = j := by
    have z := nth_off m n (SetTable.bits h % (m + 1)) (SetTable.bits h)
    rw [itL_run] at z
    exact (congrArg SetTable.Probe.j z).trans b
  obtain ⟨K, x, y, z⟩ := st_least (p := fun k => oAt ow (way m h k) = none) _ (show oAt ow (way m h (off m (SetTable.bits h % (m + 1)) (SetTable.bits h) n)) = none by rw [at_n]; exact free)
  refine ⟨K, free_spec m ow _ n _ _ K a x (fun c hc => ?_) ?_, y, z⟩
  · exact Option.isNone_eq_false_iff.mpr (Option.ne_none_iff_isSome.mp (z c hc))
  · exact Option.isNone_iff_eq_none.mpr y
theorem own_step {m : Nat} (hm : Mk m) {done : List Int} {ow : Array (Option Nat)} (W : Own m done ow) (few : done.length ≤ m) (h : Int) :
    ∃ ow', stepF m (some (ow, done.length)) h = some (ow', done.length + 1) ∧ Own m (done ++ [h]) ow' := by
  obtain ⟨ps, len, cover⟩ := W.ps
  obtain ⟨j, a, b⟩ := st_missing ps (m + 1) (by omega)
  have fj : oAt ow j = none := Classical.byContradiction fun z => b (cover j (Nat.le_of_lt_succ a) z)
  obtain ⟨K, x, y, z⟩ := spot hm ow h (Nat.le_of_lt_succ a) fj
  have here := oAt_set_self (owner := ow) (some done.length) (show way m h K < ow.size by rw [W.sz]; exact Nat.lt_succ_of_le (way_in m h K))
  have there : ∀ i, i ≠ way m h K → oAt (ow.setIfInBounds (way m h K) (some done.length)) i = oAt ow i := fun i ne => oAt_set_ne _ ne
  have stay : ∀ i, oAt ow i ≠ none → oAt (ow.setIfInBounds (way m h K) (some done.length)) i ≠ none := fun i hi => by
    rw [there i fun e => hi (e ▸ y)]
    exact hi
  refine ⟨_, stepF_some x, ?_, fun i k hi e => ?_, fun k hk => ?_, way m h K :: ps, ?_, fun i hi e => ?_⟩
  · exact (Array.size_setIfInBounds ..).trans W.sz
  · by_cases c : i = way m h K
    · subst c
      cases here.symm.trans e
      exact ⟨h, K, by simp, rfl, fun c hc => stay _ (z c hc)⟩
    · obtain ⟨h', K', d1, d2, d3⟩ := W.at_ i k hi ((there i c).symm.trans e)
      have lt := (List.getElem?_eq_some_iff.mp d1).1
      exact ⟨h', K', (List.getElem?_append_left lt).trans d1, d2, fun c hc => stay _ (d3 c hc)⟩
  · by_cases c : k = done.length
    · exact ⟨_, way_in m h K, by rw [here, c]⟩
    · obtain ⟨i, d1, d2⟩ := W.all k (by simp at hk; omega)
      exact ⟨i, d1, (there i fun e => by rw [e, y] at d2; cases d2).trans d2⟩
  · simp [len]
  · by_cases c : i = way m h K
    · rw [c]; exact List.mem_cons_self ..
    · rw [there i c] at e
      exact List.mem_cons_of_mem _ (cover i hi e)
theorem lay {m : Nat} (hm : Mk m) (hs : Array Int) (few : hs.size ≤ m) : ∃ ow, SetTable.layClean m hs = some ow ∧ Own m hs.toList ow := by
  have go : ∀ (rest done : List Int) (ow : Array (Option Nat)), Own m done ow → done.length + rest.length ≤ m →
      ∃ ow' n, rest.foldl (stepF m) (some (ow, done.length)) = some (ow', n) ∧ Own m (done ++ rest) ow' := by
    intro rest
    induction rest with
    | nil => intro done ow W _; exact ⟨ow, _, rfl, by rw [List.append_nil]; exact W⟩
    | cons h rest ih =>
      intro done ow W l
      obtain ⟨ow1, a, W1⟩ := own_step hm W (by simp at l; omega) h
      obtain ⟨ow2, n, b, W2⟩ := ih (done ++ [h]) ow1 W1 (by simp at l ⊢; omega)
      refine ⟨ow2, n, ?_, by simpa using W2⟩
      rw [List.foldl_cons, a]
      simpa using b
  obtain ⟨ow, n, a, W⟩ := go hs.toList [] _ (Own.init m) (by simpa using few)
  refine ⟨ow, ?_, W⟩
  rw [layClean_eq]
  show Option.map _ (hs.toList.foldl (stepF m) (some (_, ([] : List Int).length))) = _
  rw [a]
  rfl
theorem anew (t : SetTable) {hs : Array Int} {n M : Nat} (size : SetTable.sizeAbove n = M + 1) (hm : Ms M) (few : hs.size ≤ M) :
    ∃ t' ord, t.relaid hs n = some (t', ord) ∧ ord.toList.Perm (List.range hs.size) ∧ Tb t' (ord.toList.map fun i => hs.getD i 0) ∧ t'.mask = M ∧ t'.led = t.led ∧ t'.plain = t.plain := by
  obtain ⟨ow, e, W⟩ := lay (mk_of hm) hs few
  have live : ∀ {j k : Nat}, (j, k) ∈ liveOf M ow ↔ j ≤ M ∧ oAt ow j = some k := mem_live W.sz
  have rises := ris_live (fun j => ow.getD j none) (List.range (M + 1)) (by unfold Ris; exact List.pairwise_lt_range)
  have r1 : Ris ((liveOf M ow).map Prod.fst) := rises.1
  have has : ∀ k, k < hs.size → k ∈ (liveOf M ow).map Prod.snd := fun k hk => by
    obtain ⟨j, a, b⟩ := W.all k hk
    exact List.mem_map_of_mem (f := Prod.snd) (live.mpr ⟨a, b⟩)
  have count : (liveOf M ow).length = hs.size := by
    obtain ⟨ps, l, cover⟩ := W.ps
    have up := nat_nodup_len ((liveOf M ow).map Prod.fst) ps (r1.imp Nat.ne_of_lt) fun j hj => by
      obtain ⟨⟨a, b⟩, c, rfl⟩ := List.mem_map.mp hj
      have d := live.mp c
      exact cover a d.1 (by rw [d.2]; simp)
    have down := nat_nodup_len (List.range hs.size) ((liveOf M ow).map Prod.snd) List.nodup_range fun k hk => has k (List.mem_range.mp hk)
    simp at up down l
    omega
  refine ⟨tabOf t M ow, ((liveOf M ow).map Prod.snd).toArray, ?_, ?_, ⟨hm, r1, ?_, fun j hj => ?_, rfl, fun i h j a b => ?_⟩, rfl, rfl, rfl⟩
  · rw [relaid_eq, show SetTable.sizeAbove n - 1 = M by omega, e]
    rfl
  · exact perm_range hs.size _ (by simpa using count) has
  · show ((liveOf M ow).map Prod.fst).length = _
    simp
  · exact Nat.le_of_lt_succ (List.mem_range.mp (rises.2 j hj))
  · have b' : ((liveOf M ow).map Prod.fst)[i]? = some j := b
    have a' : ((liveOf M ow).map fun q => hs.getD q.2 0)[i]? = some h := by
      have z : (((liveOf M ow).map Prod.snd).map fun k => hs.getD k 0)[i]? = some h := a
      rw [List.map_map] at z
      exact z
    rw [List.getElem?_map] at a' b'
    obtain ⟨q, hq, e1⟩ := Option.map_eq_some_iff.mp a'
    rw [hq] at b'
    cases b'
    obtain ⟨c1, c2⟩ := live.mp (show (q.1, q.2) ∈ liveOf M ow from List.mem_of_getElem? hq)
    obtain ⟨h0, K, d1, d2, d3⟩ := W.at_ q.1 q.2 c1 c2
    have e0 : h0 = h := by
      rw [← e1, Array.getD_eq_getD_getElem?, ← Array.getElem?_toList, d1]
      rfl
    subst e0
    refine ⟨K, d2, fun c hc => ?_⟩
    obtain ⟨k, hk⟩ := Option.ne_none_iff_exists'.mp (d3 c hc)
    exact List.mem_map_of_mem (f := Prod.fst) (live.mpr ⟨way_in M h0 c, hk⟩)

/-! ### which sizes come -/
/-- how many rows a table takes before it grows, by its mask -/
def Rm (m n : Nat) : Prop := n * 5 < m * 3 ∧ n < 4096
theorem grows {m n : Nat} (hm : Ms m) (r : Rm m n) (full : m * 3 ≤ (n + 1) * 5) (few : n + 1 < 4096) :
    ∃ M, Ms M ∧ SetTable.sizeAbove (SetTable.grown (n + 1)) = M + 1 ∧ Rm M (n + 1) := by
  obtain ⟨r1, r2⟩ := r
  rcases hm with rfl | rfl | rfl | rfl | rfl | rfl
  · have e : n = 4 := by omega
    subst e
    exact ⟨31, .inr (.inl rfl), by decide +kernel, by unfold Rm; omega⟩
  · have e : n = 18 := by omega
    subst e
    exact ⟨127, .inr (.inr (.inl rfl)), by decide +kernel, by unfold Rm; omega⟩
  · have e : n = 76 := by omega
    subst e
    exact ⟨511, .inr (.inr (.inr (.inl rfl))), by decide +kernel, by unfold Rm; omega⟩
  · have e : n = 306 := by omega
    subst e
    exact ⟨2047, .inr (.inr (.inr (.inr (.inl rfl)))), by decide +kernel, by unfold Rm; omega⟩
  · have e : n = 1228 := by omega
    subst e
    exact ⟨8191, .inr (.inr (.inr (.inr (.inr rfl)))), by decide +kernel, by unfold Rm; omega⟩
  · omega
end Ws

/-! S1: a set of tuples of ints, fewer than 4096: found or put in. -/
namespace Ws
open PySem PySem.Spec L2 PyProof.Rows

/-- where a search for the hash stands after c steps -/
def pr (m : Nat) (h : Int) (c : Nat) : SetTable.Probe := nth m (runAt m (SetTable.bits h % (m + 1)) (SetTable.bits h)) c
theorem pr_add (m : Nat) (h : Int) (c q : Nat) : nth m (pr m h c) q = pr m h (c + q) := (nth_add m c _ q).symm
theorem pr_clean (m : Nat) (h : Int) : ∀ c, (pr m h c).dummy = none
  | 0 => rfl
  | c + 1 => by
    have e : pr m h (c + 1) = adv m (pr m h c) := nth_succ m _ c
    rw [e]
    unfold adv
    split
    · exact pr_clean m h c
    · exact pr_clean m h c
theorem Tb.probe {t : SetTable} {hs : List Int} (T : Tb t hs) {g : Nat → Int} {h : Int} (hg : ∀ (i : Nat) (x : Int), hs[i]? = some x → g i = x) {K c : Nat} (gap : Gap t h K) (near : K < 10 * SetTable.turns t.mask) (hc : c ≤ K) :
    (∃ q i, c ≤ q ∧ q < K ∧ t.place.toList[i]? = some (way t.mask h q) ∧ (∀ (q' i' : Nat), c ≤ q' → q' < q → t.place.toList[i']? = some (way t.mask h q') → hs[i']? ≠ some h) ∧ t.probe g h (pr t.mask h c) = some (.candidate (way t.mask h q) i (pr t.mask h (q + 1)))) ∨
    ((∀ (q' i' : Nat), c ≤ q' → q' < K → t.place.toList[i']? = some (way t.mask h q') → hs[i']? ≠ some h) ∧ t.probe g h (pr t.mask h c) = some (.empty (way t.mask h K) none)) := by
  have j_at : ∀ q, (nth t.mask (pr t.mask h c) q).j = way t.mask h (c + q) := fun q => congrArg SetTable.Probe.j (pr_add t.mask h c q)
  have back : ∀ q, c ≤ q → (nth t.mask (pr t.mask h c) (q - c)).j = way t.mask h q := fun q z => by rw [j_at, Nat.add_sub_cancel' z]
  rcases go_spec t T.up T.clean g h (10 * SetTable.turns t.mask) (K - c) (pr t.mask h c) (pr_clean t.mask h c) (by omega) (fun q hq => by rw [j_at]; exact gap.2 _ (by omega)) (by rw [back K hc]; exact gap.1) with ⟨q, i, b1, b2, _, b4, b5⟩ | ⟨b1, b2⟩
  · rw [j_at] at b2
    refine .inl ⟨c + q, i, Nat.le_add_right _ _, by omega, b2, fun q' i' x y z w => b4 (q' - c) i' (by omega) (by rw [back q' x]; exact z) (hg i' h w), ?_⟩
    rw [pr_add, pr_add] at b5
    exact b5
  · refine .inr ⟨fun q' i' x y z w => b1 (q' - c) i' (by omega) (by rw [back q' x]; exact z) (hg i' h w), ?_⟩
    rw [back K hc] at b2
    exact b2

/-- the set at a: its rows L (address and ints), its table -/
structure Bag (P : Program) (w : World) (h : Heap) (a : Addr) (L : List (Addr × List Int)) (es : Array (Int × Value)) (ep : Nat) (t : SetTable) : Prop where
  obj : ∃ o, h.get? a = some o ∧ o.ExactSet ∧ o.data = .set es ep t
  rows : es.toList = rowsOf P w L
  tb : Tb t (L.map fun p => thash P w p.2)
  one : (L.map Prod.snd).Nodup
  key : ∀ p ∈ L, IsT P w h p.2 p.1
  plain : t.plain = true
  led : w.params.followText "set-order" = true ∨ t.led = true
  room : Rm t.mask L.length
section
variable {P : Program} {w : World} {A : Around} {E : Value → Shared → Prop} {s : Shared} {a : Addr} {L : List (Addr × List Int)} {es : Array (Int × Value)} {ep : Nat} {t : SetTable}
theorem rows_len {L : List (Addr × List Int)} {es : Array (Int × Value)} (e : es.toList = rowsOf P w L) : es.size = L.length := by
  have q := congrArg List.length e
  simpa [rowsOf] using q
theorem Bag.cnt (R : Bag P w s.heap a L es ep t) : t.place.size = L.length := by
  have q := R.tb.cnt
  simpa using q
theorem fits_at {n : Nat} {t : SetTable} (clean : t.dummies = #[]) (e : t.place.size = n) (l : n ≤ t.mask) : t.fits n = true := by
  unfold SetTable.fits SetTable.fill
  rw [clean, e]
  simpa using l
theorem Rm.le {m n : Nat} (r : Rm m n) : n ≤ m := by unfold Rm at r; omega
theorem Bag.fits (R : Bag P w s.heap a L es ep t) : t.fits es.size = true := by
  have c := rows_len R.rows
  have l := R.room.le
  exact fits_at R.tb.clean (R.cnt.trans c.symm) (by omega)
theorem Bag.row (R : Bag P w s.heap a L es ep t) {i : Nat} {p : Addr × List Int} (h : L[i]? = some p) : es[i]? = some (thash P w p.2, Value.ref p.1) := by
  rw [← Array.getElem?_toList, R.rows, rowsOf, List.getElem?_map, h]
  rfl
theorem Bag.hash (R : Bag P w s.heap a L es ep t) (i : Nat) (x : Int) (h : (L.map fun p => thash P w p.2)[i]? = some x) : (es[i]?.map Prod.fst).getD 0 = x := by
  rw [List.getElem?_map] at h
  obtain ⟨p, hp, e⟩ := Option.map_eq_some_iff.mp h
  rw [R.row hp]
  exact e
theorem Bag.stays (R : Bag P w s.heap a L es ep t) : ¬ t.gaveWay = true := by
  unfold SetTable.gaveWay
  rw [(mk_of R.tb.ms).odd]
  exact fun z => nomatch z

/-- THE SEARCH, from the c-th step on -/
theorem look (R : Bag P w s.heap a L es ep t) {x : Addr} {k : List Int} (hx : IsT P w s.heap k x) (hu : A.units < cLine) {K : Nat} (near : K < 10 * SetTable.turns t.mask) (gap : Gap t (thash P w k) K) {Q : SetFound → Shared → Prop}
    (yes : k ∈ L.map Prod.snd → Q (.there none) s) (no : k ∉ L.map Prod.snd → Q (.free (way t.mask (thash P w k) K) false) s) :
    ∀ (f c : Nat) (stand : Option SetTable.Probe), stand.getD (t.probeStart (thash P w k)) = pr t.mask (thash P w k) c → c ≤ K → K < c + f →
      (∀ (i : Nat) (p : Addr × List Int), L[i]? = some p → p.2 = k → ∃ q, c ≤ q ∧ q < K ∧ t.place.toList[i]? = some (way t.mask (thash P w k) q)) →
      wpAny (model P w) A (setSearchFrom a (.ref x) (thash P w k) true f stand) Q E s := by
  intro f
  induction f with
  | zero => intro c _ _ l1 l2 _; omega
  | succ f ih =>
    intro c stand hst hc hf left
    obtain ⟨o, ho, hex, hd⟩ := R.obj
    rw [setSearchFrom_succ]
    refine wpAny_bind (wpAny_setState_of ho hd R.fits ?_)
    dsimp only
    refine wp_if_neg R.stays ?_
    try refine wpAny_bind (wpAny_pure ?_)
    have hashes : ∀ (i : Nat) (p : Addr × List Int), L[i]? = some p → p.2 = k → (L.map fun p => thash P w p.2)[i]? = some (thash P w k) := fun i p hp e => by rw [List.getElem?_map, hp, ← e]; rfl
    rw [hst]
    rcases R.tb.probe (g := fun i => (es[i]?.map (·.1)).getD 0) R.hash gap near hc with ⟨q, i, q1, q2, q3, q4, q5⟩ | ⟨q1, q2⟩
    · rw [q5]
      dsimp only
      have il : i < L.length := by
        have z := (List.getElem?_eq_some_iff.mp q3).1
        have y := R.cnt
        rw [Array.length_toList] at z
        omega
      obtain ⟨p, hp⟩ : ∃ p, L[i]? = some p := ⟨_, List.getElem?_eq_getElem il⟩
      have pL := List.mem_of_getElem? hp
      have after : wpAny (model P w) A (searchRest a (.ref x) (thash P w k) true f es t (way t.mask (thash P w k) q) i (pr t.mask (thash P w k) (q + 1))) Q E s := by
        unfold searchRest
        rw [R.row hp]
        dsimp only
        refine wpAny_bind (wpAny_holding (wpAny_eqBool_tuple hu (R.key p pL) hx ?_))
        refine wpAny_bind (wpAny_setState_of ho hd R.fits ?_)
        dsimp only
        by_cases same : p.2 = k
        · exact wp_if_pos (by simpa using same) (wpAny_pure (yes (List.mem_map.mpr ⟨p, pL, same⟩)))
        · refine wp_if_neg (by simpa using same) ?_
          try refine wpAny_bind (wpAny_pure ?_)
          have lives : t.slot (way t.mask (thash P w k) q) = .live i := slot_live R.tb.up q3
          rw [sameMem]
          dsimp only
          simp only [if_true, lives, R.row hp]
          refine wpAny_bind (wpAny_isSame_ref_self (wpAny_bind (wpAny_pure ?_)))
          simp only [if_true]
          refine wp_if_neg (by simpa using same) ?_
          refine ih (q + 1) _ rfl q2 (by omega) fun i0 p0 h0 e0 => ?_
          obtain ⟨c', b1, b2, b3⟩ := left i0 p0 h0 e0
          refine ⟨c', ?_, b2, b3⟩
          apply Classical.byContradiction
          intro z
          by_cases y : c' < q
          · exact q4 c' i0 b1 y b3 (hashes i0 p0 h0 e0)
          · have ee : c' = q := by omega
            subst ee
            have l0 : t.slot (way t.mask (thash P w k) c') = .live i0 := slot_live R.tb.up b3
            rw [lives] at l0
            cases l0
            cases h0.symm.trans hp
            exact same e0
      by_cases led : t.led = true
      · refine wp_if_neg (by simp [led]) ?_
        try refine wpAny_bind (wpAny_pure ?_)
        exact after
      · refine wp_if_pos (by simp [led]) ?_
        refine wpAny_bind (seen_tup hx (fun y hy => ?_) ?_)
        · obtain ⟨e, he, rfl⟩ := List.mem_map.mp hy
          have m1 : e ∈ es.toList := by
            have z : e ∈ es ∧ e.1 = thash P w k := by simpa using he
            exact Array.mem_toList_iff.mpr z.1
          rw [R.rows] at m1
          obtain ⟨p2, m2, rfl⟩ := List.mem_map.mp m1
          exact ⟨p2.2, p2.1, rfl, R.key p2 m2⟩
        · refine wp_if_neg Bool.false_ne_true ?_
          try refine wpAny_bind (wpAny_pure ?_)
          exact after
    · rw [q2]
      dsimp only
      refine wpAny_pure (no fun hm => ?_)
      obtain ⟨p, pL, e⟩ := List.mem_map.mp hm
      obtain ⟨i, hi⟩ := List.mem_iff_getElem?.mp pL
      obtain ⟨c', b1, b2, b3⟩ := left i p hi e
      exact q1 c' i b1 b2 b3 (hashes i p hi e)
theorem find (R : Bag P w s.heap a L es ep t) {x : Addr} {k : List Int} (hx : IsT P w s.heap k x) (hu : A.units < cLine) {Q : SetFound → Shared → Prop}
    (yes : k ∈ L.map Prod.snd → Q (.there none) s) (no : ∀ K, k ∉ L.map Prod.snd → Gap t (thash P w k) K → Q (.free (way t.mask (thash P w k) K) false) s) :
    wpAny (model P w) A (setSearch a (.ref x) (thash P w k) true) Q E s := by
  have l := R.room.le
  obtain ⟨K, near, gap⟩ := R.tb.gap (by rw [List.length_map]; exact l) (thash P w k)
  have far := (mk_of R.tb.ms).bd
  unfold setSearch
  refine look R hx hu near gap yes (fun z => no K z gap) 100000 0 none rfl (Nat.zero_le K) (by unfold SetTable.turns at near; omega) fun i p hp e => ?_
  obtain ⟨j, hj⟩ : ∃ j, t.place.toList[i]? = some j := by
    have z := (List.getElem?_eq_some_iff.mp hp).1
    have y := R.cnt
    exact ⟨_, List.getElem?_eq_getElem (by rw [Array.length_toList]; omega)⟩
  obtain ⟨q, b, c⟩ := R.tb.met gap (i := i) (by rw [List.getElem?_map, hp, ← e]; rfl) hj
  exact ⟨q, Nat.zero_le q, b, by rw [c]; exact hj⟩

/-- laid anew, larger -/
theorem bigger {o : Obj} {n M : Nat} (ho : s.heap.get? a = some o) (hex : o.ExactSet) (hd : o.data = .set es ep t) (rows : es.toList = rowsOf P w L) (tb : Tb t (L.map fun p => thash P w p.2)) (le : L.length ≤ t.mask)
    (one : (L.map Prod.snd).Nodup) (key : ∀ p ∈ L, IsT P w s.heap p.2 p.1) (pl : t.plain = true) (ld : w.params.followText "set-order" = true ∨ t.led = true)
    (size : SetTable.sizeAbove n = M + 1) (ms : Ms M) (room : Rm M L.length) {Q : Unit → Shared → Prop}
    (q : ∀ h' L' es' ep' t', Heap.SameBut a s.heap h' → Bag P w h' a L' es' ep' t' → L'.Perm L → Q () { s with heap := h' }) : wpAny (model P w) A (setRelay a n) Q E s := by
  have cnt := rows_len rows
  have cnt2 : t.place.size = es.size := by have z := tb.cnt; simpa [cnt] using z
  have far := (mk_of ms).bd
  obtain ⟨t', ord, e, pm, T, em, el, e3⟩ := anew t (hs := es.map (·.1)) size ms (by rw [Array.size_map, cnt]; exact room.le)
  rw [Array.size_map, cnt] at pm
  obtain ⟨L2, r1, r2, r3⟩ := order_rows L es ord rows pm
  rw [← r3] at T
  have cnt3 : (ord.filterMap (es[·]?)).size = es.size := by rw [rows_len r1, r2.length_eq, cnt]
  have few : L.length < 4096 := room.2
  rw [setRelay_eq]
  refine wpAny_bind (wpAny_setState_of ho hd (fits_at tb.clean cnt2 (by omega)) ?_)
  dsimp only
  refine wp_if_neg (by rw [sizeLine_eq, size]; omega) ?_
  try refine wpAny_bind (wpAny_pure ?_)
  rw [e]
  dsimp only
  refine wpAny_bind ?_
  refine wp_if_neg (by simp [cnt3]) ?_
  try refine wpAny_bind (wpAny_pure ?_)
  refine wpAny_pure ?_
  dsimp only
  refine wpAny_storeSet_of ho hd ?_ (by rw [cnt3, cnt, sizeLine_eq]; omega)
  have sb := Heap.SameBut.update s.heap a (Obj.putSet (ord.filterMap (es[·]?)) t')
  refine q _ L2 _ (ep + 1) t' sb ⟨⟨_, store_at ho hd, ⟨hex.1, hex.2.1, hex.2.2⟩, rfl⟩, r1, T, (r2.map Prod.snd).nodup_iff.mpr one, fun p hp => ?_, e3.trans pl, ?_, ?_⟩ r2
  · exact isT_same (key p (r2.mem_iff.mp hp)) ho hd sb
  · rw [el]; exact ld
  · rw [em, r2.length_eq]; exact room
/-- PUT IN, if it is not there -/
theorem join (R : Bag P w s.heap a L es ep t) {x : Addr} {k : List Int} (hx : IsT P w s.heap k x) (hu : A.units < cLine) (few : L.length + 1 < 4096) {Q : Bool → Shared → Prop}
    (q : ∀ b h' L' es' ep' t', Heap.SameBut a s.heap h' → Bag P w h' a L' es' ep' t' → (k ∈ L.map Prod.snd → L' = L) → (k ∉ L.map Prod.snd → L'.Perm ((x, k) :: L)) → Q b { s with heap := h' }) :
    wpAny (model P w) A (setAddHashed a (.ref x) (thash P w k)) Q E s := by
  obtain ⟨o, ho, hex, hd⟩ := R.obj
  have cnt := rows_len R.rows
  delta setAddHashed
  apply wpAny_holding
  have one_more : (100000 : Nat) = 99999 + 1 := rfl
  rw [one_more, setAddHashedIn_succ]
  apply wpAny_bind
  apply wpAny_setState_of ho hd R.fits
  dsimp only
  refine wp_if_neg (by simp [byScan, Value.scannable]) ?_
  try refine wpAny_bind (wpAny_pure ?_)
  refine wpAny_bind (find R hx hu (fun yes => ?_) fun K no gap => ?_)
  · dsimp only
    exact wpAny_pure (q false s.heap L es ep t (Heap.SameBut.refl a s.heap) R (fun _ => rfl) fun z => absurd yes z)
  dsimp only
  refine wpAny_bind (wpAny_setState_of ho hd R.fits ?_)
  dsimp only
  obtain ⟨lp, T1⟩ := R.tb.put gap rfl
  have ep2 : (t.put (way t.mask (thash P w k) K)).2 = SetTable.below t.place (way t.mask (thash P w k) K) := rfl
  have em : (t.put (way t.mask (thash P w k) K)).1.mask = t.mask := rfl
  have epl : (t.put (way t.mask (thash P w k) K)).1.plain = true := R.plain
  have eld : w.params.followText "set-order" = true ∨ (t.put (way t.mask (thash P w k) K)).1.led = true := R.led
  generalize t.put (way t.mask (thash P w k) K) = pt at T1 ep2 em epl eld ⊢
  obtain ⟨t1, p⟩ := pt
  dsimp only at T1 ep2 em epl eld ⊢
  subst ep2
  first
    | (refine wpAny_bind ?_; refine wp_if_pos epl ?_; refine hashBy_tup hx ?_)
    | refine wp_if_pos epl (wpAny_bind (hashBy_tup hx ?_))
  simp only [if_true]
  have rows1 : (SetTable.insertAt es (SetTable.below t.place (way t.mask (thash P w k) K)) (thash P w k, Value.ref x)).toList = rowsOf P w (L.take (SetTable.below t.place (way t.mask (thash P w k) K)) ++ (x, k) :: L.drop (SetTable.below t.place (way t.mask (thash P w k) K))) := by
    rw [rows_put, SetTable.toList_insertAt, R.rows]
  generalize SetTable.below t.place (way t.mask (thash P w k) K) = p at lp T1 rows1 ⊢
  have pm := put_perm L p (x, k)
  have T2 : Tb t1 ((L.take p ++ (x, k) :: L.drop p).map fun p => thash P w p.2) := by
    rw [List.map_append, List.map_cons, List.map_take, List.map_drop]
    exact T1
  have one1 : ((L.take p ++ (x, k) :: L.drop p).map Prod.snd).Nodup := (pm.map Prod.snd).nodup_iff.mpr (List.nodup_cons.mpr ⟨no, R.one⟩)
  generalize L.take p ++ (x, k) :: L.drop p = L1 at pm T2 one1 rows1
  have len1 : L1.length = L.length + 1 := pm.length_eq
  have cnt1 := rows_len rows1
  generalize SetTable.insertAt es p (thash P w k, Value.ref x) = es1 at rows1 cnt1 ⊢
  refine wpAny_bind (wpAny_storeSet_of ho hd ?_ (by rw [cnt1, sizeLine_eq]; omega))
  have sb := Heap.SameBut.update s.heap a (Obj.putSet es1 t1)
  have ho1 := store_at (es' := es1) (t' := t1) ho hd
  have key1 : ∀ p ∈ L1, IsT P w (s.heap.update a (Obj.putSet es1 t1)) p.2 p.1 := fun p hp =>
    (List.mem_cons.mp (pm.mem_iff.mp hp)).elim (fun e => by rw [e]; exact isT_same hx ho hd sb) fun z => isT_same (R.key p z) ho hd sb
  generalize s.heap.update a (Obj.putSet es1 t1) = h1 at sb ho1 key1 ⊢
  have fill : t1.fill = L.length + 1 := by
    have z := T2.cnt
    unfold SetTable.fill
    rw [T2.clean]
    simpa [len1] using z
  have room0 := R.room
  have ful : t1.tooFull = decide ((L.length + 1) * 5 ≥ t.mask * 3) := by unfold SetTable.tooFull; rw [fill, em]
  by_cases full : (L.length + 1) * 5 ≥ t.mask * 3
  · first
      | (refine wpAny_bind ?_; refine wp_if_pos (by rw [ful]; simpa using full) ?_)
      | (refine wp_if_pos (by rw [ful]; simpa using full) ?_; refine wpAny_bind ?_)
    obtain ⟨M, ms, size, room⟩ := grows R.tb.ms room0 full few
    rw [cnt]
    refine bigger (s := { s with heap := h1 }) ho1 ⟨hex.1, hex.2.1, hex.2.2⟩ rfl rows1 T2 (by rw [len1, em]; have := (mk_of R.tb.ms).bd; unfold Rm at room0; omega) one1 key1 epl eld size ms (by rw [len1]; exact room) ?_
    intro h2 L2 es2 ep2 t2 sb2 R2 pm2
    exact wpAny_pure (q true h2 L2 es2 ep2 t2 (sb.trans sb2) R2 (fun z => absurd z no) fun _ => pm2.trans pm)
  · first
      | refine wp_if_neg (by rw [ful]; simpa using full) ?_
      | (refine wpAny_bind ?_; refine wp_if_neg (by rw [ful]; simpa using full) ?_; refine wpAny_pure ?_)
    refine wpAny_pure (q true h1 L1 es1 (ep + 1) t1 sb ⟨⟨_, ho1, ⟨hex.1, hex.2.1, hex.2.2⟩, rfl⟩, rows1, T2, one1, key1, epl, eld, ?_⟩ (fun z => absurd z no) fun _ => pm)
    unfold Rm
    rw [em, len1]
    omega
/-- a new set -/
theorem bag_new {h : Heap} (ho : h.get? a = some { cls := .type "set", dict := none, data := .set #[] 0 (.fresh 0 0 (!w.params.followText "set-order")) }) : Bag P w h a [] #[] 0 (.fresh 0 0 (!w.params.followText "set-order")) := by
  refine ⟨⟨_, ho, ⟨rfl, rfl, rfl⟩, rfl⟩, rfl, ⟨.inl rfl, List.Pairwise.nil, rfl, fun j hj => (by cases hj), rfl, fun i h j hi => (by simp at hi)⟩, List.nodup_nil, fun p hp => (by cases hp), rfl, ?_, ?_⟩
  · cases e : w.params.followText "set-order"
    · exact .inr rfl
    · exact .inl rfl
  · show 0 * 5 < 7 * 3 ∧ 0 < 4096
    decide
end
end Ws

/-! S2: the set of tuples as a thing of the walk; set comprehension of tuples of ints, one for. -/
namespace Ws
open PySem PySem.Spec L2
open PyProof.Rows hiding St

/-- the set, without its tuples -/
def Bag0 (P : Program) (w : World) (a : Addr) (L : List (Addr × List Int)) (h : Heap) : Prop :=
  ∃ (es : Array (Int × Value)) (ep : Nat) (t : SetTable), (∃ o, h.get? a = some o ∧ o.ExactSet ∧ o.data = .set es ep t) ∧ es.toList = rowsOf P w L ∧ Tb t (L.map fun p => thash P w p.2) ∧ (L.map Prod.snd).Nodup ∧ t.plain = true ∧ (w.params.followText "set-order" = true ∨ t.led = true) ∧ Rm t.mask L.length
def BagO (X : Cx) (a : Addr) (L : List (Addr × List Int)) : HO := .ext (Bag0 X.prog X.w a L)
/-- each row's tuple stands in the heap part -/
def Keys (K : PySem.W.Frag) (H : Hp) (L : List (Addr × List Int)) : Prop := ∀ p ∈ L, SqT K H p.1 (p.2.map V.int)
section
variable {P : Program} {w : World} {a : Addr} {L : List (Addr × List Int)} {h : Heap}
theorem Bag.bare {es : Array (Int × Value)} {ep : Nat} {t : SetTable} (R : Bag P w h a L es ep t) : Bag0 P w a L h := ⟨es, ep, t, R.obj, R.rows, R.tb, R.one, R.plain, R.led, R.room⟩
theorem Bag0.full (R : Bag0 P w a L h) (k : ∀ p ∈ L, IsT P w h p.2 p.1) : ∃ es ep t, Bag P w h a L es ep t := by
  obtain ⟨es, ep, t, r1, r2, r3, r4, r5, r6, r7⟩ := R
  exact ⟨es, ep, t, ⟨r1, r2, r3, r4, k, r5, r6, r7⟩⟩
theorem Bag0.obj {H : Hp} (R : Bag0 P w a L h) : ObjOk P w H h a (.ext (Bag0 P w a L)) := by
  have ⟨_, _, _, ⟨o, ho, _⟩, _⟩ := R
  exact ⟨R, ⟨o, ho⟩, fun h1 h2 ⟨es, ep, t, ⟨u, hu, z⟩, r⟩ k => ⟨es, ep, t, ⟨u, k u hu, z⟩, r⟩⟩
end
section
variable {X : Cx} {pins : List (Addr × Obj)} {σ : L2.St} {H : Hp} {s : Shared}
theorem bag_at (I : Inv X pins σ H s) {a : Addr} {L : List (Addr × List Int)} (h : H a = some (BagO X a L)) (k : Keys X.K H L) : ∃ es ep t, Bag X.prog X.w s.heap a L es ep t :=
  Bag0.full (I.hok a _ h).1 fun p hp => I.isT (k p hp)
/-- D.add(b) -/
theorem bag_add {E : Value → Shared → Prop} {D b : Addr} {k : List Int} {L : List (Addr × List Int)} {Q : Value → Shared → Prop} (I : Inv X pins σ H s) (hu : X.A.units + 64 < cLine) (hD : H D = some (BagO X D L)) (ks : Keys X.K H L) (hk : SqT X.K H b (k.map V.int)) (few : L.length + 1 < 4096)
    (q : ∀ L' s', (k ∈ L.map Prod.snd → L' = L) → (k ∉ L.map Prod.snd → L'.Perm ((b, k) :: L)) → Inv X pins σ (upd H D (BagO X D L')) s' → Q .none s') : wpAny (model X.prog X.w) X.A (call (.builtin "set.add") [.ref D, .ref b]) Q E s := by
  obtain ⟨es, ep, t, R⟩ := bag_at I hD ks
  obtain ⟨o, ho, hex, _⟩ := R.obj
  have hx : IsT X.prog X.w s.heap k b := I.isT hk
  refine wpAny_call_entry F.slot_set_add ⟨o, ho, hex.1⟩ F.entry_set_add ?_ (F.args_set_add_2 _ _)
  unfold Builtin.«set.add» Builtin.Frozenset.oneOther Builtin.Frozenset.addrOf setAdd
  simp only [bind_assoc, List.isEmpty_nil]
  iterate 2
    apply wpAny_bind
    apply wpAny_pure
    try dsimp only
  refine wpAny_bind (wpAny_holding (wpAny_bind (wpAny_pyHash_tuple (by show X.A.units + _ < _; omega) hx ?_)))
  refine join (s := { s with toks := s.toks + (k.length + 1) }) R hx (by show X.A.units + _ < _; omega) few fun z h' L' es' ep' t' sb R' c1 c2 => ?_
  show wpAny _ _ (ret Value.none) _ _ _
  refine wpAny_pure ⟨_, rfl, q L' _ c1 c2 (I.write (e := D) (x := D) (by rw [hD]; trivial) (.inl rfl) (fun c u ne hc => (sb.2 c ne).trans hc) ?_ R'.bare.obj)⟩
  obtain ⟨u, hu', _⟩ := R'.obj
  exact ⟨u, hu'⟩
end

/-! ### the comprehension -/
/-- what a turn's item has to be, and what comes of it -/
def AddK (X : Cx) (D : Addr) (y : V) (H : Hp) (Nx : Hp → Prop) : Prop := ∃ b k L, y = V.ref b ∧ SqT X.K H b (k.map V.int) ∧ H D = some (BagO X D L) ∧ Keys X.K H L ∧ L.length + 1 < 4096 ∧
  ∀ L', (k ∈ L.map Prod.snd → L' = L) → (k ∉ L.map Prod.snd → L'.Perm ((b, k) :: L)) → Nx (upd H D (BagO X D L'))
def tSk (X : Cx) (wi : TI) (g : TG) (tt : TT) (te : TE) (vs : List Nat) : TE := fun σ H Q => wi σ H fun J H1 => ∀ D, H1 D = none → ∃ W : Nat → Nat → Hp → Prop, (∃ m, W 0 m (upd H1 D (BagO X D []))) ∧
  ∀ i m H2, W i m H2 → (J.stop i H2 ∧ Q (.ref D) H2) ∨ (J.go i H2 ∧ ∃ Nx : Hp → Prop, (∀ H3, Nx H3 → ∃ m', m' < m ∧ W (i + 1) m' H3) ∧
    ∀ x H3, J.yld i H2 x H3 → g x (wipe σ vs) H3 fun σ4 H4 => wipe σ4 vs = wipe σ vs ∧ tt σ4 H4 fun b H5 => if b = true then te σ4 H5 fun y H6 => AddK X D y H6 Nx else Nx H5)
section
variable {X : Cx} {elt tg iter : Expr} {ifs : List Expr} {scope : Scope} {own : List (PySem.Str × Nat)} {pos : Pos} {wi : TI} {g : TG} {tt : TT} {te : TE}
theorem pe_sk (hc : X.calm = true) (hu : X.A.units + 64 < cLine) (hN : X.N.Nodup) (hi : PI X tg iter wi) (ok : BlkOk X.N X.env.scope scope own)
    (hg : ∀ s H C cl fp, PG (X.blk s H scope (compEnvC scope cl C X.env) fp) tg g) (ht : ∀ s H C cl fp, PTs (X.blk s H scope (compEnvC scope cl C X.env) fp) ifs tt)
    (he : ∀ s H C cl fp, PE (X.blk s H scope (compEnvC scope cl C X.env) fp) elt te) (hs : ∀ x, foldedSetIterable iter X.env x = pure x) :
    PE X (.SetComp elt [⟨tg, iter, ifs, 0⟩] scope pos) (tSk X wi g tt te (own.map Prod.snd)) := by
  refine ⟨fun pins s σ H Q I h => ?_⟩
  rw [PpSet.eval_SetComp]
  have clo : ∀ y ∈ scope.names, y.2 = .free → ∃ c, X.env.cells.lookup y.1 = some c := fun y hy e => (ok.free y hy e).elim (fun z => I.ok.has _ (Or.inl z)) fun z => I.ok.has _ (Or.inr z)
  refine wpAny_comprehension_free (use := none) rfl hs (closure_ok clo) ok.kind (fun y hy e => by rw [ok.uniq y hy, e]) (thn (hi.run pins s σ H _ I h) fun xv s1 r1 => thn r1 fun itv s2 r2 => ?_)
  obtain ⟨it, fp, tn, J, H2, rfl, I2, T, at2, fp2, turns⟩ := r2
  refine PpSet.newSet_ok (newEnv_comp ?_)
  have fresh2 : H2 s2.heap.objs.size = none := I2.hok.fresh (Nat.le_refl _)
  obtain ⟨W, ⟨m0, w0⟩, turn⟩ := turns _ fresh2
  have young : ∀ b ∈ fp, b < s2.heap.objs.size := fun b hb => by
    obtain ⟨_, e, _⟩ := T.obj _ _ at2 b hb
    exact Heap.lt_size e
  have I3 : Inv X pins σ (upd H2 s2.heap.objs.size (BagO X s2.heap.objs.size [])) { s2 with heap := s2.heap.push { cls := .type "set", dict := none, data := .set #[] 0 (.fresh 0 0 (!X.w.params.followText "set-order")) } } :=
    I2.laid (t' := s2.toks) (fun b o e => Heap.get?_push_of_some _ e) (Nat.le_refl _) (bag_new (P := X.prog) (w := X.w) (Heap.get?_push_size _ rfl)).bare.obj
  have keep3 : ∀ (b : Addr) (o : Obj), s2.heap.get? b = some o → (s2.heap.push { cls := .type "set", dict := none, data := .set #[] 0 (.fresh 0 0 (!X.w.params.followText "set-order")) }).get? b = some o := fun b o e => Heap.get?_push_of_some _ e
  have size3 : (s2.heap.push { cls := .type "set", dict := none, data := .set #[] 0 (.fresh 0 0 (!X.w.params.followText "set-order")) }).objs.size = s2.heap.objs.size + 1 := Heap.size_push ..
  generalize s2.heap.push { cls := .type "set", dict := none, data := .set #[] 0 (.fresh 0 0 (!X.w.params.followText "set-order")) } = hp3 at I3 keep3 size3 ⊢
  generalize s2.heap.objs.size = D at fresh2 w0 turn young I3 size3 ⊢
  have fp3 : ∀ b ∈ fp, FpOk X pins (upd H2 D (BagO X D [])) b ∧ b < hp3.objs.size := fun b hb => by
    have lt := young b hb
    exact ⟨⟨(upd_ne (Nat.ne_of_lt lt)).trans (fp2 b hb).1, (fp2 b hb).2⟩, by rw [size3]; exact Nat.lt_succ_of_lt lt⟩
  have at3 : tn 0 hp3 := T.keep _ _ _ at2 fun b _ o e => keep3 b o e
  generalize upd H2 D (BagO X D []) = H3 at w0 I3 fp3 ⊢
  generalize es3 : ({ s2 with heap := hp3 } : Shared) = s3 at I3 ⊢
  have hp : s3.heap = hp3 := by rw [← es3]
  have I4 := block_start I3 ok hN (fp := fp) (by rw [hp]; exact fp3)
  have pg := hg s3 H3 s3.heap.objs.size (cellsFrom (s3.heap.objs.size + 1) scope.names (cloFrom X.env.cells scope.names [])) fp
  have pt := ht s3 H3 s3.heap.objs.size (cellsFrom (s3.heap.objs.size + 1) scope.names (cloFrom X.env.cells scope.names [])) fp
  have pe := he s3 H3 s3.heap.objs.size (cellsFrom (s3.heap.objs.size + 1) scope.names (cloFrom X.env.cells scope.names [])) fp
  have cloc : (compEnvC scope (cellsFrom (s3.heap.objs.size + 1) scope.names (cloFrom X.env.cells scope.names [])) s3.heap.objs.size X.env).locals = s3.heap.objs.size := rfl
  rw [← hp] at at3 fp3
  show codeAny _ _ (.compStart _ 0 (.ref it) (.ref D) (compEnvC scope (cellsFrom (s3.heap.objs.size + 1) scope.names (cloFrom X.env.cells scope.names [])) s3.heap.objs.size X.env)) (compPost (model X.prog X.w) X.A X.xe none _ (.ref D) s3.heap.objs.size) _
  have e4 : ({ s2 with heap := pushCells (hp3.push { cls := .type "dict", data := .dict #[] }) scope.names } : Shared) = { s3 with heap := pushCells (s3.heap.push { cls := .type "dict", data := .dict #[] }) scope.names } := by rw [hp, ← es3]
  generalize compEnvC scope (cellsFrom (s3.heap.objs.size + 1) scope.names (cloFrom X.env.cells scope.names [])) s3.heap.objs.size X.env = ce at I4 pg pt pe cloc ⊢
  have at4 : tn 0 ({ s3 with heap := pushCells (s3.heap.push { cls := .type "dict", data := .dict #[] }) scope.names } : Shared).heap := T.keep _ _ _ at3 fun b _ o e => pushCells_keeps _ _ _ _ (Heap.get?_push_of_some _ e)
  first | rw [e4] | skip
  generalize ({ s3 with heap := pushCells (s3.heap.push { cls := .type "dict", data := .dict #[] }) scope.names } : Shared) = s4 at I4 at4 ⊢
  have none3 : ∀ b ∈ fp, H3 b = none := fun b hb => (fp3 b hb).1.1
  have moves : ∀ {σ' : L2.St} {H' : Hp} {s' : Shared}, Inv (X.blk s3 H3 scope ce fp) [] σ' H' s' → (∀ b ∈ fp, H' b = none) → ∀ b ∈ fp, FpOk (X.blk s3 H3 scope ce fp) [] H' b := fun {σ' H' s'} J' z b hb =>
    ⟨z b hb, (J'.ok.exf b hb).1, J'.ok.exfs b hb, Or.inl hb, fun x c e => (J'.ok.exf b hb).2 x c e, fun p hp => by simp [Cx.blk] at hp⟩
  let Wi : Nat → Shared → Prop := fun n s' => ∃ i H', W i n H' ∧ Inv (X.blk s3 H3 scope ce fp) [] (wipe σ (own.map Prod.snd)) H' s' ∧ tn i s'.heap ∧ ∀ b ∈ fp, H' b = none
  have round : codeAny (model X.prog X.w) X.A (.compLoop (.SetComp elt [⟨tg, iter, ifs, 0⟩] scope pos) 0 (.ref it) (.ref D) ce) (compPost (model X.prog X.w) X.A X.xe none (EP X pins σ Q) (.ref D) s3.heap.objs.size) s4 := by
    refine PpSet.compLoopS_any Wi ?_ m0 ⟨0, H3, w0, I4, at4, none3⟩
    intro n s5 ⟨i, H5, w5, I5, at5, n5⟩
    rcases turn i n H5 w5 with ⟨stop, qq⟩ | ⟨go, Nx, nxt, step⟩
    · refine thnF (T.done (X.blk s3 H3 scope ce fp) rfl rfl rfl hc i [] s5 _ H5 (fun _ _ => False) I5 (moves I5 n5) at5 stop) fun r s6 ⟨er, I6⟩ => ?_
      subst er
      have I7 : Inv X pins σ H5 s6 := I3.call' (ch := fp) I6.os I6.base I6.hok I6.bare fun b hb => by
        obtain ⟨_, z1, _, z3, z4, z5⟩ := (fp3 b hb).1
        exact ⟨z3, z1, z4, z5⟩
      have out5 : H5 s3.heap.objs.size = none := cloc ▸ (show H5 ce.locals = none from I6.free)
      obtain ⟨m, ns, _⟩ := I6.loc
      obtain ⟨f0, f1, f2, f3, f4, f5⟩ := I3.fpOk (H' := H5) (Nat.le_refl _) out5
      exact ⟨m, cloc ▸ (show s6.heap.Ns ce.locals m from ns), fun h'' sb => ⟨.ref D, H5, I7.turned (t' := s6.toks) (fun b o hb e => (sb.2 b hb).trans e) f0 f1 f3 f4 f5, rfl, qq⟩⟩
    · refine thnF (T.item (X.blk s3 H3 scope ce fp) rfl rfl rfl hc i [] s5 _ H5 (fun _ _ => False) I5 (moves I5 n5) at5 go) fun r s6 ⟨u, er, r6⟩ => ?_
      subst er
      refine thnF r6 fun _ s7 ⟨x, H7, I7, rx, y7, at7, n7⟩ => ?_
      have I8 := I7.pinned (moves I7 n7) (T.obj _ _ at7)
      refine thnF (pg.run _ s7 _ H7 x u _ I8 rx (step x H7 y7)) fun _ s9 ⟨σ9, H9, I9, keep9, q9⟩ => ?_
      refine thnF (pt.run _ s9 σ9 H9 _ I9 q9) fun b s10 ⟨H10, I10, q10⟩ => ?_
      have over : ∀ {s' : Shared} {H' : Hp}, Inv (X.blk s3 H3 scope ce fp) ([] ++ pinsAt fp s7.heap) σ9 H' s' → Nx H' → ∃ m, m < n ∧ Wi m s' := fun {s' H'} J' z => by
        obtain ⟨m', lt, w'⟩ := nxt H' z
        have held : ∀ b ∈ fp, ∀ o, s7.heap.get? b = some o → s'.heap.get? b = some o ∧ H' b = none := fun b hb o e => by
          obtain ⟨z1, z2, _⟩ := J'.pin (b, o) (List.mem_append_right _ (List.mem_append_right _ (mem_pinsAt hb e)))
          exact ⟨z1, z2⟩
        refine ⟨m', lt, i + 1, H', w', (J'.unpinned (pins := [])).weak (by rw [← keep9, wipe_length]) (fun j v e => (wipe_some (keep9 ▸ e)).1), T.keep _ _ _ at7 fun b hb o e => (held b hb o e).1, fun b hb => ?_⟩
        obtain ⟨o, e, _⟩ := T.obj _ _ at7 b hb
        exact (held b hb o e).2
      cases b with
      | false => exact over I10 (by simpa using q10)
      | true =>
        simp only [if_true] at q10 ⊢
        refine thnF (pe.run _ s10 σ9 H10 _ I10 q10) fun z s11 ⟨y, H11, I11, ry, bb, k, L, ey, hk, hD, ks, few, last⟩ => ?_
        subst ey
        cases (show z = Value.ref bb from ry)
        exact bag_add (X := X.blk s3 H3 scope ce fp) I11 hu hD ks hk few fun L' s12 c1 c2 I12 => over I12 (last L' c1 c2)
  exact PpSet.codeAny_compStart_set round (T.self X.A 0 _ _ _ at4 round)
end
end Ws

/-! S3: sorted over a set of pairs; sorted({pair for ..}) as a rule of the layer. -/
namespace Ws
open PySem PySem.Spec L2 Wn
open PyProof.Rows hiding St

/-- a value for each, one by one: a list that is laid out otherwise -/
theorem perm_back {α β : Type} (f : α → β) {vs ws : List β} (p : vs.Perm ws) : ∀ L : List α, ws = L.map f → ∃ L1 : List α, vs = L1.map f ∧ L1.Perm L := by
  induction p with
  | nil => intro L e; exact ⟨[], rfl, by rw [List.map_eq_nil_iff.mp e.symm]⟩
  | cons x _ ih =>
    intro L e
    cases L with
    | nil => cases e
    | cons y L =>
      rw [List.map_cons] at e
      injection e with e1 e2
      obtain ⟨L1, a, b⟩ := ih L e2
      exact ⟨y :: L1, by rw [List.map_cons, ← a, e1], b.cons y⟩
  | swap x y l =>
    intro L e
    match L, e with
    | [], e => cases e
    | [_], e => cases e
    | u :: v :: L, e =>
      simp only [List.map_cons, List.cons.injEq] at e
      obtain ⟨e1, e2, e3⟩ := e
      exact ⟨v :: u :: L, by simp [e1, e2, e3], .swap u v L⟩
  | trans _ _ ih1 ih2 =>
    intro L e
    obtain ⟨L1, a, b⟩ := ih2 L e
    obtain ⟨L2, c, d⟩ := ih1 L1 a
    exact ⟨L2, c, d.trans b⟩
/-- pairs in the order of tuples -/
def Plt (p q : Int × Int) : Prop := p.1 < q.1 ∨ (p.1 = q.1 ∧ p.2 < q.2)
def pd (p : Int × Int) : PyData := .tuple [.int p.1, .int p.2]
theorem Plt.irrefl {p : Int × Int} (h : Plt p p) : False := by unfold Plt at h; omega
theorem plt_nodup {M : List (Int × Int)} (h : M.Pairwise Plt) : M.Nodup := h.imp fun {a b} z e => by subst e; exact z.irrefl
theorem each_of {α β : Type} {R : α → β → Prop} : ∀ {as : List α} {bs : List β}, W.EachIs R as bs → ∀ (i : Nat) (b : β), bs[i]? = some b → ∃ a, as[i]? = some a ∧ R a b
  | _, _, .cons r _, 0, b, e => by
    rw [List.getElem?_cons_zero] at e
    cases e
    exact ⟨_, rfl, r⟩
  | _, _, .cons _ t, i + 1, b, e => by
    rw [List.getElem?_cons_succ] at e
    obtain ⟨a, x, y⟩ := each_of t i b e
    exact ⟨a, by rw [List.getElem?_cons_succ]; exact x, y⟩
theorem each_maps {α β γ : Type} {R : α → β → Prop} (f : γ → α) (g : γ → β) : ∀ (l : List γ), (∀ c ∈ l, R (f c) (g c)) → W.EachIs R (l.map f) (l.map g)
  | [], _ => .nil
  | c :: l, h => .cons (h c (List.mem_cons_self ..)) (each_maps f g l fun x hx => h x (List.mem_cons_of_mem _ hx))
section
variable {P : Program} {w : World} {A : Around} {E : Value → Shared → Prop} {s : Shared} {a : Addr} {L : List (Addr × List Int)} {es : Array (Int × Value)} {ep : Nat} {t : SetTable}
theorem isT_reads {h : Heap} {b : Addr} {x y : Int} (k : IsT P w h [x, y] b) : Reads h (.ref b) (pd (x, y)) [] := by
  obtain ⟨o, items, n, ho, hc, hd, hi⟩ := k
  refine Reads.tuple ho hc hd ?_
  generalize items.toList = vs at hi
  cases hi with
  | cons a1 r1 =>
    cases r1 with
    | cons a2 r2 =>
      cases r2
      obtain ⟨t1, e1⟩ := Value.isInt_shape a1
      obtain ⟨t2, e2⟩ := Value.isInt_shape a2
      subst e1 e2
      exact ReadsAll.cons (Reads.int x t1) (ReadsAll.cons (Reads.int y t2) ReadsAll.nil)
/-- the ints of a row, as a pair -/
def two (k : List Int) : Int × Int := (k.getD 0 0, k.getD 1 0)
theorem two_of {k : List Int} (h : k.length = 2) : k = [(two k).1, (two k).2] := by
  match k, h with
  | [x, y], _ => rfl
/-- SORTED, over the set -/
theorem sort_bag {M : List (Int × Int)} {Q : Value → Shared → Prop} (R : Bag P w s.heap a L es ep t) (hh : A.handled = none) (hu : A.units + 64 < cLine) (pairs : ∀ p ∈ L, p.2.length = 2) (asc : M.Pairwise Plt) (same : ∀ m : Int × Int, m ∈ M ↔ [m.1, m.2] ∈ L.map Prod.snd)
    (q : ∀ s' p (out : List Value) (c : Nat), (∀ b o, s.heap.get? b = some o → s'.heap.get? b = some o) → s'.gens = s.gens → s'.os = s.os → s.heap.objs.size ≤ p → s'.heap.get? p = some (seqObj "list" out.toArray c) →
      W.EachIs (fun v m => ∃ r ∈ L, v = .ref r.1 ∧ r.2 = [m.1, m.2]) out M → M.length < 4096 → Q (.ref p) s') : wpAny (model P w) A (call (.builtin "sorted") [.ref a]) Q E s := by
  obtain ⟨o, ho, hex, hd⟩ := R.obj
  have cnt := rows_len R.rows
  have few := R.room.2
  refine Calls.call_function_entry kind_sorted plain_sorted entry_sorted (args_sorted1 _) ?_
  unfold Builtin.«sorted»
  refine wpAny_bind (m := checkCount "sorted" 1 1 _) (wpAny_pure ?_)
  refine wpAny_bind (collect_set (A := A.in1) hh ⟨o, ho, hex.1, hd⟩ R.fits (by unfold scanBound; omega) R.tb.up R.led fun s1 vs k1 hz g1 o1 pm => ?_)
  have vals : es.toList.map (·.2) = L.map fun r => Value.ref r.1 := by rw [R.rows]; unfold rowsOf; rw [List.map_map]; rfl
  rw [vals] at pm
  obtain ⟨L1, rfl, pm1⟩ := perm_back (fun r : Addr × List Int => Value.ref r.1) pm L rfl
  have len1 : L1.length = L.length := pm1.length_eq
  refine wpAny_bind (wpAny_newList ?_ (by rw [sizeLine_eq, List.length_map]; omega))
  have hoL : (s1.heap.push (seqObj "list" (L1.map fun r => Value.ref r.1).toArray 0)).get? s1.heap.objs.size = some (seqObj "list" (L1.map fun r => Value.ref r.1).toArray 0) := Heap.get?_push_size _ rfl
  have inL : ∀ r ∈ L1, r ∈ L := fun r hr => pm1.mem_iff.mp hr
  have ek : ∀ r ∈ L1, r.2 = [(two r.2).1, (two r.2).2] := fun r hr => two_of (pairs r (inL r hr))
  have ea : ∀ r ∈ L1, Reads (s1.heap.push (seqObj "list" (L1.map fun r => Value.ref r.1).toArray 0)) (.ref r.1) (pd (two r.2)) [] := fun r hr => by
    have z := R.key r (inL r hr)
    rw [ek r hr] at z
    exact isT_reads (P := P) (w := w) (isT_keep z fun b u e => Heap.get?_push_of_some _ (k1 b u e))
  refine wpAny_bind (wpAny_holding (W.list_sort_data (β := Int × Int) (bs := L1.map fun r => two r.2) (enc := pd) (R := fun v m => ∃ r ∈ L, v = .ref r.1 ∧ r.2 = [m.1, m.2]) (s := { s1 with heap := s1.heap.push (seqObj "list" (L1.map fun r => Value.ref r.1).toArray 0) }) hoL ?_ ?_ ?_ ?_ ?_ ?_ fun out l1 each => ?_))
  · exact each_maps _ _ L1 fun r hr => ⟨r, inL r hr, rfl, ek r hr⟩
  · exact each_maps _ _ L1 fun r hr => ⟨[], ea r hr, fun z => nomatch z⟩
  · exact W.AllAlike.of fun b b' => rfl
  · exact W.Sortable.tuples fun b => ⟨_, _, rfl⟩
  · rw [List.length_map, sizeLine_eq]; omega
  · intro b _
    have z : (pd b).depth ≤ 1 := by unfold pd; simp [PyData.depth, PyData.depthAll]
    show A.units + 1 + 1 + _ < _
    omega
  · have eM : (L1.map fun r => two r.2).mergeSort (W.dataLe false pd) = M := by
      have le : W.dataLe false pd = fun p q : Int × Int => decide (p.1 < q.1 ∨ p.1 = q.1 ∧ p.2 ≤ q.2) := W.dataLe_ii Prod.fst Prod.snd
      rw [le]
      have s1 := List.pairwise_mergeSort (le := fun p q : Int × Int => decide (p.1 < q.1 ∨ p.1 = q.1 ∧ p.2 ≤ q.2)) (fun x y z => by simp only [decide_eq_true_eq]; omega) (fun x y => by simp only [Bool.or_eq_true, decide_eq_true_eq]; omega) (L1.map fun r => two r.2)
      refine List.Perm.eq_of_pairwise (le := fun p q : Int × Int => p.1 < q.1 ∨ p.1 = q.1 ∧ p.2 ≤ q.2) (fun x y _ _ h1 h2 => Prod.ext (by omega) (by omega)) (s1.imp fun {x y} z => of_decide_eq_true z) (asc.imp fun {x y} z => by unfold Plt at z; omega) ?_
      refine (List.mergeSort_perm _ _).trans ((List.perm_ext_iff_of_nodup ?_ (plt_nodup asc)).mpr fun m => ?_)
      · have nd : (L1.map Prod.snd).Nodup := (pm1.map Prod.snd).nodup_iff.mpr R.one
        refine List.pairwise_map.mpr ((List.pairwise_map.mp nd).imp_of_mem fun {x y} hx hy ne e => ne ?_)
        rw [ek x hx, ek y hy, e]
      · rw [same m]
        constructor
        · intro hm
          obtain ⟨r, hr, rfl⟩ := List.mem_map.mp hm
          exact List.mem_map.mpr ⟨r, inL r hr, ek r hr⟩
        · intro hm
          obtain ⟨r, hr, e⟩ := List.mem_map.mp hm
          exact List.mem_map.mpr ⟨r, pm1.mem_iff.mpr hr, by rw [e]; rfl⟩
    have lenM : M.length < 4096 := by rw [← eM, List.length_mergeSort, List.length_map]; omega
    rw [eM] at each
    obtain ⟨c, hc⟩ := sortedHeap_at (out := out.toArray) hoL
    refine wpAny_pure ⟨_, rfl, q _ s1.heap.objs.size out c (fun b u e => ?_) g1 o1 hz hc each lenM⟩
    have z := k1 b u e
    have lt := Heap.lt_size z
    show (sortedHeap _ _ _ _).get? b = some u
    rw [sortedHeap_old (Nat.ne_of_lt lt) (by rw [size_push']; exact Nat.lt_succ_of_lt lt)]
    exact Heap.get?_push_of_some _ z
end
/-! ### in the layer -/
section
variable {X : Cx}
/-- sorted(D), D a set of pairs -/
theorem cr_sortK (hc : X.calm = true) (hu : X.A.units + 64 < cLine) : CallR X (.builtin "sorted") (fun vs H Q => ∃ (G : Hp) (D : Addr) (L : List (Addr × List Int)) (M : List (Int × Int)), vs = [V.ref D] ∧ Same G H ∧ H D = some (BagO X D L) ∧ Keys X.K G L ∧ (∀ p ∈ L, p.2.length = 2) ∧ M.Pairwise Plt ∧ (∀ m : Int × Int, m ∈ M ↔ [m.1, m.2] ∈ L.map Prod.snd) ∧
    ∀ (us : List V) (p : Addr), H p = none → DpAll X.K G us (M.map pd) → Q (.ref p) (upd H p (.lst us))) := by
  intro pins s σ H vs us Q I r ⟨G, D, L, M, e, sg, hD, ks, pairs, asc, same, q⟩
  subst e
  obtain ⟨es, ep, t, R⟩ := bag_at I hD fun p hp => seqT sg (ks p hp)
  rw [Vals.ref1 r]
  refine sort_bag R (I.ok.hd hc) hu pairs asc same fun s' p out c k g o hp hget each few => ?_
  have free : H p = none := I.hok.fresh hp
  -- the same values, as the walk names them
  have rel : ∀ {out : List Value} {M : List (Int × Int)}, W.EachIs (fun v m => ∃ r ∈ L, v = .ref r.1 ∧ r.2 = [m.1, m.2]) out M → ∃ us : List V, Vals us out ∧ DpAll X.K G us (M.map pd) := by
    intro out M each
    induction each with
    | nil => exact ⟨[], .nil, .nil⟩
    | @cons v m out M r _ ih =>
      obtain ⟨us, x, y⟩ := ih
      obtain ⟨z, hz, rfl, e⟩ := r
      have d := ks z hz
      rw [e] at d
      exact ⟨V.ref z.1 :: us, .cons rfl x, .cons (Dp.tup d (DpAll.ofInts [m.1, m.2])) y⟩
  obtain ⟨ws, x, y⟩ := rel each
  have lens : ws.length ≤ sizeLine := by
    have z := y.len
    rw [List.length_map] at z
    rw [sizeLine_eq]
    omega
  have J : Inv X pins σ (upd H p (.lst ws)) s' := I.call' (ch := []) o (Un.laid k hp free) (I.hok.laid k hp ⟨lens, out, c, x, hget⟩) (by rw [g]; exact I.bare) fun _ z => nomatch z
  exact ⟨.ref p, _, J, rfl, q ws p free y⟩
end
end Ws

/-! S4: sorted({pair for ..}), tuple(list), list(x) as rules of the layer. -/
namespace Ws
open PySem PySem.Spec L2 Wn
open PyProof.Rows hiding St
section
variable {X : Cx} {F : Fx} {ρ : List Ent} {elt tg iter : Expr} {scope : Scope} {own : List (Str × Nat)} {items : List PyData} {e : Expr} {xs : List PyData} {pos : Pos}
/-- a turn: the item, its pair -/
def KTurn (X : Cx) (F : Fx) (ρ : List Ent) (scope : Scope) (own : List (Str × Nat)) (tg elt : Expr) (f : PyData → Int × Int) (x : PyData) : Prop :=
  ∃ ρ', (∀ X', Blk X scope X' → Tg X' F tg (own.map (·.2)) x (wipeE ρ (own.map (·.2))) ρ') ∧ ∀ X', Blk X scope X' → EvD X' F ρ' elt (pd (f x))
def ks (m : Int × Int) : List Int := [m.1, m.2]
theorem ks_inj {m n : Int × Int} (h : ks m = ks n) : m = n := by
  unfold ks at h
  injection h with h1 h2
  injection h2 with h2 _
  exact Prod.ext h1 h2
theorem dp_pair {K : PySem.W.Frag} {B : Hp} {u : V} {m : Int × Int} (d : Dp K B u (pd m)) : ∃ b, u = .ref b ∧ SqT K B b ((ks m).map V.int) := by
  cases d with
  | @tup a vs _ h1 h2 =>
    have e : vs = [m.1, m.2].map V.int := DpAll.ints [m.1, m.2] h2
    subst e
    exact ⟨a, rfl, h1⟩
theorem sk_read {B H : Hp} {ow : List Addr} {σ : L2.St} {Q : VK} (ok : Ok X F ρ B ow σ H) (hw : Wk X F ρ tg iter items) (f : PyData → Int × Int) {M : List (Int × Int)} (nd : M.Nodup) (inM : ∀ x ∈ items, f x ∈ M) (few : M.length + 1 < 4096) (ht : ∀ x ∈ items, KTurn X F ρ scope own tg elt f x)
    (hq : ∀ B' H' D L, Ext B H B' H' → Same B' H' → H' D = some (BagO X D L) → Keys X.K B' L → (∀ p ∈ L, ∃ x ∈ items, p.2 = ks (f x)) → (∀ x ∈ items, ks (f x) ∈ L.map Prod.snd) → Q (.ref D) H') :
    tSk X (WI X tg iter) (gAll X scope tg) (tAll X scope []) (eAll X scope elt) (own.map (·.2)) σ H Q := by
  refine hw B ow σ H _ ok fun J B1 H1 e1 s1 sv => ?_
  intro D hD
  have hDH : H D = none := e1.h.free hD
  have b1D : B1 D = none := s1.free hD
  let Iv : Nat → Hp → Prop := fun i H' => ∃ B' L, Ext B H B' H' ∧ Same B' H' ∧ Same B1 B' ∧ H' D = some (BagO X D L) ∧ B' D = none ∧ Keys X.K B' L ∧ (L.map Prod.snd).Nodup ∧ (∀ p ∈ L, ∃ x ∈ items.take i, p.2 = ks (f x)) ∧ ∀ x ∈ items.take i, ks (f x) ∈ L.map Prod.snd
  have small : ∀ {L : List (Addr × List Int)}, (L.map Prod.snd).Nodup → (∀ p ∈ L, ∃ x ∈ items, p.2 = ks (f x)) → L.length ≤ M.length := by
    intro L nL sub
    have go : ∀ (ls : List (List Int)) (N : List (Int × Int)), ls.Nodup → (∀ k ∈ ls, ∃ m ∈ N, k = ks m) → ls.length ≤ N.length := by
      intro ls
      induction ls with
      | nil => intro N _ _; exact Nat.zero_le _
      | cons k ls ih =>
        intro N n1 h
        obtain ⟨m, hm, e⟩ := h k (List.mem_cons_self ..)
        have z := ih (N.erase m) (List.nodup_cons.mp n1).2 fun k' hk' => by
          obtain ⟨m', hm', e'⟩ := h k' (List.mem_cons_of_mem _ hk')
          refine ⟨m', (List.mem_erase_of_ne fun q => ?_).mpr hm', e'⟩
          subst q
          exact (List.nodup_cons.mp n1).1 (by rw [e, ← e']; exact hk')
        rw [List.length_erase_of_mem hm] at z
        have pos := List.length_pos_of_mem hm
        rw [List.length_cons]
        omega
    have z := go (L.map Prod.snd) M nL fun k hk => by
      obtain ⟨p, hp, rfl⟩ := List.mem_map.mp hk
      obtain ⟨x, hx, e⟩ := sub p hp
      exact ⟨f x, inM x hx, e⟩
    rwa [List.length_map] at z
  refine ⟨fun i m H' => m = items.length - i ∧ i ≤ items.length ∧ Iv i H', ⟨items.length, by simp, Nat.zero_le _, B1, [], ?_⟩, ?_⟩
  · have e2 : Ext B1 H1 B1 (upd H1 D (BagO X D [])) := ⟨Same.refl _, same_new hD, fun a o q n => by rw [n] at q; cases q⟩
    exact ⟨e1.trans e2, s1.trans (same_new hD), Same.refl _, upd_same, b1D, fun p hp => (by cases hp), List.nodup_nil, fun p hp => (by cases hp), fun x hx => by simp at hx⟩
  rintro i m H2 ⟨rfl, hi, B2, L, e2, s2, sb, h2, b2, k2, n2, sub2, all2⟩
  by_cases hlt : i < items.length
  · have hx : items[i]? = some items[i] := List.getElem?_eq_getElem hlt
    have next : items.take (i + 1) = items.take i ++ [items[i]] := by rw [List.take_succ, hx]; rfl
    obtain ⟨hgo, hyl⟩ := sv.2 i items[i] B2 H2 sb s2 hx
    obtain ⟨ρ', htg, hel⟩ := ht items[i] (List.getElem_mem hlt)
    refine .inr ⟨hgo, Iv (i + 1), fun H' z => ⟨items.length - (i + 1), by omega, rfl, hlt, z⟩, fun v H3 hy => ?_⟩
    obtain ⟨B3, e3, s3, d3⟩ := hyl v H3 hy
    obtain ⟨ow', kw, _⟩ := (ok.grow (e2.trans e3) s3).wipe (own.map (·.2))
    intro X' hX'
    have eK : X'.K = X.K := by obtain ⟨s', H', C, cl, fp, rfl⟩ := hX'.ex; rfl
    refine htg X' hX' B3 ow' _ H3 v _ (kw.to eK) (by rw [eK]; exact d3) fun ow4 σ4 k4 hwp _ => ⟨by rw [hwp, wipe_wipe], ?_⟩
    have k5 : Ok X F ρ' B3 ow4 σ4 H3 := k4.to eK.symm
    intro X2 hX2
    have eK2 : X2.K = X.K := by obtain ⟨s', H', C, cl, fp, rfl⟩ := hX2.ex; rfl
    refine ef_nil B3 ow4 σ4 H3 _ (k5.to eK2) fun B5 H5 e5 s5 => ?_
    refine iteT ?_
    intro X3 hX3
    have eK3 : X3.K = X.K := by obtain ⟨s', H', C, cl, fp, rfl⟩ := hX3.ex; rfl
    refine hel X3 hX3 B5 ow4 σ4 H5 _ ((k5.grow e5 s5).to eK3) fun B6 H6 u e6 s6 d6 => ?_
    rw [eK3] at d6
    obtain ⟨b, rfl, hb⟩ := dp_pair d6
    have e26 := ((e2.trans e3).trans e5).trans e6
    have b26 := (e3.b.trans e5.b).trans e6.b
    have h6 : H6 D = some (BagO X D L) := e6.h D _ (e5.h D _ (e3.h D _ h2))
    have b6D : B6 D = none := ((e3.trans e5).trans e6).out h2 b2
    have k6 : Keys X.K B6 L := fun p hp => seqT b26 (k2 p hp)
    have room := small n2 fun p hp => by
      obtain ⟨x, hx', e⟩ := sub2 p hp
      exact ⟨x, List.mem_of_mem_take hx', e⟩
    refine ⟨b, ks (f items[i]), L, rfl, seqT s6 hb, h6, fun p hp => seqT s6 (k6 p hp), by omega, fun L' c1 c2 => ?_⟩
    obtain ⟨e7, s7⟩ := ext_app (o' := BagO X D L') e26 hDH h6 b6D s6
    rw [show Iv (i + 1) = fun H' => ∃ B' L, Ext B H B' H' ∧ Same B' H' ∧ Same B1 B' ∧ H' D = some (BagO X D L) ∧ B' D = none ∧ Keys X.K B' L ∧ (L.map Prod.snd).Nodup ∧ (∀ p ∈ L, ∃ x ∈ items.take (i + 1), p.2 = ks (f x)) ∧ ∀ x ∈ items.take (i + 1), ks (f x) ∈ L.map Prod.snd from rfl, next]
    by_cases c : ks (f items[i]) ∈ L.map Prod.snd
    · cases c1 c
      refine ⟨B6, L, e7, s7, sb.trans b26, upd_same, b6D, k6, n2, fun p hp => ?_, fun x hx' => ?_⟩
      · obtain ⟨x, z, e⟩ := sub2 p hp
        exact ⟨x, List.mem_append_left _ z, e⟩
      · exact (List.mem_append.mp hx').elim (all2 x) fun z => by rw [List.mem_singleton.mp z]; exact c
    · have pm := c2 c
      refine ⟨B6, L', e7, s7, sb.trans b26, upd_same, b6D, fun p hp => ?_, (pm.map Prod.snd).nodup_iff.mpr (List.nodup_cons.mpr ⟨c, n2⟩), fun p hp => ?_, fun x hx' => ?_⟩
      · rcases List.mem_cons.mp (pm.mem_iff.mp hp) with z | z
        · rw [z]; exact hb
        · exact k6 p z
      · rcases List.mem_cons.mp (pm.mem_iff.mp hp) with z | z
        · exact ⟨items[i], List.mem_append_right _ (List.mem_singleton.mpr rfl), by rw [z]⟩
        · obtain ⟨x, y, e⟩ := sub2 p z
          exact ⟨x, List.mem_append_left _ y, e⟩
      · rw [(pm.map Prod.snd).mem_iff, List.map_cons]
        exact (List.mem_append.mp hx').elim (fun z => List.mem_cons_of_mem _ (all2 x z)) fun z => by rw [List.mem_singleton.mp z]; exact List.mem_cons_self ..
  · have e : i = items.length := by omega
    subst e
    rw [List.take_length] at sub2 all2
    exact .inl ⟨sv.1 B2 H2 sb s2, hq B2 H2 D L e2 s2 h2 k2 sub2 all2⟩
/-- sorted({pair for tg in iter}): the distinct pairs, ascending -/
theorem ev_sortSet {p : Pos} {spos : Pos} (M : List (Int × Int)) (f : PyData → Int × Int) (hw : Wk X F ρ tg iter items) (ht : ∀ x ∈ items, KTurn X F ρ scope own tg elt f x) (asc : M.Pairwise Plt) (same : ∀ m, m ∈ M ↔ m ∈ items.map f) (few : M.length + 1 < 4096)
    (ok : BlkOk X.N X.env.scope scope own) (hc : X.calm = true) (hu : X.A.units + 64 < cLine) (hN : X.N.Nodup) (hg : Gl X "sorted") (hm : X.mg "sorted" = none) (hs : ∀ x, foldedSetIterable iter X.env x = pure x := by intro _; rfl)
    (s1 : starEach [.SetComp elt [⟨tg, iter, [], 0⟩] scope spos] X.env = (false, eval (.SetComp elt [⟨tg, iter, [], 0⟩] scope spos) X.env) :: starEach [] X.env := by rfl) (hpl : (backTo pos (starEach [] X.env)).any (·.1) = false := by rfl) :
    EvN X F ρ (.Call (.Name "sorted" p) [.SetComp elt [⟨tg, iter, [], 0⟩] scope spos] [] pos) (M.map pd) := fun B ow σ H Q k q => by
  refine we_of (pe_callB (cr_sortK hc hu) hg hm (by decide +kernel) (pa_cons (pe_sk hc hu hN pi_wi ok pg_all pt_all pe_all hs) pa_nil s1) (by decide) (by decide) s1 hpl) ?_
  unfold tCB tCons tNil
  refine sk_read k hw f (plt_nodup asc) (fun x hx => (same _).mpr (List.mem_map_of_mem hx)) few ht fun B' H' D L e s hD hk sub all => ?_
  refine ⟨B', D, L, M, rfl, s, hD, hk, fun r hr => ?_, asc, fun m => ?_, fun us a free d => ?_⟩
  · obtain ⟨x, _, z⟩ := sub r hr
    rw [z]; rfl
  · rw [same m]
    constructor
    · intro z
      obtain ⟨x, hx, rfl⟩ := List.mem_map.mp z
      exact all x hx
    · intro z
      obtain ⟨r, hr, z⟩ := List.mem_map.mp z
      obtain ⟨x, hx, y⟩ := sub r hr
      have z2 : ks (f x) = ks m := y.symm.trans z
      rw [← ks_inj z2]
      exact List.mem_map_of_mem hx
  · have e2 : Ext B' H' B' (upd H' a (.lst us)) := ⟨Same.refl _, same_new free, fun b o w n => by rw [n] at w; cases w⟩
    exact q B' _ _ (e.trans e2) (s.trans (same_new free)) ⟨a, us, rfl, upd_same, e.h.free free, s.free free, d⟩
/-- tuple(xs) of a list -/
theorem ev_tupL {p : Pos} (h : EvL X F ρ e xs) (hg : Gl X "tuple") (hm : X.mg "tuple" = none) (s1 : starEach [e] X.env = (false, eval e X.env) :: starEach [] X.env := by rfl) (hpl : (backTo pos (starEach [] X.env)).any (·.1) = false := by rfl) :
    EvD X F ρ (.Call (.Name "tuple" p) [e] [] pos) (.tuple xs) := fun B ow σ H Q k q => by
  refine we_of (pe_callTy call_tuple_of hg hm (by decide +kernel) (pa_cons pe_we pa_nil s1) (by decide) (by decide) s1 hpl) ?_
  refine h B ow σ H _ k fun B1 H1 u e1 s1 ⟨a, us, r1, r2, r3⟩ => ?_
  subst r1
  refine ⟨a, us, rfl, .inl ⟨r2, fun l free => ?_⟩⟩
  have b1 : B1 l = none := s1.free free
  obtain ⟨e2, s2⟩ := Ext.new (o := .tup us) ⟨e1.b, e1.h.trans (same_new free), e1.n⟩ (e1.h.free free) b1 upd_same (s1.trans (same_new free))
  exact q _ _ _ e2 s2 (Dp.tup (SqT.of upd_same) (DpAll.to r3 (same_new b1)))
end
end Ws

/-! S5: sorted over a list of data. -/
namespace Ws
open PySem PySem.Spec L2 Wn
open PyProof.Rows hiding St
section
variable {X : Cx}
theorem each_vals {β : Type} {K : PySem.W.Frag} {G : Hp} (enc : β → PyData) : ∀ {ws : List V} {us : List Value} {bs : List β}, Vals ws us → DpAll K G ws (bs.map enc) → W.EachIs (fun u b => ∃ v, RelV v u ∧ Dp K G v (enc b)) us bs
  | _, _, [], .nil, .nil => .nil
  | _, _, _ :: _, .cons r t, .cons d e => .cons ⟨_, r, d⟩ (each_vals enc t e)
theorem vals_each {β : Type} {K : PySem.W.Frag} {G : Hp} (enc : β → PyData) {us : List Value} {bs : List β} (h : W.EachIs (fun u b => ∃ v, RelV v u ∧ Dp K G v (enc b)) us bs) : ∃ ws, Vals ws us ∧ DpAll K G ws (bs.map enc) := by
  induction h with
  | nil => exact ⟨[], .nil, .nil⟩
  | cons r _ ih =>
    obtain ⟨v, r1, r2⟩ := r
    obtain ⟨ws, x, y⟩ := ih
    exact ⟨v :: ws, .cons r1 x, .cons r2 y⟩
theorem cr_sortD {β : Type} (enc : β → PyData) (hu : X.A.units + 64 < cLine) : CallR X (.builtin "sorted") (fun vs H Q => ∃ (G : Hp) (a : Addr) (ws : List V) (bs : List β), vs = [V.ref a] ∧ Same G H ∧ SqL X.K H a ws ∧ DpAll X.K G ws (bs.map enc) ∧ W.AllAlike (bs.map enc) ∧ W.Sortable (bs.map enc) ∧ (∀ b ∈ bs, (enc b).depth ≤ 32) ∧
    ∀ (us : List V) (p : Addr), H p = none → DpAll X.K G us ((bs.mergeSort (W.dataLe false enc)).map enc) → Q (.ref p) (upd H p (.lst us))) := by
  intro pins s σ H vs us Q I r ⟨G, a, ws, bs, e, sg, hl, hd, al, so, dep, q⟩
  subst e
  obtain ⟨its, rv, pl, hz⟩ := I.list hl
  rw [Vals.ref1 r]
  have ev := each_vals enc rv hd
  have lens : ws.length = bs.length := by rw [hd.len, List.length_map]
  refine W.sorted_data (vs := its) (bs := bs) (enc := enc) pl.isList ev ?_ al so (by omega) (fun b hb => ?_) fun out lo each => ?_
  · refine ev.mono fun u b ⟨v, r1, r2⟩ => ?_
    exact Dp.reads I _ v u (r2.to sg) r1
  · have z := dep b hb
    omega
  · obtain ⟨os, x, y⟩ := vals_each enc each
    obtain ⟨c, hc⟩ := sortedAll_at s.heap its out.toArray
    have free : H (s.heap.objs.size + 1) = none := I.hok.fresh (Nat.le_succ _)
    have lo2 : os.length ≤ sizeLine := by rw [x.length, lo]; omega
    exact ⟨.ref _, _, I.laid (o := .lst os) (t' := s.toks) (fun _ _ => sortedAll_old) (Nat.le_succ _) ⟨lo2, out, c, x, hc⟩, rfl, q os _ free y⟩
variable {F : Fx} {ρ : List Ent} {e : Expr} {pos p : Pos}
/-- sorted(xs) -/
theorem ev_sort {β : Type} (enc : β → PyData) (bs : List β) (h : EvL X F ρ e (bs.map enc)) (al : W.AllAlike (bs.map enc)) (so : W.Sortable (bs.map enc)) (dep : ∀ b ∈ bs, (enc b).depth ≤ 32) (hu : X.A.units + 64 < cLine) (hg : Gl X "sorted") (hm : X.mg "sorted" = none)
    (s1 : starEach [e] X.env = (false, eval e X.env) :: starEach [] X.env := by rfl) (hpl : (backTo pos (starEach [] X.env)).any (·.1) = false := by rfl) :
    EvN X F ρ (.Call (.Name "sorted" p) [e] [] pos) ((bs.mergeSort (W.dataLe false enc)).map enc) := fun B ow σ H Q k q => by
  refine we_of (pe_callB (cr_sortD enc hu) hg hm (by decide +kernel) (pa_cons pe_we pa_nil s1) (by decide) (by decide) s1 hpl) ?_
  refine h B ow σ H _ k fun B1 H1 u e1 t1 ⟨a, us, r1, r2, r3⟩ => ?_
  subst r1
  refine ⟨B1, a, us, bs, rfl, t1, r2, r3, al, so, dep, fun os l free d => ?_⟩
  exact q B1 _ _ (e1.trans ⟨Same.refl _, same_new free, fun b o w n => by rw [n] at w; cases w⟩) (t1.trans (same_new free)) ⟨l, os, rfl, upd_same, e1.h.free free, t1.free free, d⟩
/-- sorted over pairs: any list that holds the same and ascends -/
theorem ev_sortP (ps M : List (Int × Int)) (h : EvL X F ρ e (ps.map pd)) (pm : M.Perm ps) (asc : M.Pairwise fun p q => Plt p q ∨ p = q) (hu : X.A.units + 64 < cLine) (hg : Gl X "sorted") (hm : X.mg "sorted" = none)
    (s1 : starEach [e] X.env = (false, eval e X.env) :: starEach [] X.env := by rfl) (hpl : (backTo pos (starEach [] X.env)).any (·.1) = false := by rfl) : EvN X F ρ (.Call (.Name "sorted" p) [e] [] pos) (M.map pd) := by
  have z := ev_sort (pos := pos) (p := p) pd ps h (W.AllAlike.of fun _ _ => rfl) (W.Sortable.tuples fun _ => ⟨_, _, rfl⟩) (fun b _ => by unfold pd; simp [PyData.depth, PyData.depthAll]) hu hg hm s1 hpl
  have le : W.dataLe false pd = fun p q : Int × Int => decide (p.1 < q.1 ∨ p.1 = q.1 ∧ p.2 ≤ q.2) := W.dataLe_ii Prod.fst Prod.snd
  have eM : ps.mergeSort (W.dataLe false pd) = M := by
    rw [le]
    have s1 := List.pairwise_mergeSort (le := fun p q : Int × Int => decide (p.1 < q.1 ∨ p.1 = q.1 ∧ p.2 ≤ q.2)) (fun x y z => by simp only [decide_eq_true_eq]; omega) (fun x y => by simp only [Bool.or_eq_true, decide_eq_true_eq]; omega) ps
    refine List.Perm.eq_of_pairwise (le := fun p q : Int × Int => p.1 < q.1 ∨ p.1 = q.1 ∧ p.2 ≤ q.2) (fun x y _ _ h1 h2 => Prod.ext (by omega) (by omega)) (s1.imp fun {x y} z => of_decide_eq_true z) (asc.imp fun {x y} z => ?_) ((List.mergeSort_perm _ _).trans pm.symm)
    rcases z with z | rfl
    · unfold Plt at z; omega
    · exact .inr ⟨rfl, Int.le_refl _⟩
  rwa [eM] at z
end
end Ws

/-! S6: list comprehension with two fors; range objects in a name. -/
namespace Ws
open PySem PySem.Spec L2 Wn
open PyProof.Rows hiding St
/-- without what stands at D -/
def er (H : Hp) (D : Addr) : Hp := fun a => if a = D then none else H a
theorem er_at {H : Hp} {D : Addr} : er H D D = none := if_pos rfl
theorem er_ne {H : Hp} {D a : Addr} (h : a ≠ D) : er H D a = H a := if_neg h
theorem er_same {B H : Hp} {D : Addr} (s : Same B H) (b : B D = none) : Same B (er H D) := fun a o e => by rw [er_ne (ne_of_none e b)]; exact s a o e
section
variable {X : Cx} {F : Fx} {ρ : List Ent}
theorem Ok.er {B H : Hp} {ow : List Addr} {σ : L2.St} (k : Ok X F ρ B ow σ H) {D : Addr} (h0 : F.H0 D = none) (b : B D = none) (no : D ∉ ow) : Ok X F ρ B ow σ (er H D) :=
  ⟨⟨k.ext.b, fun a o e => by rw [er_ne (ne_of_none e h0)]; exact k.ext.h a o e, k.ext.n⟩, er_same k.bh b, k.sl.to (Same.refl _) (fun a ha o e => (er_ne (fun z => no (by rw [← z]; exact ha))).trans e), k.nd, k.out⟩
theorem ext_skip {B H B5 H5 B' H' : Hp} {D : Addr} (e : Ext B H B5 H5) (h : H D = none) (f : Ext B5 (er H5 D) B' H') : Ext B H B' H' :=
  ⟨e.b.trans f.b, fun a u q => f.h a u ((er_ne (ne_of_none q h)).trans (e.h a u q)), fun a u q n => by
    cases c : B5 a with
    | some v => exact e.n a v c n
    | none =>
      by_cases d : a = D
      · rw [d]; exact h
      · have z := f.n a u q c
        rw [er_ne d] at z
        exact e.h.free z⟩
variable {elt tg iter tg1 iter1 : Expr} {ifs ifs1 : List Expr} {scope : Scope} {own : List (Str × Nat)} {vs1 : List Nat} {items : List PyData} {pos : Pos}
/-- a turn of the inner for -/
def InTurn (X : Cx) (F : Fx) (ρ : List Ent) (scope : Scope) (vs1 : List Nat) (tg1 elt : Expr) (ifs1 : List Expr) (h : PyData → Option PyData) (y : PyData) : Prop :=
  ∃ ρ2 b, (∀ X', Blk X scope X' → Tg X' F tg1 vs1 y (wipeE ρ vs1) ρ2) ∧ (∀ X', Blk X scope X' → EvF X' F ρ2 ifs1 b) ∧ (b = false → h y = none) ∧ (b = true → ∃ z, h y = some z ∧ ∀ X', Blk X scope X' → EvD X' F ρ2 elt z)
/-- a turn of the outer for: what it gives -/
def OutTurn (X : Cx) (F : Fx) (ρ : List Ent) (scope : Scope) (own : List (Str × Nat)) (vs1 : List Nat) (tg tg1 iter1 elt : Expr) (ifs ifs1 : List Expr) (f : PyData → List PyData) (x : PyData) : Prop :=
  ∃ ρ' b, (∀ X', Blk X scope X' → Tg X' F tg (own.map (·.2)) x (wipeE ρ (own.map (·.2))) ρ') ∧ (∀ X', Blk X scope X' → EvF X' F ρ' ifs b) ∧ (b = false → f x = []) ∧
    (b = true → ∃ ys h, f x = ys.filterMap h ∧ (∀ X', Blk X scope X' → Wk X' F ρ' tg1 iter1 ys) ∧ ∀ y ∈ ys, InTurn X F ρ' scope vs1 tg1 elt ifs1 h y)
def iAll (X : Cx) (scope : Scope) (tg iter : Expr) : TI := fun σ H R => ∀ X', Blk X scope X' → WI X' tg iter σ H R
theorem pi_all : ∀ (s : Shared) (H : Hp) (C : Addr) (cl : List (Str × Addr)) (fp : List Addr), PI (X.blk s H scope (compEnvC scope cl C X.env) fp) tg iter (iAll X scope tg iter) := fun s H C cl fp =>
  ⟨fun pins s' σ H' R I h => h _ ⟨s, H, C, cl, fp, rfl⟩ pins s' I⟩
theorem blk_K {X' : Cx} (h : Blk X scope X') : X'.K = X.K := by obtain ⟨s', H', C, cl, fp, rfl⟩ := h.ex; rfl
theorem serves_K {X' : Cx} (e : X'.K = X.K) {J : It} {B : Hp} {ys : List PyData} (s : Serves X' J B ys) : Serves X J B ys := by
  unfold Serves at s ⊢
  rw [e] at s
  exact s
theorem lc2_read {B H : Hp} {ow : List Addr} {σ : L2.St} {Q : VK} (ok : Ok X F ρ B ow σ H) (hw : Wk X F ρ tg iter items) (f : PyData → List PyData) (hz : (items.flatMap f).length ≤ sizeLine) (ht : ∀ x ∈ items, OutTurn X F ρ scope own vs1 tg tg1 iter1 elt ifs ifs1 f x)
    (hq : ∀ B' H' a us, Ext B H B' H' → Same B' H' → H' a = some (.lst us) → H a = none → B' a = none → DpAll X.K B' us (items.flatMap f) → Q (.ref a) H') :
    tLc2 (WI X tg iter) (gAll X scope tg) (tAll X scope ifs) (iAll X scope tg1 iter1) (gAll X scope tg1) (tAll X scope ifs1) (eAll X scope elt) (own.map (·.2)) vs1 σ H Q := by
  refine hw B ow σ H _ ok fun J B1 H1 e1 s1 sv => ?_
  intro D hD
  have hDH : H D = none := e1.h.free hD
  have noD : D ∉ ow := fun z => by
    obtain ⟨us, q⟩ := ok.sl.lst D z
    rw [hDH] at q; cases q
  let Iv : Hp → List PyData → Prop := fun H' done => ∃ B' acc, Ext B H B' H' ∧ Same B' H' ∧ Same B1 B' ∧ H' D = some (.lst acc) ∧ B' D = none ∧ DpAll X.K B' acc done
  refine ⟨fun i m H' => m = items.length - i ∧ i ≤ items.length ∧ Iv H' ((items.take i).flatMap f), ⟨items.length, by simp, Nat.zero_le _, B1, [], ?_⟩, ?_⟩
  · have e2 : Ext B1 H1 B1 (upd H1 D (.lst [])) := ⟨Same.refl _, same_new hD, fun a o q n => by rw [n] at q; cases q⟩
    exact ⟨e1.trans e2, s1.trans (same_new hD), Same.refl _, upd_same, s1.free hD, .nil⟩
  rintro i m H2 ⟨rfl, hi, B2, acc, e2, s2, sb, h2, b2, d2⟩
  by_cases hlt : i < items.length
  · have hx : items[i]? = some items[i] := List.getElem?_eq_getElem hlt
    have next : (items.take (i + 1)).flatMap f = (items.take i).flatMap f ++ f items[i] := by rw [List.take_succ, hx, List.flatMap_append]; simp
    have short : ((items.take i).flatMap f ++ f items[i]).length ≤ sizeLine := by
      have z : items.flatMap f = (items.take (i + 1)).flatMap f ++ (items.drop (i + 1)).flatMap f := by rw [← List.flatMap_append, List.take_append_drop]
      rw [z, next, List.length_append] at hz
      omega
    obtain ⟨hgo, hyl⟩ := sv.2 i items[i] B2 H2 sb s2 hx
    obtain ⟨ρ', b, htg, htt, hf0, hf1⟩ := ht items[i] (List.getElem_mem hlt)
    refine .inr ⟨hgo, fun H' => Iv H' ((items.take (i + 1)).flatMap f), fun H' z => ⟨items.length - (i + 1), by omega, rfl, hlt, z⟩, fun v H3 hy => ?_⟩
    obtain ⟨B3, e3, s3, d3⟩ := hyl v H3 hy
    obtain ⟨ow', kw, subw⟩ := (ok.grow (e2.trans e3) s3).wipe (own.map (·.2))
    intro X' hX'
    have eK := blk_K hX'
    refine htg X' hX' B3 ow' _ H3 v _ (kw.to eK) (by rw [eK]; exact d3) fun ow4 σ4 k4 hwp sub4 => ⟨by rw [hwp, wipe_wipe], ?_⟩
    have no4 : D ∉ ow4 := fun z => noD (subw D (sub4 D z))
    have k5 : Ok X F ρ' B3 ow4 σ4 H3 := k4.to eK.symm
    intro X2 hX2
    refine htt X2 hX2 B3 ow4 σ4 H3 _ (k5.to (blk_K hX2)) fun B5 H5 e5 s5 => ?_
    have e25 := (e2.trans e3).trans e5
    have h5 : H5 D = some (.lst acc) := e5.h D _ (e3.h D _ h2)
    have b5 : B5 D = none := e5.out (e3.h D _ h2) (e3.out h2 b2)
    have sb5 : Same B1 B5 := (sb.trans e3.b).trans e5.b
    have d5 := DpAll.to d2 (e3.b.trans e5.b)
    cases b with
    | false =>
      refine iteF ?_
      show Iv H5 _
      rw [next, hf0 rfl, List.append_nil]
      exact ⟨B5, acc, e25, s5, sb5, h5, b5, d5⟩
    | true =>
      obtain ⟨ys, h, ef, hw1, ht1⟩ := hf1 rfl
      refine iteT ?_
      have k6 : Ok X F ρ' B5 ow4 σ4 H5 := k5.grow e5 s5
      intro X3 hX3
      have eK3 := blk_K hX3
      refine hw1 X3 hX3 B5 ow4 σ4 H5 _ (k6.to eK3) fun J1 B6 H6 e6 s6 sv1' => ?_
      have sv1 : Serves X J1 B6 ys := serves_K eK3 sv1'
      have h6 : H6 D = some (.lst acc) := e6.h D _ h5
      have b6 : B6 D = none := e6.out h5 b5
      have d6 := DpAll.to d5 e6.b
      have e26 := e25.trans e6
      have k7 : Ok X F ρ' B6 ow4 σ4 (er H6 D) := Ws.Ok.er (k6.grow e6 s6) (ok.ext.h.free hDH) b6 no4
      let Iv1 : Nat → Hp → Prop := fun j H' => ∃ B' acc', Ext B6 (er H6 D) B' H' ∧ Same B' H' ∧ H' D = some (.lst acc') ∧ B' D = none ∧ DpAll X.K B' acc' ((items.take i).flatMap f ++ (ys.take j).filterMap h)
      have ext0 : Ext B6 (er H6 D) B6 H6 := ⟨Same.refl _, fun a o q => by
        by_cases c : a = D
        · subst c; rw [er_at] at q; cases q
        · rwa [er_ne c] at q, fun a o q n => by rw [n] at q; cases q⟩
      refine ⟨fun j k H' => k = ys.length - j ∧ j ≤ ys.length ∧ Iv1 j H', ⟨ys.length, by simp, Nat.zero_le _, B6, acc, ext0, s6, h6, b6, by simpa using d6⟩, ?_⟩
      rintro j k H7 ⟨rfl, hj, B7, acc7, e7, s7, h7, b7, d7⟩
      have sb7 : Same B6 B7 := e7.b
      by_cases jlt : j < ys.length
      · have hy' : ys[j]? = some ys[j] := List.getElem?_eq_getElem jlt
        have tk : (ys.take (j + 1)).filterMap h = (ys.take j).filterMap h ++ (h ys[j]).toList := by
          rw [List.take_succ, hy', List.filterMap_append]
          congr 1
        have shorter : ((ys.take (j + 1)).filterMap h).length ≤ (f items[i]).length := by
          have z : ys.filterMap h = (ys.take (j + 1)).filterMap h ++ (ys.drop (j + 1)).filterMap h := by rw [← List.filterMap_append, List.take_append_drop]
          rw [ef, z, List.length_append]
          omega
        obtain ⟨hgo1, hyl1⟩ := sv1.2 j ys[j] B7 H7 sb7 s7 hy'
        obtain ⟨ρ2, b', htg1, htt1, hg0, hg1⟩ := ht1 ys[j] (List.getElem_mem jlt)
        refine .inr ⟨hgo1, Iv1 (j + 1), fun H' z => ⟨ys.length - (j + 1), by omega, rfl, jlt, z⟩, fun v1 H8 hyy => ?_⟩
        obtain ⟨B8, e8, s8, d8⟩ := hyl1 v1 H8 hyy
        obtain ⟨ow8, k8, _⟩ := (k7.grow (e7.trans e8) s8).wipe vs1
        intro X4 hX4
        have eK4 := blk_K hX4
        refine htg1 X4 hX4 B8 ow8 _ H8 v1 _ (k8.to eK4) (by rw [eK4]; exact d8) fun ow9 σ9 k9 hwp9 _ => ⟨by rw [hwp9, wipe_wipe], ?_⟩
        have k10 : Ok X F ρ2 B8 ow9 σ9 H8 := k9.to eK4.symm
        intro X5 hX5
        refine htt1 X5 hX5 B8 ow9 σ9 H8 _ (k10.to (blk_K hX5)) fun B9 H9 e9 s9 => ?_
        have h9 : H9 D = some (.lst acc7) := e9.h D _ (e8.h D _ h7)
        have b9 : B9 D = none := (e8.trans e9).out h7 b7
        cases b' with
        | false =>
          refine iteF ?_
          refine ⟨B9, acc7, (e7.trans e8).trans e9, s9, h9, b9, ?_⟩
          rw [tk, hg0 rfl]
          simpa using DpAll.to d7 (e8.b.trans e9.b)
        | true =>
          obtain ⟨z, ez, hel⟩ := hg1 rfl
          refine iteT ?_
          intro X6 hX6
          have eK6 := blk_K hX6
          refine hel X6 hX6 B9 ow9 σ9 H9 _ ((k10.grow e9 s9).to eK6) fun B10 H10 u e10 s10 d10 => ?_
          rw [eK6] at d10
          have h10 : H10 D = some (.lst acc7) := e10.h D _ h9
          have b10 : B10 D = none := e10.out h9 b9
          have all : ((items.take i).flatMap f ++ (ys.take (j + 1)).filterMap h) = ((items.take i).flatMap f ++ (ys.take j).filterMap h) ++ [z] := by rw [tk, ez, List.append_assoc]; rfl
          refine ⟨acc7, h10, ?_, ?_⟩
          · have l7 := d7.len
            have l8 := congrArg List.length all
            rw [List.length_append, List.length_append (bs := [z])] at l8
            rw [List.length_append] at short
            simp only [List.length_singleton] at l8
            omega
          · obtain ⟨e11, s11⟩ := ext_app (o' := .lst (acc7 ++ [u])) (((e7.trans e8).trans e9).trans e10) er_at h10 b10 s10
            refine ⟨B10, acc7 ++ [u], e11, s11, upd_same, b10, ?_⟩
            rw [all]
            exact DpAll.append (DpAll.to d7 ((e8.b.trans e9.b).trans e10.b)) (.cons d10 .nil)
      · have ej : j = ys.length := by omega
        subst ej
        refine .inl ⟨sv1.1 B7 H7 sb7 s7, ?_⟩
        show Iv H7 _
        rw [next, ef]
        rw [List.take_length] at d7
        exact ⟨B7, acc7, ext_skip e26 hDH e7, s7, (sb5.trans e6.b).trans sb7, h7, b7, d7⟩
  · have e : i = items.length := by omega
    subst e
    rw [List.take_length] at d2
    exact .inl ⟨sv.1 B2 H2 sb s2, hq B2 H2 D acc e2 s2 h2 hDH b2 d2⟩
/-- [elt for tg in iter if .. for tg1 in iter1 if ..] -/
theorem ev_lc2 (f : PyData → List PyData) (hw : Wk X F ρ tg iter items) (ht : ∀ x ∈ items, OutTurn X F ρ scope own vs1 tg tg1 iter1 elt ifs ifs1 f x) (hz : (items.flatMap f).length ≤ sizeLine) (ok : BlkOk X.N X.env.scope scope own) (hv : ∀ i ∈ vs1, i ∈ own.map (·.2)) (hc : X.calm = true) (hN : X.N.Nodup)
    (hs : ∀ x, foldedSetIterable iter X.env x = pure x := by intro _; rfl) (hs1 : ∀ env x, foldedSetIterable iter1 env x = pure x := by intro _ _; rfl) : EvN X F ρ (.ListComp elt [⟨tg, iter, ifs, 0⟩, ⟨tg1, iter1, ifs1, 0⟩] scope pos) (items.flatMap f) := fun B ow σ H Q k q =>
  we_of (pe_lc2 hc hN pi_wi ok hv pg_all pt_all pi_all pg_all pt_all pe_all hs hs1) (lc2_read k hw f hz ht fun B' H' a us e s h1 h2 h3 h4 => q B' H' _ e s ⟨a, us, rfl, h1, h2, h3, h4⟩)
end
end Ws

/-! S7: range objects in a name, enumerate, zip, signs of a text, as walks. -/
namespace Ws
open PySem PySem.Spec L2 Wn
open PyProof.Rows hiding St
section
variable {X : Cx} {F : Fx} {ρ : List Ent} {Φ : Out → Prop} {rest : List Stmt} {e e' tg : Expr} {xs ys : List PyData} {pos p : Pos} {n : Str}
/-! ### range objects -/
/-- the value is a range, frozen -/
def Rng (lo hi : Int) : Hp → V → Prop := fun B v => ∃ a, v = .ref a ∧ B a = some (.rng lo hi)
theorem rng_to {lo hi : Int} : ∀ B B' v, Same B B' → Rng lo hi B v → Rng lo hi B' v := fun _ _ _ s ⟨a, h1, h2⟩ => ⟨a, h1, s a _ h2⟩
theorem cr_rng1 : CallR X (.type "range") (fun vs H Q => ∃ j, vs = [V.int j] ∧ ∀ p, H p = none → Q (.ref p) (upd H p (.rng 0 j))) := by
  intro pins s σ H vs us Q I r ⟨j, e, q⟩
  subst e
  cases r with
  | cons r1 r2 =>
    cases r2
    obtain ⟨t, rfl⟩ := r1
    exact call_range_1 ⟨.ref s.heap.objs.size, upd H s.heap.objs.size (.rng 0 j), I.laid (o := .rng 0 j) (t' := s.toks + 2) (fun b o z => Heap.get?_push_of_some _ z) (Nat.le_refl _) ⟨_, _, _, Heap.get?_push_size _ rfl⟩, rfl, q _ (I.hok.fresh (Nat.le_refl _))⟩
theorem ev_rng1 {j : Int} (h : EvD X F ρ e (.int j)) (hg : Gl X "range") (hm : X.mg "range" = none) (s1 : starEach [e] X.env = (false, eval e X.env) :: starEach [] X.env := by rfl) (hpl : (backTo pos (starEach [] X.env)).any (·.1) = false := by rfl) :
    EvG X F ρ (.Call (.Name "range" p) [e] [] pos) (fun _ _ B' _ u => Rng 0 j B' u) := fun B ow σ H Q k q => by
  refine we_of (pe_callTy cr_rng1 hg hm (by decide +kernel) (pa_cons pe_we pa_nil s1) (by decide) (by decide) s1 hpl) ?_
  refine h B ow σ H _ k fun B1 H1 u e1 t1 d1 => ?_
  refine ⟨j, by rw [dpInt d1], fun a free => ?_⟩
  obtain ⟨e2, t2⟩ := Ext.new (o := .rng 0 j) ⟨e1.b, e1.h.trans (same_new free), e1.n⟩ (e1.h.free free) (t1.free free) upd_same (t1.trans (same_new free))
  exact q _ _ _ e2 t2 ⟨a, rfl, upd_same⟩
/-- x = e, the value known by a property of the frozen part -/
theorem ex_setG (i : Nat) {Pr : Hp → V → Prop} {e0 : Ent} {p2 : Pos} (mono : ∀ B B' v, Same B B' → Pr B v → Pr B' v) (he : EvG X F ρ e fun _ _ B' _ u => Pr B' u) (hr : Ex X F (ρ.set i (.raw Pr)) rest Φ) (hN : X.N.Nodup) (hi : ρ[i]? = some e0 := by rfl) (hn : X.N[i]? = some n := by rfl) (hx : Loc X.env.scope n := by first | exact Or.inl rfl | exact Or.inr rfl)
    (hs : swapsWith e (some (.Name n p2)) pos.line X.env = pure false := by rfl) (hf : X.fn n = true ∨ X.env.scope.names.lookup n = some .local := by first | exact .inl rfl | exact .inr rfl) : Ex X F ρ (.Assign [.Name n p2] e pos :: rest) Φ := fun B ow σ H D Bb k bb f => by
  refine ws_cons (ps_set (i := i) hN hn hx pe_we hs hf) ?_
  refine he B ow σ H _ k fun B1 H1 u e1 t1 d1 => ?_
  obtain ⟨ow1, k1, _⟩ := (k.grow e1 t1).put hi (e := .raw Pr) (o := some u) ⟨rfl, mono, u, rfl, d1⟩
  exact hr B1 ow1 _ H1 D Bb k1 (bb.trans e1.b) f
/-- a range object that some expression gives, walked -/
def iRngV (te : TE) : TI := fun σ H R => te σ H fun v H1 => ∃ a lo hi, v = .ref a ∧ H1 a = some (.rng lo hi) ∧ (-(2 ^ 62) ≤ lo ∧ lo < 2 ^ 62 ∧ -(2 ^ 62) ≤ hi ∧ hi < 2 ^ 62) ∧ R (Itr lo (hi - lo).toNat) H1
theorem pi_rngV {te : TE} (he : PE X e te) : PI X tg e (iRngV te) := by
  refine ⟨fun pins s σ H R I h => ?_⟩
  refine thn (he.run pins s σ H _ I h) fun v s1 ⟨y, H1, I1, r1, a, lo, hi, ey, ha, ⟨b1, b2, b3, b4⟩, q⟩ => ?_
  subst ey
  cases r1
  obtain ⟨t, u, v, ho⟩ := I1.hok a _ ha
  refine wpAny_pyIter_range (show IsRange s1.heap a lo hi 1 t u v from ho) (small_one b1 b2 b3 b4) ?_
  refine pi_one (tk := s1.toks) I1 _ (turn_range _ lo (hi - lo).toNat) ?_ q
  have z1 : lo + ((0 : Nat) : Int) * 1 = lo := by simp
  have z2 : (((hi - lo).toNat : Nat) : Int) - ((0 : Nat) : Int) = Builtin.Range.rangeSize lo hi 1 := by rw [rangeSize_one]; split <;> omega
  show IsRangeIter _ _ (lo + ((0 : Nat) : Int) * 1) ((((hi - lo).toNat : Nat) : Int) - ((0 : Nat) : Int)) 1
  rw [z1, z2]
  exact Heap.get?_push_size _ rfl
theorem wk_rngV {lo hi : Int} (h : EvG X F ρ e fun _ _ B' _ u => Rng lo hi B' u) (b : -(2 ^ 62) ≤ lo ∧ lo < 2 ^ 62 ∧ -(2 ^ 62) ≤ hi ∧ hi < 2 ^ 62) : Wk X F ρ tg e (upFrom lo (hi - lo).toNat) := fun B ow σ H R k q => by
  refine wi_of (pi_rngV pe_we) ?_
  refine h B ow σ H _ k fun B1 H1 u e1 t1 ⟨a, h1, h2⟩ => ?_
  exact ⟨a, lo, hi, h1, t1 a _ h2, b, q _ B1 H1 e1 t1 serves_range⟩
/-! ### enumerate -/
def numbered : Nat → List PyData → List PyData
  | _, [] => []
  | i, x :: xs => .tuple [.int (i : Nat), x] :: numbered (i + 1) xs
theorem numbered_len : ∀ (xs : List PyData) (i : Nat), (numbered i xs).length = xs.length
  | [], _ => rfl
  | x :: xs, i => by show (numbered (i + 1) xs).length + 1 = xs.length + 1; rw [numbered_len xs]
theorem numbered_get : ∀ (xs : List PyData) (i j : Nat), (numbered i xs)[j]? = (xs[j]?).map fun x => .tuple [.int ((i + j : Nat) : Int), x]
  | [], _, _ => by simp [numbered]
  | x :: xs, i, 0 => by simp [numbered]
  | x :: xs, i, j + 1 => by
    show (numbered (i + 1) xs)[j]? = _
    rw [numbered_get xs (i + 1) j, List.getElem?_cons_succ, show i + 1 + j = i + (j + 1) by omega]
/-- a pair, just made, of what is frozen -/
theorem new_pair {B H : Hp} {T : Addr} {u v : V} {x y : PyData} (s : Same B H) (free : H T = none) (d1 : Dp X.K B u x) (d2 : Dp X.K B v y) : ∃ B', Ext B H B' (upd H T (.tup [u, v])) ∧ Same B' (upd H T (.tup [u, v])) ∧ Dp X.K B' (.ref T) (.tuple [x, y]) := by
  obtain ⟨e2, t2⟩ := Ext.new (o := .tup [u, v]) ⟨Same.refl _, same_new free, fun a o q n => by rw [n] at q; cases q⟩ free (s.free free) upd_same (s.trans (same_new free))
  have sb := same_new (o := .tup [u, v]) (s.free free)
  exact ⟨_, e2, t2, .tup (SqT.of upd_same) (.cons (d1.to sb) (.cons (d2.to sb) .nil))⟩
theorem wk_enum {elts : List Expr} {kk : Nat} {tpos : Pos} (h : EvD X F ρ e (.list xs)) (hg : Gl X "enumerate") (hm : X.mg "enumerate" = none) (s1 : starEach [e] X.env = [(false, eval e X.env)] := by rfl) (s2 : starEach [e] X.env = (false, eval e X.env) :: starEach [] X.env := by rfl) :
    Wk X F ρ (.Tuple elts kk tpos) (.Call (.Name "enumerate" p) [e] [] pos) (numbered 0 xs) := fun B ow σ H R k q => by
  refine wi_of (pi_enum hg hm (pa_cons pe_we pa_nil s2) s1) ?_
  refine h B ow σ H _ k fun B1 H1 u e1 t1 d1 => ?_
  cases d1 with
  | @lst a us _ h1 h2 =>
    refine ⟨a, us, rfl, t1.seq h1, q _ B1 H1 e1 t1 ⟨fun B2 H2 sb sh => ⟨us, (sb.trans sh).seq h1, by rw [numbered_len, h2.len]; exact Nat.le_refl _⟩, fun i x B2 H2 sb sh hx => ?_⟩⟩
    rw [numbered_get] at hx
    obtain ⟨y, hy, rfl⟩ := Option.map_eq_some_iff.mp hx
    obtain ⟨v, hv, dv⟩ := h2.at hy
    refine ⟨⟨us, v, (sb.trans sh).seq h1, hv⟩, fun w H3 ⟨T, z, r1, r2, r3, r4⟩ => ?_⟩
    subst r1 r3
    cases (r4 _ ((sb.trans sh).seq h1)).symm.trans hv
    rw [Nat.zero_add]
    exact new_pair sh r2 (.int _) (Dp.to dv sb)
theorem wk_zipL {elts : List Expr} {kk : Nat} {tpos : Pos} (h : EvD X F ρ e (.list xs)) (h' : EvD X F ρ e' (.list ys)) (hg : Gl X "zip") (hm : X.mg "zip" = none)
    (s1 : starEach [e, e'] X.env = (false, eval e X.env) :: starEach [e'] X.env := by rfl) (s2 : starEach [e'] X.env = (false, eval e' X.env) :: starEach [] X.env := by rfl) (hpl : (backTo pos (starEach [e'] X.env)).any (·.1) = false := by rfl) :
    Wk X F ρ (.Tuple elts kk tpos) (.Call (.Name "zip" p) [e, e'] [] pos) ((xs.zip ys).map fun q => .tuple [q.1, q.2]) := fun B ow σ H R k q => by
  refine wi_of (RZ.pi_zipA hg hm (pa_cons pe_we (pa_cons pe_we pa_nil s2) s1) s1 hpl) ?_
  refine h B ow σ H _ k fun B1 H1 u e1 t1 d1 => ?_
  refine h' B1 ow σ H1 _ (k.grow e1 t1) fun B2 H2 u' e2 t2 d2 => ?_
  have d1' := d1.to e2.b
  cases d1' with
  | @lst a us _ h1 h2 =>
    cases d2 with
    | @lst b vs _ g1 g2 =>
      refine ⟨a, b, us, vs, rfl, .inl ⟨t2.seq h1, t2.seq g1, q _ B2 H2 (e1.trans e2) t2 ⟨fun B3 H3 sb sh => ⟨us, vs, (sb.trans sh).seq h1, (sb.trans sh).seq g1, ?_⟩, fun i x B3 H3 sb sh hx => ?_⟩⟩⟩
      · rw [List.length_map, List.length_zip, h2.len, g2.len]
        omega
      · rw [List.getElem?_map] at hx
        obtain ⟨⟨x1, x2⟩, hz, rfl⟩ := Option.map_eq_some_iff.mp hx
        obtain ⟨hx1, hx2⟩ := List.getElem?_zip_eq_some.mp hz
        obtain ⟨v, hv, dv⟩ := h2.at hx1
        obtain ⟨v', hv', dv'⟩ := g2.at hx2
        refine ⟨⟨us, vs, v, v', (sb.trans sh).seq h1, (sb.trans sh).seq g1, hv, hv'⟩, fun w H4 ⟨T, z, z', r1, r2, r3, r4, r5⟩ => ?_⟩
        subst r1 r3
        cases (r4 _ ((sb.trans sh).seq h1)).symm.trans hv
        cases (r5 _ ((sb.trans sh).seq g1)).symm.trans hv'
        exact new_pair sh r2 (Dp.to dv sb) (Dp.to dv' sb)
/-- the signs of a text -/
theorem wk_str {s : Str} (h : EvD X F ρ e (.str s)) : Wk X F ρ tg e (s.cps.toList.map fun c => .str ⟨#[c]⟩) := fun B ow σ H R k q => by
  refine wi_of (pi_str pe_we) ?_
  refine h B ow σ H _ k fun B1 H1 u e1 t1 d1 => ?_
  refine ⟨s, dpStr d1, q _ B1 H1 e1 t1 ⟨fun B2 H2 _ _ => by show s.cps.size ≤ _; simp, fun i x B2 H2 sb sh hx => ?_⟩⟩
  rw [List.getElem?_map, Array.getElem?_toList] at hx
  obtain ⟨c, hc, rfl⟩ := Option.map_eq_some_iff.mp hx
  refine ⟨(Array.getElem?_eq_some_iff.mp hc).1, fun v H3 ⟨r1, c', r2, r3⟩ => ?_⟩
  subst r1 r3
  cases r2.symm.trans hc
  exact ⟨B2, Ext.refl _ _, sh, .str _⟩
end
end Ws

/-! S8: lists: + and *, slices, list(x), in, index, extend; equality of clean data. -/
namespace Ws
open PySem PySem.Spec L2 Wn
open PyProof.Rows hiding St
/-! ### equality of data without bools -/
mutual
/-- ints, texts, None, tuples and lists of such -/
def clean : PyData → Bool
  | .none => true
  | .bool _ => false
  | .int _ => true
  | .str s => PyData.strOk s
  | .list xs => cleanAll xs
  | .tuple xs => cleanAll xs
  | .dict _ => false
def cleanAll : List PyData → Bool
  | [] => true
  | x :: xs => clean x && cleanAll xs
end
mutual
theorem eqv_clean : ∀ (x y : PyData), clean x = true → clean y = true → (PyData.eqv x y = true ↔ x = y)
  | .none, y, _, hy => by cases y <;> simp_all [clean, PyData.eqv]
  | .bool _, _, hx, _ => by simp [clean] at hx
  | .int i, y, _, hy => by cases y <;> simp_all [clean, PyData.eqv]
  | .str s, y, _, hy => by cases y <;> simp_all [clean, PyData.eqv]
  | .dict _, _, hx, _ => by simp [clean] at hx
  | .list xs, y, hx, hy => by
    cases y <;> simp_all [clean, PyData.eqv]
    exact eqvAll_clean xs _ hx hy
  | .tuple xs, y, hx, hy => by
    cases y <;> simp_all [clean, PyData.eqv]
    exact eqvAll_clean xs _ hx hy
theorem eqvAll_clean : ∀ (xs ys : List PyData), cleanAll xs = true → cleanAll ys = true → (PyData.eqvAll xs ys = true ↔ xs = ys)
  | [], [], _, _ => by simp [PyData.eqvAll]
  | [], _ :: _, _, _ => by simp [PyData.eqvAll]
  | _ :: _, [], _, _ => by simp [PyData.eqvAll]
  | x :: xs, y :: ys, hx, hy => by
    simp only [cleanAll, Bool.and_eq_true] at hx hy
    simp only [PyData.eqvAll, Bool.and_eq_true, List.cons.injEq]
    rw [eqv_clean x y hx.1 hy.1, eqvAll_clean xs ys hx.2 hy.2]
end
theorem eqv_refl {x : PyData} (h : clean x = true) : PyData.eqv x x = true := (eqv_clean x x h h).mpr rfl
theorem eqv_ne {x y : PyData} (hx : clean x = true) (hy : clean y = true) (n : x ≠ y) : PyData.eqv x y = false := by
  cases e : PyData.eqv x y with
  | false => rfl
  | true => exact absurd ((eqv_clean x y hx hy).mp e) n
theorem cleanAll_of {xs : List PyData} (h : ∀ x ∈ xs, clean x = true) : cleanAll xs = true := by
  induction xs with
  | nil => rfl
  | cons x xs ih => simp only [cleanAll, Bool.and_eq_true]; exact ⟨h x (List.mem_cons_self ..), ih fun y hy => h y (List.mem_cons_of_mem _ hy)⟩
theorem cleanAll_mem {xs : List PyData} (h : cleanAll xs = true) : ∀ x ∈ xs, clean x = true := by
  induction xs with
  | nil => intro x hx; cases hx
  | cons y ys ih =>
    simp only [cleanAll, Bool.and_eq_true] at h
    intro x hx
    rcases List.mem_cons.mp hx with rfl | hx
    · exact h.1
    · exact ih h.2 x hx
theorem clean_lay : (∀ x : PyData, clean x = true → x.canLay0 = true) := by
  intro x
  exact PyData.rec (motive_1 := fun x => clean x = true → x.canLay0 = true) (motive_2 := fun xs => cleanAll xs = true → PyData.canLayAll0 xs = true) (motive_3 := fun _ => True) (motive_4 := fun _ => True)
    (by intro _; simp [PyData.canLay0]) (by intro b _; simp [PyData.canLay0]) (by intro i _; simp [PyData.canLay0]) (by intro s h; simp only [clean] at h; simp [PyData.canLay0, h])
    (by intro xs ih h; simp only [clean] at h; simp only [PyData.canLay0]; exact ih h) (by intro xs ih h; simp only [clean] at h; simp only [PyData.canLay0]; exact ih h) (by intro k _ h; simp [clean] at h)
    (by intro _; simp [PyData.canLayAll0]) (by intro x xs h1 h2 h; simp only [cleanAll, Bool.and_eq_true] at h; simp only [PyData.canLayAll0, Bool.and_eq_true]; exact ⟨h1 h.1, h2 h.2⟩) trivial (fun _ _ _ _ => trivial) (fun _ _ _ _ => trivial) x
theorem clean_shaped {x : PyData} (h : clean x = true) (d : x.depth ≤ 64) : SeqAt.shaped x = true := by
  unfold SeqAt.shaped
  rw [clean_lay x h, Bool.true_and]
  exact decide_eq_true d
theorem clean_pd (p : Int × Int) : clean (pd p) = true := by unfold pd; simp [clean, cleanAll]
theorem clean_pds (ps : List (Int × Int)) : cleanAll (ps.map pd) = true := cleanAll_of fun x hx => by
  obtain ⟨p, _, rfl⟩ := List.mem_map.mp hx
  exact clean_pd p
theorem clean_ints (ns : List Int) : cleanAll (ns.map PyData.int) = true := cleanAll_of fun x hx => by
  obtain ⟨p, _, rfl⟩ := List.mem_map.mp hx
  rfl
theorem depth_pd (p : Int × Int) : (pd p).depth = 1 := by unfold pd; simp [PyData.depth, PyData.depthAll]
theorem depth_all {xs : List PyData} {n : Nat} (h : ∀ x ∈ xs, x.depth ≤ n) : PyData.depthAll xs ≤ n := by
  induction xs with
  | nil => simp [PyData.depthAll]
  | cons x xs ih =>
    simp only [PyData.depthAll]
    have a := h x (List.mem_cons_self ..)
    have b := ih fun y hy => h y (List.mem_cons_of_mem _ hy)
    omega
theorem depth_pds (ps : List (Int × Int)) : PyData.depthAll (ps.map pd) ≤ 1 := depth_all fun x hx => by
  obtain ⟨p, _, rfl⟩ := List.mem_map.mp hx
  exact Nat.le_of_eq (depth_pd p)
section
variable {X : Cx} {F : Fx} {ρ : List Ent} {Φ : Out → Prop} {rest : List Stmt} {e e' tg : Expr} {xs ys : List PyData} {x : PyData} {pos p : Pos} {n : Str}
/-- == and != of clean data -/
theorem cmp_eqC {y : PyData} {b : Bool} (hu : X.A.units + 64 < cLine) (cx : clean x = true) (cy : clean y = true) (dx : x.depth ≤ 64) (dy : y.depth ≤ 64) (hb : b = true ↔ x = y) : CmpR X .Eq x y b := by
  have z := cmp_eqD hu (clean_shaped cx dx) (clean_shaped cy dy)
  have e : PyData.eqv x y = b := Bool.eq_iff_iff.mpr ((eqv_clean x y cx cy).trans hb.symm)
  rwa [e] at z
theorem cmp_neC {y : PyData} {b : Bool} (hu : X.A.units + 64 < cLine) (cx : clean x = true) (cy : clean y = true) (dx : x.depth ≤ 64) (dy : y.depth ≤ 64) (hb : b = true ↔ x ≠ y) : CmpR X .NotEq x y b := by
  have z := cmp_neD hu (clean_shaped cx dx) (clean_shaped cy dy)
  have e : (!PyData.eqv x y) = b := Bool.eq_iff_iff.mpr (by rw [Bool.not_eq_true', ← Bool.not_eq_true, eqv_clean x y cx cy]; exact hb.symm)
  rwa [e] at z
/-! ### lists that stand in the heap part by themselves -/
def EvK (X : Cx) (F : Fx) (ρ : List Ent) (e : Expr) (xs : List PyData) : Prop := EvG X F ρ e fun _ _ B' H' u => ∃ a us, u = .ref a ∧ H' a = some (.lst us) ∧ DpAll X.K B' us xs
theorem EvN.k (h : EvN X F ρ e xs) : EvK X F ρ e xs := fun B ow σ H Q k q => h B ow σ H Q k fun B' H' u f s ⟨a, us, h1, h2, _, _, h5⟩ => q B' H' u f s ⟨a, us, h1, h2, h5⟩
theorem EvK.l (h : EvK X F ρ e xs) : EvL X F ρ e xs := fun B ow σ H Q k q => h B ow σ H Q k fun B' H' u f s ⟨a, us, h1, h2, h5⟩ => q B' H' u f s ⟨a, us, h1, SqL.of h2, h5⟩
theorem ev_vk (i : Nat) (hi : ρ[i]? = some (.own xs) := by rfl) (hN : X.N[i]? = some n := by rfl) (hv : Vis X.env.scope n := by first | exact Or.inl rfl | exact Or.inr (Or.inl rfl) | exact Or.inr (Or.inr rfl))
    (hd : (n == ("__debug__" : Str)) = false := by decide) (hcd : (n == ("__classdict__" : Str)) = false := by decide) : EvK X F ρ (.Name n pos) xs := fun B ow σ H Q k q => by
  obtain ⟨a, us, h0, h1, h2, h3⟩ := slot_own k.sl hi
  exact we_of (pe_var hN hv hd hcd) ⟨_, h1, q B H _ (Ext.refl _ _) k.bh ⟨a, us, rfl, h2, h3⟩⟩
/-- a new list laid: what a rule asks behind it -/
theorem new_list {B H B1 H1 : Hp} {a : Addr} {us : List V} {Q : VK} (e1 : Ext B H B1 H1) (t1 : Same B1 H1) (free : H1 a = none) (d : DpAll X.K B1 us xs)
    (q : ∀ B' H' u, Ext B H B' H' → Same B' H' → (∃ a us, u = V.ref a ∧ H' a = some (.lst us) ∧ H a = none ∧ B' a = none ∧ DpAll X.K B' us xs) → Q u H') : Q (.ref a) (upd H1 a (.lst us)) :=
  q B1 _ _ (e1.trans ⟨Same.refl _, same_new free, fun b o w m => by rw [m] at w; cases w⟩) (t1.trans (same_new free)) ⟨a, us, rfl, upd_same, e1.h.free free, t1.free free, d⟩
theorem ev_catK (h : EvK X F ρ e xs) (h' : EvK X F ρ e' ys) (hz : xs.length + ys.length ≤ sizeLine) : EvN X F ρ (.BinOp e .Add e' pos) (xs ++ ys) := fun B ow σ H Q k q => by
  refine we_of (pe_op op_cat pe_we pe_we) ?_
  refine h B ow σ H _ k fun B1 H1 u e1 t1 ⟨a, us, r1, r2, r3⟩ => ?_
  refine h' B1 ow σ H1 _ (k.grow e1 t1) fun B2 H2 v e2 t2 ⟨b, vs, g1, g2, g3⟩ => ?_
  exact ⟨a, b, us, vs, r1, g1, e2.h a _ r2, g2, by rw [r3.len, g3.len]; exact hz, fun l free => new_list (e1.trans e2) t2 free (DpAll.append (DpAll.to r3 e2.b) g3) q⟩
theorem DpAll.flat {K : PySem.W.Frag} {B : Hp} {us : List V} (d : DpAll K B us xs) : ∀ m : Nat, DpAll K B (List.replicate m us).flatten (List.replicate m xs).flatten
  | 0 => .nil
  | m + 1 => by
    rw [List.replicate_succ, List.replicate_succ, List.flatten_cons, List.flatten_cons]
    exact DpAll.append d (DpAll.flat d m)
theorem ev_repK {j : Int} (h : EvK X F ρ e xs) (h' : EvD X F ρ e' (.int j)) (b1 : -(2 ^ 63) ≤ j) (b2 : j < 2 ^ 63) (hz : xs.length * j.toNat ≤ sizeLine) : EvN X F ρ (.BinOp e .Mult e' pos) (List.replicate j.toNat xs).flatten := fun B ow σ H Q k q => by
  refine we_of (pe_op op_rep pe_we pe_we) ?_
  refine h B ow σ H _ k fun B1 H1 u e1 t1 ⟨a, us, r1, r2, r3⟩ => ?_
  refine h' B1 ow σ H1 _ (k.grow e1 t1) fun B2 H2 v e2 t2 d2 => ?_
  exact ⟨a, j, us, r1, dpInt d2, e2.h a _ r2, b1, b2, by rw [r3.len]; exact hz, fun l free => new_list (e1.trans e2) t2 free (DpAll.flat (DpAll.to r3 e2.b) _) q⟩
/-- [x] * n -/
theorem ev_rep1 {j : Int} (h : EvN X F ρ e [x]) (h' : EvD X F ρ e' (.int j)) (b1 : -(2 ^ 63) ≤ j) (b2 : j < 2 ^ 63) (hz : j.toNat ≤ sizeLine) : EvN X F ρ (.BinOp e .Mult e' pos) (List.replicate j.toNat x) := by
  have z := ev_repK (pos := pos) (EvN.k h) h' b1 b2 (by simpa using hz)
  have f : (List.replicate j.toNat [x]).flatten = List.replicate j.toNat x := by
    generalize j.toNat = m
    induction m with
    | zero => rfl
    | succ m ih => rw [List.replicate_succ, List.flatten_cons, ih, List.replicate_succ]; rfl
  rwa [f] at z
/-! ### in, not in, index -/
theorem et_inL {b : Bool} {pc : Pos} (hx : EvD X F ρ e x) (hl : EvL X F ρ e' xs) (hu : X.A.units + 65 < cLine) (cx : clean x = true) (cl : cleanAll xs = true) (dx : x.depth ≤ 64) (dl : PyData.depthAll xs ≤ 63) (hb : b = true ↔ x ∈ xs) (hm : behindInMarks .In e' = false := by first | exact nomark _ | rfl) : EvT X F ρ (.Compare e [.In] [e'] pc) b := fun B ow σ H Q k q => by
  refine wt_of (pt_cmpR (op_inD hu) pe_we pe_we hm) ?_
  refine hx B ow σ H _ k fun B1 H1 u e1 t1 d1 => ?_
  refine hl B1 ow σ H1 _ (k.grow e1 t1) fun B2 H2 v e2 t2 ⟨a, us, r1, r2, r3⟩ => ?_
  subst r1
  refine ⟨x, xs, Dp.to d1 (e2.b.trans t2), .lst r2 (DpAll.to r3 t2), clean_shaped cx dx, clean_shaped (by simpa [clean] using cl) (by simp only [PyData.depth]; omega), b, ?_, q B2 H2 (e1.trans e2) t2⟩
  refine congrArg V.bl (Bool.eq_iff_iff.mpr ?_)
  rw [hb, List.any_eq_true]
  have each := cleanAll_mem cl
  constructor
  · rintro ⟨z, hz, e⟩
    exact ((eqv_clean z x (each z hz) cx).mp e) ▸ hz
  · intro hz
    exact ⟨x, hz, eqv_refl cx⟩
end
end Ws

/-! S9: slices of lists, index, extend, list(x), not in. -/
namespace Ws
open PySem PySem.Spec L2 Wn
open PyProof.Rows hiding St
section
variable {X : Cx} {F : Fx} {ρ : List Ent} {Φ : Out → Prop} {rest : List Stmt} {e e' e1 e2 tg : Expr} {xs ys : List PyData} {x : PyData} {pos p p2 : Pos} {n : Str}
/-! ### slices -/
def cutD (xs : List PyData) (lo hi : Option Int) : List PyData := (xs.drop (HT.sIx xs.length 0 lo)).take (HT.sIx xs.length xs.length hi - HT.sIx xs.length 0 lo)
theorem dp_cut {K : PySem.W.Frag} {B : Hp} {us : List V} (d : DpAll K B us xs) (lo hi : Option Int) : DpAll K B (cutV us lo hi) (cutD xs lo hi) := by
  unfold cutV cutD
  rw [d.len]
  exact DpAll.take _ (DpAll.drop _ d)
/-- a bound that is left out, or an int -/
inductive EvO (X : Cx) (F : Fx) (ρ : List Ent) : Option Expr → Option Int → Prop
  | none : EvO X F ρ none none
  | some {e : Expr} {i : Int} : EvD X F ρ e (.int i) → EvO X F ρ (some e) (some i)
theorem ev_slice {lo hi : Option Expr} {l h : Option Int} (he : EvL X F ρ e xs) (hl : EvO X F ρ lo l) (hh : EvO X F ρ hi h) : EvN X F ρ (.Subscript e (.Slice lo hi none p2) pos) (cutD xs l h) := fun B ow σ H Q k q => by
  have fin : ∀ B3 H3 a us, Ext B H B3 H3 → Same B3 H3 → SqL X.K H3 a us → DpAll X.K B3 us xs → ∃ a' xs', V.ref a = V.ref a' ∧ SqL X.K H3 a' xs' ∧ ∀ p, H3 p = none → Q (.ref p) (upd H3 p (.lst (cutV xs' l h))) := fun B3 H3 a us f t r2 r3 => ⟨a, us, rfl, r2, fun c free => new_list f t free (dp_cut r3 l h) q⟩
  cases hl with
  | none =>
    cases hh with
    | none =>
      refine we_of (pe_slice sl_list pe_we po_none po_none) ?_
      exact he B ow σ H _ k fun B1 H1 u f t ⟨a, us, r1, r2, r3⟩ => by subst r1; exact fin B1 H1 a us f t r2 r3
    | some hj =>
      refine we_of (pe_slice sl_list pe_we po_none (po_some pe_we)) ?_
      refine he B ow σ H _ k fun B1 H1 u f t ⟨a, us, r1, r2, r3⟩ => ?_
      refine hj B1 ow σ H1 _ (k.grow f t) fun B2 H2 v f2 t2 d2 => ?_
      subst r1
      exact ⟨_, dpInt d2, fin B2 H2 a us (f.trans f2) t2 (f2.h.seq r2) (DpAll.to r3 f2.b)⟩
  | some hi' =>
    cases hh with
    | none =>
      refine we_of (pe_slice sl_list pe_we (po_some pe_we) po_none) ?_
      refine he B ow σ H _ k fun B1 H1 u f t ⟨a, us, r1, r2, r3⟩ => ?_
      refine hi' B1 ow σ H1 _ (k.grow f t) fun B2 H2 v f2 t2 d2 => ?_
      subst r1
      exact ⟨_, dpInt d2, fin B2 H2 a us (f.trans f2) t2 (f2.h.seq r2) (DpAll.to r3 f2.b)⟩
    | some hj =>
      refine we_of (pe_slice sl_list pe_we (po_some pe_we) (po_some pe_we)) ?_
      refine he B ow σ H _ k fun B1 H1 u f t ⟨a, us, r1, r2, r3⟩ => ?_
      refine hi' B1 ow σ H1 _ (k.grow f t) fun B2 H2 v f2 t2 d2 => ?_
      refine ⟨_, dpInt d2, ?_⟩
      refine hj B2 ow σ H2 _ (k.grow (f.trans f2) t2) fun B3 H3 w f3 t3 d3 => ?_
      subst r1
      exact ⟨_, dpInt d3, fin B3 H3 a us ((f.trans f2).trans f3) t3 (f3.h.seq (f2.h.seq r2)) (DpAll.to r3 (f2.b.trans f3.b))⟩
theorem cutD_to {m : Nat} : cutD xs none (some (m : Int)) = xs.take m := by
  unfold cutD
  rw [HT.sIx_none, HT.sIx_nat, List.drop_zero, Nat.sub_zero]
  rcases Nat.le_total m xs.length with z | z
  · rw [Nat.min_eq_left z]
  · rw [Nat.min_eq_right z, List.take_length, List.take_of_length_le z]
theorem cutD_from {m : Nat} : cutD xs (some (m : Int)) none = xs.drop m := by
  unfold cutD
  rw [HT.sIx_none, HT.sIx_nat]
  rcases Nat.le_total m xs.length with z | z
  · rw [Nat.min_eq_left z]
    exact List.take_of_length_le (by rw [List.length_drop]; exact Nat.le_refl _)
  · rw [Nat.min_eq_right z, List.drop_length, List.drop_of_length_le z]
    exact List.take_nil
theorem cutD_mid {m k : Nat} : cutD xs (some (m : Int)) (some (k : Int)) = (xs.drop m).take (k - m) := by
  unfold cutD
  rw [HT.sIx_nat, HT.sIx_nat]
  rcases Nat.le_total m xs.length with z | z
  · rw [Nat.min_eq_left z]
    rcases Nat.le_total k xs.length with y | y
    · rw [Nat.min_eq_left y]
    · rw [Nat.min_eq_right y, List.take_of_length_le (l := xs.drop m) (i := k - m) (by rw [List.length_drop]; omega), List.take_of_length_le (by rw [List.length_drop]; exact Nat.le_refl _)]
  · rw [Nat.min_eq_right z, List.drop_length, List.drop_of_length_le z, List.take_nil, List.take_nil]
/-! ### xs.index(x) -/
theorem ev_index {j : Nat} {apos cpos : Pos} (hl : EvL X F ρ e xs) (hx : EvD X F ρ e' x) (hu : X.A.units + 65 < cLine) (cx : clean x = true) (cl : cleanAll xs = true) (dx : x.depth ≤ 64) (dl : PyData.depthAll xs ≤ 63) (hj : xs[j]? = some x) (first : ∀ m, m < j → xs[m]? ≠ some x)
    (hbase : attributeBase e "index" X.env (eval e X.env) = eval e X.env := by rfl)
    (hfew : ((backTo cpos (starEach (e' :: []) X.env)).all (fun x => !x.1) && (backToKw cpos (keywordEach [] X.env)).all (fun x => x.1.isSome)
      && decide (([e'] : List Expr).length + ([] : List Keyword).length + (if ([] : List Keyword).isEmpty then 0 else 1) < 30)) = true := by rfl)
    (hline : (apos.endLine == cpos.line) = true := by rfl) (hs : starEach (e' :: []) X.env = (false, eval e' X.env) :: starEach [] X.env := by rfl) (hplain : (backTo cpos (starEach [] X.env)).any (·.1) = false := by rfl) :
    EvD X F ρ (.Call (.Attribute e "index" apos) [e'] [] cpos) (.int (j : Nat)) := fun B ow σ H Q k q => by
  refine we_of (pe_bm PySem.F.plainAttrs_list PySem.F.slot_list_index PySem.F.type_list_index (mt_indexD hu) pe_we (pa_cons pe_we pa_nil hs) hbase hfew hline hs hplain) ?_
  refine hl B ow σ H _ k fun B1 H1 u f t ⟨a, us, r1, r2, r3⟩ => ?_
  subst r1
  refine ⟨.inl ⟨rfl, us, r2⟩, ?_⟩
  refine hx B1 ow σ H1 _ (k.grow f t) fun B2 H2 v f2 t2 d2 => ?_
  refine ⟨a, v, x, xs, j, x, rfl, rfl, .lst (f2.h.seq r2) (DpAll.to r3 (f2.b.trans t2)), Dp.to d2 t2, clean_shaped (by simpa [clean] using cl) (by simp only [PyData.depth]; omega), clean_shaped cx dx, hj, eqv_refl cx, fun m z hm hz => ?_, q B2 H2 _ (f.trans f2) t2 (.int _)⟩
  exact eqv_ne (cleanAll_mem cl z (List.mem_of_getElem? hz)) cx fun w => first m hm (by rw [hz, w])
/-! ### list(x) -/
theorem ev_list {pq : Pos} (h : EvD X F ρ e x) (hxs : x = .list xs ∨ x = .tuple xs) (hg : Gl X "list") (hm : X.mg "list" = none) (s1 : starEach [e] X.env = (false, eval e X.env) :: starEach [] X.env := by rfl) (hpl : (backTo pos (starEach [] X.env)).any (·.1) = false := by rfl) :
    EvN X F ρ (.Call (.Name "list" pq) [e] [] pos) xs := fun B ow σ H Q k q => by
  refine we_of (pe_callTy call_list_of hg hm (by decide +kernel) (pa_cons pe_we pa_nil s1) (by decide) (by decide) s1 hpl) ?_
  refine h B ow σ H _ k fun B1 H1 u f t d => ?_
  rcases hxs with rfl | rfl
  · cases d with
    | @lst a us _ h1 h2 => exact ⟨a, us, rfl, .inl (t.seq h1), fun l free => new_list f t free h2 q⟩
  · cases d with
    | @tup a us _ h1 h2 => exact ⟨a, us, rfl, .inr (seqT t h1), fun l free => new_list f t free h2 q⟩
theorem ev_listL {pq : Pos} (h : EvL X F ρ e xs) (hg : Gl X "list") (hm : X.mg "list" = none) (s1 : starEach [e] X.env = (false, eval e X.env) :: starEach [] X.env := by rfl) (hpl : (backTo pos (starEach [] X.env)).any (·.1) = false := by rfl) :
    EvN X F ρ (.Call (.Name "list" pq) [e] [] pos) xs := fun B ow σ H Q k q => by
  refine we_of (pe_callTy call_list_of hg hm (by decide +kernel) (pa_cons pe_we pa_nil s1) (by decide) (by decide) s1 hpl) ?_
  exact h B ow σ H _ k fun B1 H1 u f t ⟨a, us, r1, r2, r3⟩ => ⟨a, us, by rw [r1], .inl r2, fun l free => new_list f t free r3 q⟩
/-! ### xs.extend(ys) -/
theorem ex_extend (i : Nat) {apos cpos npos : Pos} (he : EvK X F ρ e ys) (hz : xs.length + ys.length ≤ sizeLine) (hr : Ex X F (ρ.set i (.own (xs ++ ys))) rest Φ) (hi : ρ[i]? = some (.own xs) := by rfl) (hN : X.N[i]? = some n := by rfl) (hv : Vis X.env.scope n := by first | exact Or.inl rfl | exact Or.inr (Or.inl rfl) | exact Or.inr (Or.inr rfl))
    (hd : (n == ("__debug__" : Str)) = false := by decide) (hcd : (n == ("__classdict__" : Str)) = false := by decide)
    (hbase : attributeBase (.Name n npos) "extend" X.env (eval (.Name n npos) X.env) = eval (.Name n npos) X.env := by rfl)
    (hfew : ((backTo cpos (starEach (e :: []) X.env)).all (fun x => !x.1) && (backToKw cpos (keywordEach [] X.env)).all (fun x => x.1.isSome)
      && decide (([e] : List Expr).length + ([] : List Keyword).length + (if ([] : List Keyword).isEmpty then 0 else 1) < 30)) = true := by rfl)
    (hline : (apos.endLine == cpos.line) = true := by rfl) (hs : starEach (e :: []) X.env = (false, eval e X.env) :: starEach [] X.env := by rfl) (hplain : (backTo cpos (starEach [] X.env)).any (·.1) = false := by rfl)
    (hsw : swapsWith (.Call (.Attribute (.Name n npos) "extend" apos) [e] [] cpos) none pos.line X.env = pure false := by rfl) :
    Ex X F ρ (.Expr (.Call (.Attribute (.Name n npos) "extend" apos) [e] [] cpos) pos :: rest) Φ := fun B ow σ H D Bb k bb f => by
  obtain ⟨a, us, h1, h2, _⟩ := k.write hi
  refine ws_cons (ps_expr (pe_bm PySem.F.plainAttrs_list PySem.F.slot_list_extend PySem.F.type_list_extend mt_extend (pe_var hN hv hd hcd) (pa_cons pe_we pa_nil hs) hbase hfew hline hs hplain) hsw) ?_
  refine ⟨_, h1, .inl ⟨rfl, us, SqL.of h2⟩, ?_⟩
  refine he B ow σ H _ k fun B' H' u f1 s1 ⟨b, vs, r1, r2, r3⟩ => ?_
  obtain ⟨a', us', g1, g2, g3, g4, g5, g6⟩ := (k.grow f1 s1).write hi
  rw [h1] at g1
  have ea : a = a' := by cases g1; rfl
  subst ea
  refine ⟨a, b, us', vs, rfl, by rw [r1], g2, r2, by rw [g5.len, r3.len]; exact hz, ?_⟩
  exact hr B' ow σ _ D Bb (g6 (us' ++ vs) (xs ++ ys) (DpAll.append g5 r3)) (bb.trans f1.b) f
end
end Ws

/-! Q1: quiet expressions over ints: nothing but the heap grows. For generator expressions, whose elements have to be quiet. -/
namespace Wq
open PySem PySem.Spec L2 Wn
open PyProof.Rows hiding St
section
variable {P : Program} {w : World} {K : PySem.W.Frag} {mg : Str → Option Value} {base : Heap}
theorem keeps_refl (s : Shared) : Keeps s s := ⟨s.heap, s.toks, rfl, fun _ _ z => z⟩
theorem keeps_tok (s : Shared) (k : Nat) : Keeps s { s with toks := k } := ⟨s.heap, k, rfl, fun _ _ z => z⟩
theorem keeps_trans {a b c : Shared} (x : Keeps a b) (y : Keeps b c) : Keeps a c := by
  obtain ⟨h1, k1, rfl, z1⟩ := x
  obtain ⟨h2, k2, rfl, z2⟩ := y
  exact ⟨h2, k2, rfl, fun d o e => z2 d o (z1 d o e)⟩
theorem keeps_heap {a b : Shared} (x : Keeps a b) : ∀ d o, a.heap.get? d = some o → b.heap.get? d = some o := by
  obtain ⟨h1, k1, rfl, z1⟩ := x
  exact z1
/-- a frame whose names m tells, over the module -/
structure Fr (base : Heap) (env : Env) (m : Str → Option Value) (s : Shared) : Prop where
  ns : s.heap.Ns env.locals m
  bs : ∀ b o, base.get? b = some o → s.heap.get? b = some o
theorem Fr.to {env : Env} {m : Str → Option Value} {s s' : Shared} (f : Fr base env m s) (k : Keeps s s') : Fr base env m s' := ⟨f.ns.keeps (keeps_heap k), fun b o e => keeps_heap k b o (f.bs b o e)⟩
/-- a def's or a generator's own frame -/
structure Of (env : Env) : Prop where
  kind : env.scope.kind = .function
  glob : env.globals = mainGlobals
  blt : env.builtins = builtinsNs
/-- the value is the int i, and the evaluation is quiet -/
def QI (P : Program) (w : World) (base : Heap) (A : Around) (env : Env) (m : Str → Option Value) (e : Expr) (i : Int) : Prop :=
  ∀ (E : Value → Shared → Prop) (Q : Value → Shared → Prop) (s : Shared), Fr base env m s → (∀ t s', Keeps s s' → Q (.int i t) s') → wpAny (model P w) A (eval e env) Q E s
variable {A : Around} {env : Env} {m : Str → Option Value} {a b e : Expr} {i j : Int} {pos p : Pos}
theorem qi_int {k} : QI P w base A env m (.Constant (.int i) k pos) i := fun E Q s f q => wpAny_Constant_int (q _ _ (keeps_tok s _))
theorem qi_loc {x : Str} {t : Tok} (O : Of env) (hl : env.kindOf x = some .local) (hm : m x = some (.int i t)) (hd : (x == ("__debug__" : Str)) = false := by decide) : QI P w base A env m (.Name x pos) i := fun E Q s f q =>
  wpAny_Name (wpAny_loadName_local O.kind hl f.ns hm (q _ _ (keeps_refl s))) hd
theorem qi_op {op : Operator} {r : Int} (ha : QI P w base A env m a i) (hb : QI P w base A env m b j)
    (ho : ∀ (t u : Tok) (s : Shared) (Q E : Value → Shared → Prop), Q (.int r s.toks) { s with toks := s.toks + 1 } → wpAny (model P w) A (binaryOp op (.int i t) (.int j u)) Q E s) : QI P w base A env m (.BinOp a op b pos) r := fun E Q s f q =>
  wpAny_BinOp (ha E _ s f fun t s1 k1 => hb E _ s1 (f.to k1) fun u s2 k2 => ho t u s2 Q E (q _ _ (keeps_trans (keeps_trans k1 k2) (keeps_tok s2 _))))
theorem qi_add (ha : QI P w base A env m a i) (hb : QI P w base A env m b j) : QI P w base A env m (.BinOp a .Add b pos) (i + j) := qi_op ha hb fun _ _ _ _ _ q => add_int q
theorem qi_mul (ha : QI P w base A env m a i) (hb : QI P w base A env m b j) (h : CMul i j) : QI P w base A env m (.BinOp a .Mult b pos) (i * j) := qi_op ha hb fun _ _ _ _ _ q => mul_int q h.ok
theorem qi_div (ha : QI P w base A env m a i) (hb : QI P w base A env m b j) (h : CDiv i j) : QI P w base A env m (.BinOp a .FloorDiv b pos) (i / j) := qi_op ha hb fun _ _ _ _ _ q => by
  obtain ⟨h1, h2⟩ := h
  exact floordiv_int (by omega) (by rw [Int.fdiv_eq_ediv_of_nonneg i (by omega)]; exact q) (.inl (PyProof.noPylong_small (by omega)))
theorem qi_shl (ha : QI P w base A env m a i) (hb : QI P w base A env m b j) (h : CPow i j) : QI P w base A env m (.BinOp a .LShift b pos) (i * 2 ^ j.toNat) := qi_op ha hb fun _ _ _ _ _ q => lshift_int_small h.1 h.2.1 h.2.2 q
/-- a built-in name -/
theorem q_blt {x : Str} {u : Value} {E Q : Value → Shared → Prop} {s : Shared} (M : L2.Mod K mg base) (O : Of env) (f : Fr base env m s) (hg : env.kindOf x = some .globalImplicit) (hm : mg x = none) (hv : bootBuiltins x = some u) (h : Q u s) (hn : x ≠ "__name__" := by decide) (hd : (x == ("__debug__" : Str)) = false := by decide) :
    wpAny (model P w) A (eval (.Name x pos) env) Q E s := by
  obtain ⟨mb, h1, h2⟩ := M.blt
  exact Calls.Name_function_global O.kind hg (Calls.loadGlobal_builtin (by rw [O.glob]; exact M.glob.keeps f.bs) hm (by rw [O.blt]; exact h1.keeps f.bs) ((h2 x hn).trans hv) h) hd
theorem q_glob {x : Str} {u : Value} {E Q : Value → Shared → Prop} {s : Shared} (M : L2.Mod K mg base) (O : Of env) (f : Fr base env m s) (hg : env.kindOf x = some .globalImplicit) (hm : mg x = some u) (h : Q u s) (hd : (x == ("__debug__" : Str)) = false := by decide) :
    wpAny (model P w) A (eval (.Name x pos) env) Q E s :=
  Calls.Name_function_global O.kind hg (Calls.loadGlobal_global (by rw [O.glob]; exact M.glob.keeps f.bs) hm h) hd
/-- two int arguments -/
theorem q_args {E : Value → Shared → Prop} {Q : List Value → Shared → Prop} {s : Shared} (ha : QI P w base A env m a i) (hb : QI P w base A env m b j) (f : Fr base env m s) (q : ∀ t u s', Keeps s s' → Q [.int i t, .int j u] s')
    (h1 : starEach [a, b] env = (false, eval a env) :: starEach [b] env := by rfl) (h2 : starEach [b] env = (false, eval b env) :: starEach [] env := by rfl) : wpAny (model P w) A (spliced (backTo pos (starEach [a, b] env))) Q E s := by
  rw [h1]
  show wpAny _ _ (spliced ((false, eval a env) :: backTo pos (starEach [b] env))) _ _ s
  refine Calls.spliced_cons (ha E _ s f fun t s1 k1 => ?_)
  rw [h2]
  show wpAny _ _ (spliced ((false, eval b env) :: backTo pos (starEach [] env))) _ _ s1
  exact Calls.spliced_cons (hb E _ s1 (f.to k1) fun u s2 k2 => Calls.spliced_nil (q t u s2 (keeps_trans k1 k2)))
theorem qi_max (M : L2.Mod K mg base) (O : Of env) (hh : A.handled = none) (hg : env.kindOf "max" = some .globalImplicit) (hm : mg "max" = none) (ha : QI P w base A env m a i) (hb : QI P w base A env m b j)
    (h1 : starEach [a, b] env = (false, eval a env) :: starEach [b] env := by rfl) (h2 : starEach [b] env = (false, eval b env) :: starEach [] env := by rfl) (hpl : (backTo pos (starEach [b] env)).any (·.1) = false := by rfl) : QI P w base A env m (.Call (.Name "max" p) [a, b] [] pos) (max i j) := fun E Q s f q => by
  refine wpAny_Call_Name_kw (q_blt M O f hg hm (show bootBuiltins "max" = some (.builtin "max") by decide +kernel) ?_)
  refine PyProof.Rows.callWith_builtin1 (q_args ha hb f (fun t u s1 k1 => max_two_ints hh fun h' tk k => ?_) h1 h2) h1 hpl
  have k2 : Keeps s1 { s1 with heap := h', toks := tk } := ⟨h', tk, rfl, k⟩
  rcases Classical.em (j > i) with z | z
  · rw [if_pos z]
    have e : max i j = j := by omega
    rw [e] at q
    exact q _ _ (keeps_trans k1 k2)
  · rw [if_neg z]
    have e : max i j = i := by omega
    rw [e] at q
    exact q _ _ (keeps_trans k1 k2)
theorem qi_min (M : L2.Mod K mg base) (O : Of env) (hh : A.handled = none) (hg : env.kindOf "min" = some .globalImplicit) (hm : mg "min" = none) (ha : QI P w base A env m a i) (hb : QI P w base A env m b j)
    (h1 : starEach [a, b] env = (false, eval a env) :: starEach [b] env := by rfl) (h2 : starEach [b] env = (false, eval b env) :: starEach [] env := by rfl) (hpl : (backTo pos (starEach [b] env)).any (·.1) = false := by rfl) : QI P w base A env m (.Call (.Name "min" p) [a, b] [] pos) (min i j) := fun E Q s f q => by
  refine wpAny_Call_Name_kw (q_blt M O f hg hm (show bootBuiltins "min" = some (.builtin "min") by decide +kernel) ?_)
  refine PyProof.Rows.callWith_builtin1 (q_args ha hb f (fun t u s1 k1 => min_two_ints hh fun h' tk k => ?_) h1 h2) h1 hpl
  have k2 : Keeps s1 { s1 with heap := h', toks := tk } := ⟨h', tk, rfl, k⟩
  rcases Classical.em (j < i) with z | z
  · rw [if_pos z]
    have e : min i j = j := by omega
    rw [e] at q
    exact q _ _ (keeps_trans k1 k2)
  · rw [if_neg z]
    have e : min i j = i := by omega
    rw [e] at q
    exact q _ _ (keeps_trans k1 k2)
/-! ### statements -/
/-- the block answers the int i, quietly; its own slots apart -/
def QS (P : Program) (w : World) (base : Heap) (A : Around) (env : Env) (m : Str → Option Value) (ss : List Stmt) (i : Int) : Prop :=
  ∀ (E : Value → Shared → Prop) (Q : Flow → Shared → Prop) (s : Shared), Fr base env m s → base.get? env.locals = none → (∀ t h' tk, (∀ b o, b ≠ env.locals → s.heap.get? b = some o → h'.get? b = some o) → Q (.ret (.int i t)) { s with heap := h', toks := tk }) → wpAny (model P w) A (execs ss env) Q E s
theorem qs_ret (h : QI P w base A env m e i) {rest : List Stmt} : QS P w base A env m (.Return (some e) pos :: rest) i := fun E Q s f nl q => by
  refine wpAny_execs_cons (wpAny_Return_some (h E _ s f fun t s1 k => ?_))
  obtain ⟨h', tk, rfl, z⟩ := k
  exact q t h' tk fun b o _ y => z b o y
theorem qs_set {x : Str} {p2 : Pos} {rest : List Stmt} (O : Of env) (hl : env.kindOf x = some .local) (h : QI P w base A env m e j) (hr : ∀ t, QS P w base A env (fun y => if y = x then some (.int j t) else m y) rest i) (hs : swapsWith e (some (.Name x p2)) pos.line env = pure false := by rfl) :
    QS P w base A env m (.Assign [.Name x p2] e pos :: rest) i := fun E Q s f nl q => by
  refine wpAny_execs_cons (wpAny_Assign_Name (h E _ s f fun t s1 k => ?_) hs)
  have f1 := f.to k
  refine wpAny_storeName_local hl f1.ns (fun h' hn sb => ?_) (by rw [O.kind]; rfl)
  obtain ⟨h1, tk1, rfl, z⟩ := k
  have bs' : ∀ b o, base.get? b = some o → h'.get? b = some o := fun b o y => (sb.2 b (fun w => by rw [w, nl] at y; cases y)).trans (f1.bs b o y)
  refine hr t E Q { s with heap := h', toks := tk1 + 1 } ⟨hn, bs'⟩ nl fun t2 h2 tk2 z2 => ?_
  exact q t2 h2 tk2 fun b o ne y => z2 b o ne ((sb.2 b ne).trans (z b o y))
/-! ### a def of ints, quiet -/
def QF (P : Program) (w : World) (K : PySem.W.Frag) (mg : Str → Option Value) (base : Heap) (f : Addr) (pre : Int → Int → Prop) (g : Int → Int → Int) : Prop :=
  ∀ (A : Around) (s : Shared) (i j : Int) (t u : Tok) (E Q : Value → Shared → Prop), A.handled = none → A.depth < recursionLimit → (∀ b o, base.get? b = some o → s.heap.get? b = some o) → pre i j → (∀ t s', Keeps s s' → Q (.int (g i j) t) s') → wpAny (model P w) A (call (.ref f) [.int i t, .int j u]) Q E s
theorem qi_call {x : Str} {f : Addr} {pre : Int → Int → Prop} {g : Int → Int → Int} (M : L2.Mod K mg base) (O : Of env) (F : QF P w K mg base f pre g) (hh : A.handled = none) (hr : A.depth < recursionLimit) (hg : env.kindOf x = some .globalImplicit) (hm : mg x = some (.ref f)) (hk : PySem.W.keepIn K (.ref f) = true) (ha : QI P w base A env m a i) (hb : QI P w base A env m b j) (hp : pre i j)
    (hd : (x == ("__debug__" : Str)) = false := by decide) (h1 : starEach [a, b] env = (false, eval a env) :: starEach [b] env := by rfl) (h2 : starEach [b] env = (false, eval b env) :: starEach [] env := by rfl) (hpl : (backTo pos (starEach [b] env)).any (·.1) = false := by rfl) :
    QI P w base A env m (.Call (.Name x p) [a, b] [] pos) (g i j) := fun E Q s f0 q => by
  refine wpAny_Call_Name_kw (q_glob M O f0 hg hm ?_ hd)
  refine PySem.W.callWith_K (h₀ := base) M.kin hk (q_args ha hb f0 (fun t u s1 k1 => ⟨M.kin.keeps fun b o e => keeps_heap k1 b o (f0.bs b o e), ?_⟩) h1 h2) h1 hpl
  exact F A s1 i j t u E Q hh hr (fun b o e => keeps_heap k1 b o (f0.bs b o e)) hp fun t' s2 k2 => q t' s2 (keeps_trans k1 k2)
/-- a def's frame that holds no cells -/
def qEnv (q : Str) (sc : Scope) (L f : Addr) (cd : Value) : Env := { scope := sc, locals := L, globals := mainGlobals, cells := [], qual := q ++ ".<locals>.", func := some f, code := cd, frame := some L, builtins := builtinsNs }
theorem qf_mk {n q : Str} {st : Stmt} {f : Addr} {fd : FuncData} {pre : Int → Int → Prop} {g : Int → Int → Int} {x y : Str} (M : L2.Mod K mg base) (Fu : Fun K n q st f fd) (hb : Binds K fd [x, y] []) (hcell : ∀ z ∈ (defScope st).names, z.2 ≠ .cell) (hx : (defScope st).names.lookup x = some .local) (hy : (defScope st).names.lookup y = some .local)
    (hco : (defScope st).isCoroutine = false) (hgen : (defScope st).isGenerator = false) (hk : (defScope st).kind = .function)
    (body : ∀ (A : Around) (L : Addr) (cd : Value) (i j : Int) (t u : Tok), A.handled = none → pre i j → QS P w base A (qEnv q (defScope st) L f cd) (fun z => ([(x, Value.int i t), (y, Value.int j u)] : List (Str × Value)).reverse.lookup z) (defBody st) (g i j)) : QF P w K mg base f pre g := by
  obtain ⟨oc, od, kV, doc, pm, an, cdv, ct, osl, rfl, lk, hcd⟩ := Fu.ex
  intro A s i j t u E Q hh hr bs hp qq
  have KX : K.In s.heap := M.kin.keeps bs
  refine wpAny_call (codeAny_call_function hr (KX _ _ lk) rfl hco hgen rfl (PySem.W.codeRec_of KX hcd) (hb s [.int i t, .int j u] KX rfl _ _ _ _ ?_))
  have none_L : base.get? s.heap.objs.size = none := by
    cases c : base.get? s.heap.objs.size with
    | none => rfl
    | some o => exact absurd (Heap.lt_size (bs _ _ c)) (Nat.lt_irrefl _)
  refine wpAny_newFunctionEnv hcell (fun z hz => ?_) (fun h0 hns hsb => ?_) hk
  · have hz' : z ∈ [(x, Value.int i t), (y, Value.int j u)] := hz
    rcases List.mem_cons.mp hz' with e | hz'
    · rw [e]; exact hx
    · rw [List.mem_singleton.mp hz']; exact hy
  · have old : ∀ b o, s.heap.get? b = some o → h0.get? b = some o := fun b o e => hsb.extBut b o (Nat.ne_of_lt (Heap.lt_size e)) (Heap.get?_push_of_some _ e)
    refine ⟨M.nolimit.keeps fun b o e => old b o (bs b o e), codeAny_func ?_⟩
    show wpAny (model P w) (A.deeper (qEnv q (defScope st) s.heap.objs.size f cdv)) (execs (defBody st) (qEnv q (defScope st) s.heap.objs.size f cdv)) _ _ { s with heap := h0, toks := s.toks + 2 }
    refine body (A.deeper (qEnv q (defScope st) s.heap.objs.size f cdv)) s.heap.objs.size cdv i j t u hh hp _ _ { s with heap := h0, toks := s.toks + 2 } ⟨hns, fun b o e => old b o (bs b o e)⟩ none_L fun t2 h2 tk2 z2 => ?_
    exact qq t2 _ ⟨h2, tk2, rfl, fun b o e => z2 b o (Nat.ne_of_lt (Heap.lt_size e)) (old b o e)⟩
end
end Wq

/-! Q2: sum(elt for a, b in pairs), elt quiet. The def's table of code objects stands in the heap part as a thing of which only its shape is said: it may grow. -/
namespace Wq
open PySem PySem.Spec L2 Wn Ws
open PyProof.Rows hiding St
theorem tab_obj {P : Program} {w : World} {H : Hp} {h : Heap} {T : Addr} (x : TabIs T h) : ObjOk P w H h T (TabX T) := by
  have ⟨ps, e, t⟩ := x
  exact ⟨x, ⟨_, e⟩, fun h1 h2 ⟨qs, e1, t1⟩ k => ⟨qs, k _ e1, t1⟩⟩
/-- a tuple of tuples, walked pair by pair -/
theorem walksU_tup {prog : Program} {w : World} {A : Around} (hh : A.handled = none) (I ax : Addr) (hne : ax ≠ I) (items : Array Value) (Ts : Nat → Addr) (vals : Nat → Array Value) (hit : ∀ j, j < items.size → items[j]? = some (.ref (Ts j))) (hTI : ∀ j, j < items.size → Ts j ≠ I) :
    WalksU prog w A I (I :: ax :: (List.range items.size).map Ts) [I] items.size (fun j v => v = vals j) (fun j h => h.IsTupleIter I ax j ∧ h.IsTuple ax items ∧ ∀ k, k < items.size → h.IsTuple (Ts k) (vals k))
      (fun j T h => (j < items.size ∧ T = Ts j) ∧ h.IsTupleIter I ax (j + 1) ∧ h.IsTuple ax items ∧ ∀ k, k < items.size → h.IsTuple (Ts k) (vals k)) where
  sub := fun b hb => by rw [List.mem_singleton.mp hb]; exact List.mem_cons_self ..
  frame := fun i h h' ⟨s1, s2, s3⟩ hk => ⟨s1.at fun o e => hk I (List.mem_cons_self ..) o e, s2.at fun o e => hk ax (by simp) o e, fun k hk' => (s3 k hk').at fun o e => hk (Ts k) (by simp; exact .inr (.inr ⟨k, hk', rfl⟩)) o e⟩
  item := fun i s Q E hi ⟨s1, s2, s3⟩ q => by
    refine wpAny_pyNext_tuple_item s1 s2 (x := .ref (Ts i)) (hit i hi) fun h' hit' sb => ?_
    have tups : ∀ k, k < items.size → h'.IsTuple (Ts k) (vals k) := fun k hk' => (s3 k hk').extBut sb.extBut (hTI k hk')
    exact q _ _ h' s.toks rfl (tups i hi) ⟨⟨hi, rfl⟩, hit', s2.extBut sb.extBut hne, tups⟩ fun b o hb e => sb.extBut b o (fun z => hb (by rw [z]; exact List.mem_singleton.mpr rfl)) e
  go := fun elts k pos i T s Q E hm q => by
    obtain ⟨o, ho, hc, hd⟩ := hm.2.1
    exact go_of ho hc hd (by decide) (q s.heap hm.2 fun _ _ _ e => e)
  apart := fun j T _ hm z => hTI j hm.1.1 (hm.1.2 ▸ List.mem_singleton.mp z)
  done := fun s Q E ⟨s1, s2, _⟩ q => wpAny_pyNext_tuple_end hh s1 s2 (by simp) fun h' he' => q h' s.toks fun b o hb e => he' b o (fun z => hb (by rw [z]; exact List.mem_singleton.mpr rfl)) e
  self := fun _ _ _ _ st q => wpAny_pyIter_tupleiter st.1 q
/-- the generator expression's own scope -/
structure GenS2 (env : Env) (scope : Scope) (xa xb : Str) : Prop where
  kind : scope.kind = .function
  co : scope.isCoroutine = false
  cell : ∀ y ∈ scope.names, y.2 ≠ .cell
  dot : scope.names.lookup (".0" : Str) = some NameKind.local
  la : scope.names.lookup xa = some .local
  lb : scope.names.lookup xb = some .local
  ne : xa ≠ xb
  free : ∀ y ∈ scope.names, y.2 = .free → ∃ c, env.cells.lookup y.1 = some c
section
variable {X : Cx}
/-- the element, quiet: for the pair (i, j) the int f i j -/
def EltI (X : Cx) (scope : Scope) (xa xb : Str) (elt : Expr) (i j r : Int) : Prop :=
  ∀ (A' : Around) (cenv : Env) (m : Str → Option Value) (t u : Tok), A'.handled = none → A'.depth ≤ X.A.depth + 1 → A'.units ≤ X.A.units + 8 → cenv.scope = scope → cenv.globals = X.env.globals → cenv.builtins = builtinsNs → m xa = some (.int i t) → m xb = some (.int j u) → QI X.prog X.w X.base A' cenv m elt r
/-- the ints of a pair's tuple -/
theorem pair_vals {K : PySem.W.Frag} {G H : Hp} {us : List V} {ps : List (Int × Int)} (sg : Same G H) (d : DpAll K G us (ps.map pd)) : ∀ {its : List Value}, Vals us its → ∀ (k : Nat) (p : Int × Int), ps[k]? = some p → ∃ b, its[k]? = some (.ref b) ∧ SqT K H b [.int p.1, .int p.2] := by
  induction ps generalizing us with
  | nil => intro its _ k p e; simp at e
  | cons q qs ih =>
    intro its r k p e
    cases d with
    | cons d1 d2 =>
      cases r with
      | cons r1 r2 =>
        cases k with
        | zero =>
          cases e
          obtain ⟨b, rfl, hb⟩ := dp_pair d1
          exact ⟨b, by rw [List.getElem?_cons_zero]; exact congrArg some r1, seqT sg hb⟩
        | succ k => exact ih d2 r2 k p e
def tSumG (K : PySem.W.Frag) (T : Addr) (Pre : Int → Int → Prop) (f : Int → Int → Int) (te : TE) : TE := fun σ H Q => te σ H fun v H1 => ∃ (G : Hp) (a : Addr) (us : List V) (ps : List (Int × Int)), v = .ref a ∧ Same G H1 ∧ SqT K H1 a us ∧ DpAll K G us (ps.map pd) ∧ (∀ p ∈ ps, Pre p.1 p.2) ∧ H1 T = some (TabX T) ∧ Q (.int ((ps.map fun p => f p.1 p.2).sum)) H1
theorem sum_pre (l : List Int) : ∀ n, n ≤ l.length → preSum (fun k => l.getD k 0) n = (l.take n).sum
  | 0, _ => by simp [preSum]
  | n + 1, h => by
    have e : l[n]? = some l[n] := List.getElem?_eq_getElem h
    show preSum (fun k => l.getD k 0) n + l.getD n 0 = _
    rw [sum_pre l n (by omega), List.take_succ, e, List.sum_append]
    simp [List.getD_eq_getElem?_getD, e]
theorem pe_sumG {c T : Addr} {elt iter : Expr} {xa xb : Str} {pa pb pt p pos gpos : Pos} {kt : Nat} {scope : Scope} {te : TE} {k : Nat} (Pre : Int → Int → Prop) (f : Int → Int → Int)
    (hr : Room k X.A) (hg : Gl X "sum") (hm : X.mg "sum" = none) (TB : GxR.TabB X.base X.mg c T) (hcode : X.env.code = .ref c) (S : GenS2 X.env scope xa xb) (hi : PE X iter te)
    (hel : ∀ i j, Pre i j → EltI X scope xa xb elt i j (f i j)) (hs : ∀ v, genFold iter X.env v = pure v)
    (he : starEach [.GeneratorExp elt [⟨.Tuple [.Name xa pa, .Name xb pb] kt pt, iter, [], 0⟩] scope gpos] X.env = (false, eval (.GeneratorExp elt [⟨.Tuple [.Name xa pa, .Name xb pb] kt pt, iter, [], 0⟩] scope gpos) X.env) :: starEach [] X.env := by rfl) :
    PE X (.Call (.Name "sum" p) [.GeneratorExp elt [⟨.Tuple [.Name xa pa, .Name xb pb] kt pt, iter, [], 0⟩] scope gpos] [] pos) (tSumG X.K T Pre f te) := by
  refine ⟨fun pins s σ H Q I h => ?_⟩
  refine wpAny_Call_Name_kw (ld_blt I hg hm boot_sum ?_)
  refine PyProof.Rows.callWith_builtin1 ?_ he (by rfl)
  rw [he]
  show wpAny _ _ (spliced ((false, eval (.GeneratorExp elt [⟨.Tuple [.Name xa pa, .Name xb pb] kt pt, iter, [], 0⟩] scope gpos) X.env) :: backTo pos (starEach [] X.env))) _ _ s
  refine Calls.spliced_cons ?_
  refine wpAny_GeneratorExp_walksQTD hr.hd S.co (closure_ok S.free) S.cell S.dot S.la S.lb S.ne S.kind (by have := hr.dp; omega) ?_ hs
  refine thn (hi.run pins s σ H _ I h) fun xv s1 ⟨v, H1, I1, r1, G, a, us, ps, ev, sg, hq, hd, pre, hT, q⟩ => ?_
  subst ev
  cases r1
  obtain ⟨its, rv, tp, hz⟩ := I1.tuple hq
  obtain ⟨tabs, hP, htr⟩ : TabIs T s1.heap := (I1.hok T _ hT).1
  have len : its.length = ps.length := by rw [← rv.length, hd.len, List.length_map]
  -- the pairs' tuples and what they hold
  have each : ∀ k : Nat, ∃ z : Addr × Array Value, k < ps.length → ∃ t u, its[k]? = some (.ref z.1) ∧ s1.heap.IsTuple z.1 z.2 ∧ z.2 = #[.int (ps.getD k (0, 0)).1 t, .int (ps.getD k (0, 0)).2 u] := fun k => by
    by_cases hk : k < ps.length
    · have e : ps[k]? = some ps[k] := List.getElem?_eq_getElem hk
      have e2 : ps.getD k (0, 0) = ps[k] := by rw [List.getD_eq_getElem?_getD, e]; rfl
      obtain ⟨b, h1, h2⟩ := pair_vals sg hd rv k _ e
      obtain ⟨js, rj, tj, _⟩ := I1.tuple h2
      obtain ⟨u1, u2, rfl, ⟨t1, rfl⟩, ⟨t2, rfl⟩⟩ := vals2 rj
      exact ⟨(b, #[.int ps[k].1 t1, .int ps[k].2 t2]), fun _ => ⟨t1, t2, h1, tj, by rw [e2]⟩⟩
    · exact ⟨(0, #[]), fun z => absurd z hk⟩
  obtain ⟨zz, hzz⟩ := Classical.skolem.mp each
  have isz : its.toArray.size = ps.length := by rw [List.size_toArray, len]
  refine wpAny_pyIter_tuple (show s1.heap.IsTuple a its.toArray from tp) ?_
  have st2 : (s1.heap.push { cls := .type "tuple_iterator", data := .fields #[.ref a, .int 0 0] }).IsTupleIter s1.heap.objs.size a 0 := ⟨_, Heap.get?_push_size _ rfl, rfl, rfl⟩
  have keep2 : ∀ b u, s1.heap.get? b = some u → (s1.heap.push { cls := .type "tuple_iterator", data := .fields #[.ref a, .int 0 0] }).get? b = some u := fun b u e => Heap.get?_push_of_some _ e
  have size2 : (s1.heap.push { cls := .type "tuple_iterator", data := .fields #[.ref a, .int 0 0] }).objs.size = s1.heap.objs.size + 1 := Heap.size_push ..
  have lim2 : (s1.heap.push { cls := .type "tuple_iterator", data := .fields #[.ref a, .int 0 0] }).NoLimit := I1.nolimit.push _
  generalize s1.heap.push { cls := .type "tuple_iterator", data := .fields #[.ref a, .int 0 0] } = h2 at st2 keep2 size2 lim2 ⊢
  refine ⟨lim2, ?_⟩
  have lt_T : T < s1.heap.objs.size := Heap.lt_size hP
  have cd : PySem.W.CodeHd h2 c T := TB.code.keeps fun b u e => keep2 b u (I1.bk b u e)
  rcases hf : codeAmong gpos tabs.toList with _ | cv
  all_goals
    first
    | (refine wpAny_genexprCodeX hcode (cd.code (keep2 _ _ hP) htr) (cd.tab (keep2 _ _ hP)) hf fun c' h3 tk x3 hge hlt hco' _ htab' _ => ?_
       obtain ⟨_, _, _, _, _, _, _, _, _, _, _, _, _, _, _, _, _, _, _, htr3, _⟩ := hco'
       have size3 : h2.objs.size ≤ h3.objs.size := Nat.le_trans hge (Nat.le_of_lt hlt)
       have hT3 := htab'.2)
    | (refine wpAny_genexprCode_hit hcode (cd.code (keep2 _ _ hP) htr) hf ?_
       obtain ⟨h3, e3⟩ : ∃ h3, h3 = h2 := ⟨_, rfl⟩
       have x3 : Heap.ExtBut T h2 h3 := by rw [e3]; exact .refl _ _
       have size3 : h2.objs.size ≤ h3.objs.size := by rw [e3]; exact Nat.le_refl _
       have hT3 := keep2 _ _ hP
       have htr3 := htr
       rw [← e3] at hT3 ⊢)
    obtain ⟨bm, ob, e1, e2, e3, e4, e5, e6, e7, e8⟩ := TB.bm
    have ne_cs : cStatics ≠ T := fun e => by
      obtain ⟨_, hns, _⟩ := I1.nolimit
      obtain ⟨o', es, ep, hcs, hdd, _⟩ := hns
      rw [e, hP] at hcs
      cases hcs
      cases hdd
    have lt_cs : cStatics < s1.heap.objs.size := by
      obtain ⟨_, hns, _⟩ := I1.nolimit
      exact hns.lt
    have keep3 : ∀ b u, b ≠ T → s1.heap.get? b = some u → h3.get? b = some u := fun b u nb e => x3 b u nb (keep2 b u e)
    have bs3 : ∀ b u, X.base.get? b = some u → h3.get? b = some u := fun b u e => by
      refine keep3 b u (fun z => ?_) (I1.bk b u e)
      subst z
      rw [(I1.bs _ _ e).2] at hT
      cases hT
    refine wpAny_builtinsFor (m := X.mg) (by rw [I1.ok.glob]; exact I1.mod.glob.keeps bs3) e1 e2 (bs3 _ _ e5) e6 e7 e8 ?_
    have tups : ∀ k, k < its.toArray.size → s1.heap.IsTuple (zz k).1 (zz k).2 := fun k hk => by
      rw [isz] at hk
      obtain ⟨t, u, _, z, _⟩ := hzz k hk
      exact z
    have notT : ∀ {b : Addr} {vs : Array Value}, s1.heap.IsTuple b vs → b ≠ T := fun {b vs} ⟨o, h1, h2, _⟩ e => by
      rw [e, hP] at h1
      cases h1
      cases h2
    have tup3 : ∀ {b : Addr} {vs : Array Value}, s1.heap.IsTuple b vs → h3.IsTuple b vs := fun {b vs} z => z.at fun o e => keep3 b o (notT z) e
    have tlt : ∀ {b : Addr} {vs : Array Value}, s1.heap.IsTuple b vs → b < s1.heap.objs.size := fun {b vs} ⟨o, h1, _⟩ => Heap.lt_size h1
    refine ⟨s1.heap.objs.size, _, _, its.toArray.size, _, _, _, fun _ => true, fun i y => ∃ t, y = .int (f (ps.getD i (0, 0)).1 (ps.getD i (0, 0)).2) t, rfl,
      fun A' hA => (walksU_tup (A := A') hA s1.heap.objs.size a (Nat.ne_of_lt (tlt tp)) its.toArray (fun k => (zz k).1) (fun k => (zz k).2) (fun k hk => ?_) (fun k hk => Nat.ne_of_lt (tlt (tups k hk)))).bound, fun i vals ⟨hi', ev⟩ => ?_, ?_, ?_, lim2.extBut x3 ne_cs, ?_, ?_, ?_⟩
    · rw [isz] at hk
      obtain ⟨t, u, z, _⟩ := hzz k hk
      simpa using z
    · rw [isz] at hi'
      obtain ⟨t, u, _, _, z⟩ := hzz i hi'
      exact ⟨_, _, ev.trans z⟩
    · exact ⟨st2.at fun o e => x3 _ o (Nat.ne_of_gt lt_T) e, tup3 tp, fun k hk => tup3 (tups k hk)⟩
    · intro b hb
      show b < h3.objs.size
      have up : s1.heap.objs.size < h3.objs.size := by omega
      rcases List.mem_cons.mp hb with z | hb
      · rw [z]; exact up
      · rcases List.mem_cons.mp hb with z | hb
        · rw [z]; exact Nat.lt_trans (tlt tp) up
        · obtain ⟨k, hk, z⟩ := List.mem_map.mp hb
          rw [← z]; exact Nat.lt_trans (tlt (tups k (List.mem_range.mp hk))) up
    · intro z
      exact Nat.ne_of_lt lt_cs (List.mem_singleton.mp z)
    · intro href hkeep
      refine ⟨fun A' E' i va vb s₂ m₂ hA hD hU hPv hn hma hmb hk => ?_, fun A' E' i va vb s₂ m₂ hA hD hU hPv _ hn hma hmb hk => ?_⟩
      · simp only [List.forIn_nil]
        exact wpAny_pure ⟨rfl, keeps_refl _⟩
      · obtain ⟨hi', ev⟩ := hPv
        rw [isz] at hi'
        obtain ⟨t, u, _, _, z⟩ := hzz i hi'
        have e2 : #[va, vb] = #[.int (ps.getD i (0, 0)).1 t, .int (ps.getD i (0, 0)).2 u] := ev.trans z
        have e3 : [va, vb] = [.int (ps.getD i (0, 0)).1 t, .int (ps.getD i (0, 0)).2 u] := congrArg Array.toList e2
        injection e3 with ea e4
        injection e4 with eb _
        subst ea eb
        have hp : Pre (ps.getD i (0, 0)).1 (ps.getD i (0, 0)).2 := by
          have e3 : ps[i]? = some ps[i] := List.getElem?_eq_getElem hi'
          rw [show ps.getD i (0, 0) = ps[i] by rw [List.getD_eq_getElem?_getD, e3]; rfl]
          exact pre _ (List.getElem_mem hi')
        refine hel _ _ hp A' (genEnv scope (cloFrom X.env.cells scope.names []) h3.objs.size _ builtinsNs X.env) m₂ t u hA hD hU rfl rfl rfl hma hmb E' _ s₂ ⟨hn, fun b o e => ?_⟩ fun t' s' kk => ⟨⟨t', rfl⟩, kk⟩
        have hb3 := bs3 b o e
        refine hk b (List.mem_range.mpr (Heap.lt_size hb3)) (fun z => ?_) o (hkeep b o hb3)
        have := Heap.lt_size (I1.bk b o e)
        rw [List.mem_singleton.mp z] at this
        exact Nat.lt_irrefl _ this
    · intro g h5 tk5 gs hgb hag hsz5 hk5 W5 hat
      rw [GxR.passing_true, List.length_range] at W5
      refine Calls.spliced_nil ?_
      have W := W5.in4_1
      refine call_sum_walkAnyS (W.self 0 _ _ _ hat ⟨g, _, _, _, _, _, _, fun k => (ps.map fun p => f p.1 p.2).getD k 0, rfl, W, hat, fun b hb => ?_, fun i v hv => ?_, fun s' t' hmv => ?_⟩)
      · show b < h5.objs.size
        have hag' : h3.objs.size < g := hag
        rw [hsz5]
        rcases List.mem_cons.mp hb with z | hb
        · rw [z]; exact Nat.lt_succ_self _
        · rcases List.mem_cons.mp hb with z | hb
          · rw [z]; exact Nat.lt_succ_of_lt hag'
          · exact Nat.lt_succ_of_lt (Nat.lt_trans (List.mem_range.mp hb) hag')
      · obtain ⟨i', hij, t, e⟩ := hv
        obtain ⟨hl, ei⟩ := List.getElem?_eq_some_iff.mp hij
        rw [List.getElem_range] at ei
        rw [List.length_range, isz] at hl
        subst ei
        refine ⟨t, e.trans (congrArg (Value.int · t) ?_)⟩
        have e3 : ps[i]? = some ps[i] := List.getElem?_eq_getElem hl
        simp [List.getD_eq_getElem?_getD, e3]
      · rw [isz] at *
        have nw : ∀ b u, s1.heap.get? b = some u → b ∉ h3.objs.size :: [s1.heap.objs.size] := fun b u e hb => by
          have hl := Heap.lt_size e
          have up : s1.heap.objs.size < h3.objs.size := by omega
          rcases List.mem_cons.mp hb with z | hb
          · rw [z] at hl; exact Nat.lt_irrefl _ (Nat.lt_trans hl up)
          · rw [List.mem_singleton.mp hb] at hl; exact Nat.lt_irrefl _ hl
        have old : ∀ b u, b ≠ T → s1.heap.get? b = some u → s'.heap.get? b = some u := fun b u nb e => hmv.heap b u (nw b u e) (hk5 b u (keep3 b u nb e))
        have tab' : s'.heap.get? T = some _ := hmv.heap T _ (nw T _ hP) (hk5 T _ hT3)
        have hu : upd H1 T (TabX T) = H1 := by
          funext b
          by_cases z : b = T
          · subst z; rw [upd_same, hT]
          · rw [upd_ne z]
        have mu : Mut (H1 T) := by rw [hT]; trivial
        have un := Un.write (fs := frs X.stack) (ex := []) (o := TabX T) mu (.inl rfl) old ⟨_, tab'⟩
        have ok' : HOk X.prog X.w (upd H1 T (TabX T)) s'.heap := I1.hok.write mu (.inl rfl) old ⟨_, tab'⟩ (tab_obj ⟨_, tab', htr3⟩)
        rw [hu] at un ok'
        have J : Inv X pins σ H1 s' := I1.call' (ch := []) hmv.os un ok' (AllBare.movedS (I1.bare.push hgb) hmv) fun _ z => nomatch z
        refine ⟨.int _, H1, J, ⟨_, rfl⟩, ?_⟩
        have e5 : preSum (fun k => (ps.map fun p => f p.1 p.2).getD k 0) ps.length = (ps.map fun p => f p.1 p.2).sum := by
          rw [sum_pre _ _ (by rw [List.length_map]; exact Nat.le_refl _)]
          rw [List.take_of_length_le (by rw [List.length_map]; exact Nat.le_refl _)]
        rw [e5]
        exact q
end
end Wq

/-! E1: the end of a law: its def answers True at each script. Without tables of code objects, and with. -/
namespace Ws
open PySem PySem.Spec L2 Wn
open PyProof.Rows hiding St
/-- the def answers True at each list of at most 63 ints -/
def S_true : SpecD := fun xs o => ∃ ns : List Int, ns.length ≤ 63 ∧ xs = [.list (ns.map .int)] ∧ o = .ret (.bool true)
theorem walkD {l : PySem.W.OpenLaw} {q : Program} {loose : List Str} {XP : (Str → Option Value) → Heap → Prop} {YP : World → Heap → Prop} {d : DefRec} {K : Params → PySem.W.Frag} (k : Nat) (x : Str) (hn : l.most = some 63) (hdf : d.params.defaults = []) (hr : Room k callerA)
    (hY : ∀ (w : World) (h : Heap), YP w h → (K w.params).In h)
    (F : ∀ (w : World) (mg : Str → Option Value) (fa : Addr) (h : Heap), (K w.params).In h → h.Ns mainGlobals mg → mg d.name = some (.ref fa) →
      ∃ fd : FuncData, (∀ (s : Shared) (u : Value), BindsTo s fd ⟨[u], []⟩ [(x, u)]) ∧ ∀ base : Heap, (K w.params).In base → base.Ns mainGlobals mg → FnOk l.prog w (K w.params) mg base (L2.CX l.prog w) k fa fd [x] (spD (K w.params) [] S_true)) :
    PySem.W.WalkO q loose XP YP l.row.toRowW d [] (fun f vs => PySem.call f vs) :=
  L2.walk_of (n := 63) (k := k) (x := x) (CX := fun w => L2.CX l.prog w) (sp := fun w => spD (K w.params) [] S_true) hn (by decide) hdf hr hY F
    (fun w H a ns hl _ hS => ⟨H, [.list (ns.map .int)], .ret (.bool true), L2.Same.refl _, fun T hT => (by cases hT), .cons (.lst hS (L2.DpAll.ofInts ns)) .nil, ⟨ns, hl, rfl, rfl⟩, fun B' H' u _ _ d => dpBool d⟩)
    fun w H s e s' ⟨_, _, _, _, _, _, _, _, _, _, _, _, z⟩ => z
/-- a def of the top, as the written part tells of it -/
theorem def_mk {P : Program} {w : World} {K : PySem.W.Frag} {h base : Heap} {mg : Str → Option Value} {Tb : List Addr} {n : Str} {f : Addr} {fd : FuncData} {k : Nat} {S : SpecD} {ps : List Str} (X : K.In h) (G : h.Ns mainGlobals mg) (a : PySem.W.nsIn K mainGlobals n = some (some (.ref f))) (kp : PySem.W.keepIn K (.ref f) = true)
    (ok : FnOk P w K mg base (L2.CX P w) k f fd ps (spD K Tb S)) (b : Binds K fd ps []) : DefOk P w K mg base Tb n k S := ⟨f, fd, ps, ok, PySem.W.mg_of X G a, kp, b⟩
/-- the law's call at the head's heap; cs: code objects and their tables, still empty -/
theorem law_callX {P : Program} {w : World} {K : PySem.W.Frag} {mg mb : Str → Option Value} {k : Nat} {fa a : Addr} {cs : List (Addr × Addr)} {fd : FuncData} {x : Str} {s : Shared} {vs : List Value} {ns : List Int}
    (KX : K.In s.heap) (hns : s.heap.Ns mainGlobals mg) (hb : s.heap.Ns builtinsNs mb) (hbb : ∀ x : Str, x ≠ "__name__" → mb x = bootBuiltins x) (hlim : s.heap.NoLimit) (hg : s.gens = #[])
    (empty : ∀ p ∈ cs, s.heap.get? p.2 = some { cls := .none, data := .fields #[] }) (outK : ∀ p ∈ cs, K.lookup p.2 = none) (code : ∀ p ∈ cs, PySem.W.CodeHd s.heap p.1 p.2)
    (hbm : ∃ (bm : Addr) (ob : Obj), mg "__builtins__" = some (.ref bm) ∧ bm ≠ builtinsNs ∧ s.heap.get? bm = some ob ∧ ob.cls = .type "module" ∧ ob.dict = some builtinsNs ∧ ob.data = .plain)
    (ha : s.heap.get? a = some { cls := .type "list", data := .seq vs.toArray }) (hi : IntsAre vs ns) (hl : ns.length ≤ 63) (hr : Room k callerA)
    (F : ∀ base : Heap, L2.Mod K mg base → (∀ p ∈ cs, GxR.TabB base mg p.1 p.2) → FnOk P w K mg base (L2.CX P w) k fa fd [x] (spD K (cs.map Prod.snd) S_true)) (hbind : ∀ (s : Shared) (u : Value), BindsTo s fd ⟨[u], []⟩ [(x, u)]) :
    codeAny (model P w) callerA (.call (.ref fa) ⟨[.ref a], []⟩) (fun r s' => r = .ok (.ret (.bool true)) ∧ OldK s.heap s'.heap ∧ s'.os = s.os ∧ AllBare s'.gens) s := by
  have tabs : ∀ b, b ∈ cs.map Prod.snd → s.heap.get? b = some { cls := .none, data := .fields #[] } := fun b z => by
    obtain ⟨p, hp, rfl⟩ := List.mem_map.mp z
    exact empty p hp
  have aT : a ∉ cs.map Prod.snd := fun z => by
    have q := congrArg Obj.data (Option.some.inj (ha.symm.trans (tabs a z)))
    cases q
  have big : ns.length ≤ sizeLine := by rw [sizeLine_eq]; omega
  -- what is tracked: the script, where the module doesn't hold it, and the tables
  obtain ⟨H, hH, only, hS, hok, outA⟩ : ∃ H : Hp, (∀ b ∈ cs.map Prod.snd, H b = some (TabX b)) ∧ (∀ b u, H b = some u → (b = a ∧ u = .frz { cls := .type "list", data := .seq vs.toArray } (.lst (ns.map V.int))) ∨ b ∈ cs.map Prod.snd) ∧ SqL K H a (ns.map V.int) ∧ HOk P w H s.heap ∧ (H a ≠ none → K.lookup a = none) := by
    have rv := L2.vals_ints hi
    have lv := hi.length
    cases hk : K.lookup a with
    | some o =>
      cases (KX a o hk).symm.trans ha
      refine ⟨fun b => if b ∈ cs.map Prod.snd then some (TabX b) else none, fun b z => if_pos z, fun b u z => ?_, .inr ⟨_, vs.toArray, _, hk, rfl, rfl, rfl, by rw [List.size_toArray, lv]; exact big, by simpa using rv⟩, fun b u z => ?_, fun z => absurd (if_neg aT) z⟩
      · dsimp only at z
        by_cases y : b ∈ cs.map Prod.snd
        · exact .inr y
        · rw [if_neg y] at z; cases z
      · dsimp only at z
        by_cases y : b ∈ cs.map Prod.snd
        · rw [if_pos y] at z
          cases z
          exact Wq.tab_obj ⟨#[], tabs b y, trivial⟩
        · rw [if_neg y] at z; cases z
    | none =>
      refine ⟨fun b => if b = a then some (.frz { cls := .type "list", data := .seq vs.toArray } (.lst (ns.map V.int))) else if b ∈ cs.map Prod.snd then some (TabX b) else none, fun b z => ?_, fun b u z => ?_, .inl (.inr ⟨_, if_pos rfl⟩), fun b u z => ?_, fun _ => rfl⟩
      · have nb : ¬ b = a := fun e => aT (by rw [← e]; exact z)
        show (if b = a then _ else if b ∈ cs.map Prod.snd then some (TabX b) else none) = _
        rw [if_neg nb, if_pos z]
      · dsimp only at z
        by_cases e : b = a
        · rw [if_pos e] at z; cases z; exact .inl ⟨e, rfl⟩
        · rw [if_neg e] at z
          by_cases y : b ∈ cs.map Prod.snd
          · exact .inr y
          · rw [if_neg y] at z; cases z
      · dsimp only at z
        by_cases e : b = a
        · rw [if_pos e] at z; cases z; subst e
          exact ⟨ha, by rw [List.length_map]; exact big, vs, _, rv, ha⟩
        · rw [if_neg e] at z
          by_cases y : b ∈ cs.map Prod.snd
          · rw [if_pos y] at z; cases z
            exact Wq.tab_obj ⟨#[], tabs b y, trivial⟩
          · rw [if_neg y] at z; cases z
  have free : ∀ {b : Addr} {o : Obj}, s.heap.get? b = some o → (∀ vs n, o.data ≠ .seq vs n) → o.data ≠ .fields #[] → H b = none := fun {b o} e h1 h2 => by
    cases q : H b with
    | none => rfl
    | some u =>
      rcases only b u q with ⟨rfl, _⟩ | z
      · cases ha.symm.trans e; exact (h1 _ _ rfl).elim
      · cases (tabs b z).symm.trans e; exact (h2 rfl).elim
  have nsB : ∀ {b : Addr} {m : Str → Option Value}, s.heap.Ns b m → (hidT s.heap H).Ns b m := fun {b m} ⟨o, es, ep, e, d, r⟩ => ⟨o, es, ep, hidT_get e (free e (fun _ _ z => by rw [d] at z; cases z) fun z => by rw [d] at z; cases z), d, r⟩
  have kB : K.In (hidT s.heap H) := fun b o e => hidT_get (KX b o e) (by
    cases q : H b with
    | none => rfl
    | some u =>
      rcases only b u q with ⟨rfl, _⟩ | z
      · rw [outA (by rw [q]; simp)] at e; cases e
      · obtain ⟨p, hp, rfl⟩ := List.mem_map.mp z
        rw [outK p hp] at e; cases e)
  have M : L2.Mod K mg (hidT s.heap H) := ⟨kB, nsB hns, ⟨mb, nsB hb, hbb⟩, let ⟨mc, h1, h2⟩ := hlim; ⟨mc, nsB h1, h2⟩⟩
  have TB : ∀ p ∈ cs, GxR.TabB (hidT s.heap H) mg p.1 p.2 := fun p hp => by
    have hTp := empty p hp
    refine ⟨?_, ?_, fun z => ?_⟩
    · obtain ⟨o, us, file, tf, flags, tg, inF, text, tt, e1, r1, r2, r⟩ := code p hp
      refine ⟨o, us, file, tf, flags, tg, inF, text, tt, hidT_get e1 (free e1 (fun _ _ z => ?_) fun z => ?_), r1, r2, r⟩
      · rw [r2] at z; cases z
      · rw [r2] at z; cases z
        obtain ⟨r3, _⟩ := r
        simp at r3
    · obtain ⟨bm, ob, b1, b2, b3, b4, b5, b6⟩ := hbm
      refine ⟨bm, ob, b1, b2, fun q => ?_, fun q => ?_, hidT_get b3 (free b3 (fun _ _ z => ?_) fun z => ?_), b4, b5, b6⟩
      · obtain ⟨o, es, ep, e, hd, _⟩ := hns
        rw [q, e] at b3; cases b3; rw [hd] at b6; cases b6
      · rw [q, hTp] at b3; cases b3; cases b6
      · rw [b6] at z; cases z
      · rw [b6] at z; cases z
    · obtain ⟨o, es, ep, e, hd, _⟩ := hns
      rw [z, hTp] at e; cases e; cases hd
  have e0 : Env0 P w K mg (hidT s.heap H) callerA [] s H := ⟨rfl, M, fun b o e => of_hidT e, Nat.le_of_eq (hidT_size _ _), trivial, fun b hb => (nomatch (show b ∈ ([] : List Addr) from hb)), hok, .of_eq hg⟩
  refine codeAny_mono ((F _ M TB).run callerA [] s H ⟨[.ref a], []⟩ [.ref a] [.ref a] (fun v H' => v = .bl true ∧ ∀ T ∈ cs.map Prod.snd, H' T = some (TabX T)) (fun _ _ _ => False) hr e0 (hbind s (.ref a)) (.cons rfl .nil)
    ⟨H, [.list (ns.map .int)], .ret (.bool true), L2.Same.refl _, hH, .cons (.lst hS (L2.DpAll.ofInts ns)) .nil, ⟨ns, hl, rfl, rfl⟩, fun B' H' u e _ d => ⟨dpBool d, fun T hT => e.h T _ (hH T hT)⟩⟩) fun r s' h => ?_
  cases r with
  | error e =>
    obtain ⟨_, _, _, _, _, _, _, _, _, _, _, _, z⟩ := h
    exact z.elim
  | ok fl =>
    cases fl with
    | ret u =>
      obtain ⟨v, H', os, bare, un, hok', r', e, still⟩ := h
      subst e
      obtain rfl : u = Value.bool true := r'
      have old : ∀ b o, b ∉ cs.map Prod.snd → s.heap.get? b = some o → s'.heap.get? b = some o := fun b o nb e => by
        cases q : H b with
        | none => exact un.keep b o e q (fun z => nomatch (show b ∈ ([] : List Addr) from z)) (fun z => nomatch z)
        | some u =>
          rcases only b u q with ⟨_, rfl⟩ | z
          · obtain ⟨e1, _⟩ := hok b _ q
            obtain ⟨e2, _⟩ := hok' b _ (un.frzs b _ _ q)
            rw [e] at e1; cases e1; exact e2
          · exact absurd z nb
      refine ⟨rfl, ⟨fun b o e => ?_, fun b o e => ?_⟩, os, bare⟩
      · by_cases hb : b ∈ cs.map Prod.snd
        · obtain ⟨qs, hq, _⟩ : TabIs b s'.heap := (hok' b _ (still b hb)).1
          obtain ⟨p, hp, rfl⟩ := List.mem_map.mp hb
          cases (empty p hp).symm.trans e
          exact .inr (.inl ⟨((code p hp).tab (empty p hp)).isCodeTable, rfl, #[], qs, rfl, by rw [Array.empty_append]; exact hq⟩)
        · exact .inl (old b o hb e)
      · by_cases hb : b ∈ cs.map Prod.snd
        · obtain ⟨qs, hq, _⟩ : TabIs b s'.heap := (hok' b _ (still b hb)).1
          exact ⟨_, hq⟩
        · exact ⟨o, old b o hb e⟩
    | next => exact False.elim h
    | brk => exact False.elim h
    | cont => exact False.elim h
end Ws
namespace Ws
open PySem PySem.Spec L2 Wn
open PyProof.Rows hiding St
theorem walkDT {l : PySem.W.OpenLaw} {q : Program} {loose : List Str} {XP : (Str → Option Value) → Heap → Prop} {YP : World → Heap → Prop} {d : DefRec} {K : Params → PySem.W.Frag} (k : Nat) (x : Str) (hn : l.most = some 63) (hdf : d.params.defaults = []) (hr : Room k callerA)
    (hY : ∀ (w : World) (h : Heap), YP w h → (K w.params).In h)
    (F : ∀ (w : World) (mg : Str → Option Value) (fa : Addr) (h : Heap), (K w.params).In h → h.Ns mainGlobals mg → mg d.name = some (.ref fa) →
      (∀ (nm : Str) (e : DefRec) (c T : Addr), (recsOf q).find? (fun e => e.name == nm) = some e → PySem.W.tabIn (K w.params) nm = some (c, T) → PySem.W.CodeHd h c T ∧ h.get? T = some { cls := .none, data := .fields #[] }) →
      ∃ (fd : FuncData) (cs : List (Addr × Addr)), (∀ p ∈ cs, h.get? p.2 = some { cls := .none, data := .fields #[] }) ∧ (∀ p ∈ cs, (K w.params).lookup p.2 = none) ∧ (∀ p ∈ cs, PySem.W.CodeHd h p.1 p.2) ∧ (∀ (s : Shared) (u : Value), BindsTo s fd ⟨[u], []⟩ [(x, u)]) ∧
        ∀ base : Heap, L2.Mod (K w.params) mg base → (∀ p ∈ cs, GxR.TabB base mg p.1 p.2) → FnOk l.prog w (K w.params) mg base (L2.CX l.prog w) k fa fd [x] (spD (K w.params) (cs.map Prod.snd) S_true)) :
    PySem.W.WalkO q loose XP YP l.row.toRowW d [] (fun f vs => PySem.call f vs) := by
  refine Att.attach_callB hn hdf fun w s₀ s₁ mg mb fa o pm cd doc a vs ns G Y ho hd hcd hmg hobj hints hlen hbits hg => ?_
  have KX := hY w _ Y
  obtain ⟨fd, cs, hT, nT, C, hb, hF⟩ := F w mg fa _ KX G.T.g hmg fun nm e c T h1 h2 => PySem.W.tab_of G.T KX h1 h2
  exact law_callX KX G.T.g G.T.b G.T.builtins G.T.nolimit hg hT nT C G.T.bmain hobj hints hlen hr hF hb
end Ws

/-! Q3: the layer's rule for sum(elt for a, b in pairs); a def whose code object is known. -/
namespace Wq
open PySem PySem.Spec L2 Wn Ws
open PyProof.Rows hiding St
section
variable {X : Cx} {F : Fx} {ρ : List Ent}
theorem ev_sumG {c T : Addr} {elt iter : Expr} {xa xb : Str} {pa pb pt p pos gpos : Pos} {kt : Nat} {scope : Scope} {k : Nat} (Pre : Int → Int → Prop) (f : Int → Int → Int) (ps : List (Int × Int)) (hT : T ∈ F.Tb)
    (hr : Room k X.A) (hg : Gl X "sum") (hm : X.mg "sum" = none) (TB : GxR.TabB X.base X.mg c T) (hcode : X.env.code = .ref c) (S : GenS2 X.env scope xa xb) (hi : EvD X F ρ iter (.tuple (ps.map pd))) (pre : ∀ p ∈ ps, Pre p.1 p.2)
    (hel : ∀ i j, Pre i j → EltI X scope xa xb elt i j (f i j)) (hs : ∀ v, genFold iter X.env v = pure v := by intro _; rfl)
    (he : starEach [.GeneratorExp elt [⟨.Tuple [.Name xa pa, .Name xb pb] kt pt, iter, [], 0⟩] scope gpos] X.env = (false, eval (.GeneratorExp elt [⟨.Tuple [.Name xa pa, .Name xb pb] kt pt, iter, [], 0⟩] scope gpos) X.env) :: starEach [] X.env := by rfl) :
    EvD X F ρ (.Call (.Name "sum" p) [.GeneratorExp elt [⟨.Tuple [.Name xa pa, .Name xb pb] kt pt, iter, [], 0⟩] scope gpos] [] pos) (.int ((ps.map fun p => f p.1 p.2).sum)) := fun B ow σ H Q k q => by
  refine we_of (pe_sumG Pre f hr hg hm TB hcode S pe_we hel hs he) ?_
  refine hi B ow σ H _ k fun B1 H1 u e1 s1 d1 => ?_
  cases d1 with
  | @tup a us _ h1 h2 => exact ⟨B1, a, us, ps, rfl, s1, seqT s1 h1, h2, pre, s1 _ _ (e1.b _ _ (k.ext.b _ _ (F.tb T hT))), q B1 H1 _ e1 s1 (.int _)⟩
end
section
variable {P : Program} {w : World} {K : PySem.W.Frag} {mg : Str → Option Value} {base : Heap}
/-- as fn_D, the def's code object being c -/
theorem fn_DC {Tb : List Addr} {n q : Str} {st : Stmt} {f c : Addr} {fd : FuncData} {N ps : List Str} {k : Nat} {S : SpecD} (Fu : Fun K n q st f fd) (hc : ∀ (o : Obj) (fd : FuncData), K.lookup f = some o → o.data = .func fd → fd.code = .ref c) (sc : FnScope N ps (defScope st)) (hl : ∀ xs o, S xs o → xs.length = ps.length)
    (hb : ∀ xs o, S xs o → ∀ (A : Around) (outer : List Env) (s : Shared) (H : Hp) (E : XK) (B : Hp) (tb : ∀ T ∈ Tb, B T = some (TabX T)), Room k (A.deeper (envOfC q (defScope st) s.heap.objs.size f (.ref c))) →
      PassesOwn (model P w) (A.deeper (envOfC q (defScope st) s.heap.objs.size f (.ref c))) (envOfC q (defScope st) s.heap.objs.size f (.ref c)) (cxOf (L2.CX P w) P w K mg base N q (defScope st) f (.ref c) A outer s H E).xe →
      Passes (L2.CX P w) (cxOf (L2.CX P w) P w K mg base N q (defScope st) f (.ref c) A outer s H E) E →
      (∀ C fs, o = .exc C fs → Lets (cxOf (L2.CX P w) P w K mg base N q (defScope st) f (.ref c) A outer s H E) ⟨B, H, E, Tb, tb⟩ C fs) →
      Ex (cxOf (L2.CX P w) P w K mg base N q (defScope st) f (.ref c) A outer s H E) ⟨B, H, E, Tb, tb⟩ (ents N.length xs) (defBody st) (Fin o)) : FnOk P w K mg base (L2.CX P w) (k + 1) f fd ps (spD K Tb S) := by
  obtain ⟨oc, od, kV, doc, pm, an, cdv, ct, osl, rfl, lk, hcd⟩ := Fu.ex
  have ec : cdv = .ref c := hc _ _ lk rfl
  subst ec
  refine fn_of lk hcd sc (fun vs H Q E h => ?_) fun A outer s H vs Q E hr h => ?_
  · obtain ⟨B, xs, o, _, _, d, hs, _⟩ := h
    rw [d.len]; exact hl xs o hs
  · obtain ⟨B, xs, o, bh, tb, d, hs, hq⟩ := h
    refine ⟨_, ps_ws, ?_⟩
    refine hb xs o hs A outer s H E B tb hr (passes_of rfl) (passes_call (takes_of rfl rfl rfl rfl) fun _ _ _ _ z => z) (fun C fs e => by subst e; exact hq) B [] (L2.start N vs) H _ B ⟨Ext.refl _ _, bh, ?_, List.nodup_nil, fun a ha => nomatch ha⟩ (Same.refl _)
      ⟨fun ρ1 B1 ow1 σ1 H1 p k1 _ => ?_, fun _ _ _ _ _ p => p.elim, fun _ _ _ _ _ p => p.elim, fun x B1 H1 u p e1 s1 d1 => ?_, fun ys B1 H1 a us p e1 s1 h0 b1 h1 d1 => ?_⟩
    · unfold ents L2.start
      rw [d.len]
      exact slots_args d
    · have p' : o = .ret .none := p
      subst p'
      exact hq B1 H1 .non k1.ext k1.bh .non
    · have p' : o = .ret x := p
      subst p'
      exact hq B1 H1 u e1 s1 d1
    · rcases p with p' | p'
      · subst p'
        exact hq B1 H1 a us e1 s1 h0 b1 h1 d1
      · subst p'
        obtain ⟨e2, s2⟩ := e1.new h0 b1 h1 s1
        exact hq _ H1 _ e2 s2 (.lst (SqL.of upd_same) (DpAll.to d1 (same_new b1)))
end
end Wq

/-! K0: law k05, the errors' own __init__. -/
namespace K5
open PySem PySem.Spec L2 Wn Ws
open PyProof.Rows hiding St
def top (i : Nat) : Stmt := PySem.Challenge.pw_webnumbers_k05_codes_there_and_back.main.body.getD i (.Pass ⟨0, 0, 0, 0⟩)
def initOf : Stmt → Stmt
  | .ClassDef _ _ _ (st :: _) _ _ _ _ _ _ _ => st
  | st => st
abbrev iCode : Stmt := initOf (top 4)
abbrev iLarge : Stmt := initOf (top 5)
theorem scCode : IScope "code" (defScope iCode) := ⟨rfl, rfl, rfl, by decide +kernel, by decide +kernel, rfl, rfl, by decide, rfl, rfl⟩
theorem scLarge : IScope "limit" (defScope iLarge) := ⟨rfl, rfl, rfl, by decide +kernel, by decide +kernel, rfl, rfl, by decide, rfl, rfl⟩
section
variable {w : World} {K : PySem.W.Frag} {mg : Str → Option Value} {base : Heap}
abbrev P5 : Program := PySem.Challenge.pw_webnumbers_k05_codes_there_and_back
theorem ok_code {C fI : Addr} {fd : FuncData} {k : Nat} (T : ErrT P5 K mg "InvalidCode.__init__" "code" iCode C fI fd) : FnOk P5 w K mg base (L2.CX P5 w) (k + 1) fI fd ["self", "code"] (spI C "code" fun _ => True) := by
  refine fn_init T scCode rfl rfl ⟨_, rfl, rfl⟩ (fun cda cc A outer s H H1 a y Q _ q => ?_) (fun _ _ _ => rfl) (fun env => ⟨_, rfl⟩) (by decide) (by decide) (by intros; rfl) (by intro env; rfl)
  exact we_of pe_str (q _ (by decide +kernel))
theorem ok_large {C fI : Addr} {fd : FuncData} {k : Nat} (T : ErrT P5 K mg "TooLarge.__init__" "limit" iLarge C fI fd) : FnOk P5 w K mg base (L2.CX P5 w) (k + 1) fI fd ["self", "limit"] (spI C "limit" fun v => v = .int 64) := by
  refine fn_init T scLarge rfl rfl ⟨_, rfl, rfl⟩ (fun cda cc A outer s H H1 a y Q hy q => ?_) (fun _ _ _ => rfl) (fun env => ⟨_, rfl⟩) (by decide) (by decide) (by intros; rfl) (by intro env; rfl)
  subst hy
  refine we_of (pe_joined (.cons pe_str (.cons (pe_fmt (pe_var (i := 1) rfl (.inl rfl))) (.cons pe_str .nil)))) ?_
  refine ⟨_, rfl, by decide +kernel, .int 64, rfl, .inr ⟨64, rfl, by decide +kernel, ⟨_, rfl, by decide +kernel, _, rfl, by decide +kernel, q _ (by decide +kernel)⟩⟩⟩
end
end K5

/-! K1: law k05, the program's defs. -/
namespace K5
open PySem PySem.Spec L2 Wn Ws Wq
open PyProof.Rows hiding St
section
variable {w : World} {K : PySem.W.Frag} {mg : Str → Option Value} {base : Heap} {Tb : List Addr} {f : Addr} {fd : FuncData} {k : Nat} {CL CC : Addr}
/-! ### check_size -/
theorem scCheck : FnScope ["size"] ["size"] (defScope (top 8)) := ⟨rfl, rfl, rfl, by decide +kernel, rfl, by decide +kernel, by decide +kernel⟩
def S_check (CL : Addr) : SpecD := fun xs o => ∃ n : Int, xs = [.int n] ∧ ((n ≤ 64 ∧ o = .ret .none) ∨ (64 < n ∧ o = .exc CL [("limit", .int 64)]))
theorem ok_check {t : Tok} (Fu : Fun K "check_size" "check_size" (top 8) f fd) (E1 : ErrOk P5 w K mg base "TooLarge" k CL "limit" fun v => v = .int 64) (mM : mg "MAX_NODES" = some (.int 64 t)) : FnOk P5 w K mg base (L2.CX P5 w) (k + 3) f fd ["size"] (spD K Tb (S_check CL)) := by
  refine fn_D Fu scCheck (by rintro _ _ ⟨n, rfl, _⟩; rfl) ?_
  rintro _ o ⟨n, rfl, h⟩ cdv A outer s H E B tb hr hp hx hl
  refine ex_if (et_cmp cmp_gt (ev_v 0) (ev_glob (v := .int 64) rfl mM ⟨_, rfl⟩ fun _ => .int 64)) (fun hc => ?_) fun hc => ?_
  · have hc' := of_decide_eq_true hc
    rcases h with ⟨z, _⟩ | ⟨_, rfl⟩
    · omega
    · exact ex_raise E1 (hr.mono (by omega)) (takes_of rfl rfl rfl rfl) rfl (ev_glob (v := .int 64) rfl mM ⟨_, rfl⟩ fun _ => .int 64) (fun B u d => dpInt d) (hl _ _ rfl)
  · have hc' := of_decide_eq_false hc
    rcases h with ⟨_, rfl⟩ | ⟨z, _⟩
    · exact ex_nil (ex_nil rfl)
    · omega
/-! ### count_bits -/
theorem scCount : FnScope ["size"] ["size"] (defScope (top 14)) := ⟨rfl, rfl, rfl, by decide +kernel, rfl, by decide +kernel, by decide +kernel⟩
def S_count : SpecD := fun xs o => ∃ n : Int, 0 ≤ n ∧ n ≤ 64 ∧ xs = [.int n] ∧ o = .ret (.int (n * (n + 1) / 2))
theorem ok_count (Fu : Fun K "count_bits" "count_bits" (top 14) f fd) : FnOk P5 w K mg base (L2.CX P5 w) (k + 1) f fd ["size"] (spD K Tb S_count) := by
  refine fn_D Fu scCount (by rintro _ _ ⟨n, _, _, rfl, _⟩; rfl) ?_
  rintro _ o ⟨n, h1, h2, rfl, rfl⟩ cdv A outer s H E B tb hr hp hx hl
  exact ex_ret (ev_div (ev_mul (ev_v 0) (ev_add (ev_v 0) ev_int) (.inl (by omega))) ev_int ⟨by decide, by decide⟩) rfl
/-! ### bit_of -/
theorem scBit : FnScope ["first", "second", "high"] ["first", "second"] (defScope (top 11)) := ⟨rfl, rfl, rfl, by decide +kernel, rfl, by decide +kernel, by decide +kernel⟩
def bitOf (a b : Int) : Int := max a b * (max a b + 1) / 2 + min a b
def S_bit : SpecD := fun xs o => ∃ a b : Int, 0 ≤ a ∧ 0 ≤ b ∧ a < 10000 ∧ b < 10000 ∧ xs = [.int a, .int b] ∧ o = .ret (.int (bitOf a b))
theorem ok_bit (Fu : Fun K "bit_of" "bit_of" (top 11) f fd) (g1 : mg "max" = none) (g2 : mg "min" = none) : FnOk P5 w K mg base (L2.CX P5 w) (k + 1) f fd ["first", "second"] (spD K Tb S_bit) := by
  refine fn_D Fu scBit (by rintro _ _ ⟨a, b, _, _, _, _, rfl, _⟩; rfl) ?_
  rintro _ _ ⟨a, b, ha, hb, ha', hb', rfl, rfl⟩ cdv A outer s H E B tb hr hp hx hl
  refine ex_set 2 (ev_max2 rfl g1 rfl (ev_v 0) (ev_v 1)) ?_ scBit.nd
  refine ex_ret (ev_add (ev_div (ev_mul (ev_v 2) (ev_add (ev_v 2) ev_int) ?_) ev_int ?_) (ev_min2 rfl g2 rfl (ev_v 0) (ev_v 1))) ?_
  · left; omega
  · exact ⟨by decide, by decide⟩
  · rfl
/-- the same, quiet -/
theorem qf_bit {n q : Str} (M : L2.Mod K mg base) (Fu : Fun K "bit_of" "bit_of" (top 11) f fd) (hb : Binds K fd ["first", "second"] []) (g1 : mg "max" = none) (g2 : mg "min" = none) : QF P5 w K mg base f (fun a b => 0 ≤ a ∧ 0 ≤ b ∧ a < 10000 ∧ b < 10000) bitOf := by
  refine qf_mk M Fu hb (by decide +kernel) rfl rfl rfl rfl rfl fun A L cd i j t u hh hp => ?_
  obtain ⟨h1, h2, h3, h4⟩ := hp
  have O : Of (qEnv "bit_of" (defScope (top 11)) L f cd) := ⟨rfl, rfl, rfl⟩
  refine qs_set O rfl (qi_max M O hh rfl g1 (qi_loc (t := t) O rfl rfl) (qi_loc (t := u) O rfl rfl)) fun t2 => ?_
  refine qs_ret (i := bitOf i j) ?_
  exact qi_add (qi_div (qi_mul (qi_loc (t := t2) O rfl rfl) (qi_add (qi_loc (t := t2) O rfl rfl) qi_int) (.inl (by omega))) qi_int ⟨by decide, by decide⟩) (qi_min M O hh rfl g2 (qi_loc (t := t) O rfl rfl) (qi_loc (t := u) O rfl rfl))
end
end K5

/-! K2: law k05: web_of_pairs, code_of. -/
namespace K5
open PySem PySem.Spec L2 Wn Ws Wq
open PyProof.Rows hiding St
section
variable {w : World} {K : PySem.W.Frag} {mg : Str → Option Value} {base : Heap} {Tb : List Addr} {f : Addr} {fd : FuncData} {k : Nat} {CL CC : Addr}
theorem scWeb : FnScope ["size", "pairs", "u", "v"] ["size", "pairs"] (defScope (top 9)) := ⟨rfl, rfl, rfl, by decide +kernel, rfl, by decide +kernel, by decide +kernel⟩
def norm : PyData → Int × Int
  | .tuple [.int a, .int b] => (min a b, max a b)
  | _ => (0, 0)
def webD (n : Int) (M : List (Int × Int)) : PyData := .tuple [.int n, .tuple (M.map pd)]
def S_web : SpecD := fun xs o => ∃ (n : Int) (ps M : List (Int × Int)), M.Pairwise Plt ∧ (∀ m, m ∈ M ↔ ∃ p ∈ ps, m = (min p.1 p.2, max p.1 p.2)) ∧ M.length + 1 < 4096 ∧ xs = [.int n, .list (ps.map pd)] ∧ o = .ret (webD n M)
theorem ok_web (Fu : Fun K "web_of_pairs" "web_of_pairs" (top 9) f fd) (g1 : mg "max" = none) (g2 : mg "min" = none) (g3 : mg "sorted" = none) (g4 : mg "tuple" = none) : FnOk P5 w K mg base (L2.CX P5 w) (k + 1) f fd ["size", "pairs"] (spD K Tb S_web) := by
  refine fn_D Fu scWeb (by rintro _ _ ⟨n, ps, M, _, _, _, rfl, _⟩; rfl) ?_
  rintro _ _ ⟨n, ps, M, asc, same, few, rfl, rfl⟩ cdv A outer s H E B tb hr hp hx hl
  refine ex_ret (ev_tup (ea_cons (ev_v 0) (ea_cons (ev_tupL (EvN.l (ev_sortSet (own := [("u", 2), ("v", 3)]) M norm (wk_list (ev_v 1)) (fun x hx => ?_) asc (fun m => ?_) few (show BlkOk ["size", "pairs", "u", "v"] (defScope (top 9)) _ [("u", 2), ("v", 3)] from ⟨rfl, by decide +kernel, by decide +kernel, by decide +kernel, by decide +kernel⟩) rfl hr.units scWeb.nd rfl g3)) rfl g4) ea_nil)) (by show 2 ≤ sizeLine; decide)) rfl
  · obtain ⟨⟨a, b⟩, _, rfl⟩ := List.mem_map.mp hx
    refine ⟨[.d (.int n), .d (.list (ps.map pd)), .d (.int a), .d (.int b)], fun X' hX' => ?_, fun X' hX' => ?_⟩
    · obtain ⟨s', H', C, cl, fp, rfl⟩ := hX'.ex
      exact tg_pair 2 3 rfl scWeb.nd
    · obtain ⟨s', H', C, cl, fp, rfl⟩ := hX'.ex
      exact ev_tup (ea_cons (ev_min2 rfl g2 rfl (ev_v 2) (ev_v 3)) (ea_cons (ev_max2 rfl g1 rfl (ev_v 2) (ev_v 3)) ea_nil)) (by show 2 ≤ sizeLine; decide)
  · rw [same m, List.mem_map]
    constructor
    · rintro ⟨p, hp, rfl⟩
      exact ⟨pd p, List.mem_map_of_mem hp, rfl⟩
    · rintro ⟨x, hx, rfl⟩
      obtain ⟨p, hp, rfl⟩ := List.mem_map.mp hx
      exact ⟨p, hp, rfl⟩
end
end K5

/-! K3: law k05: code_of. -/
namespace K5
open PySem PySem.Spec L2 Wn Ws Wq
open PyProof.Rows hiding St
section
variable {w : World} {K : PySem.W.Frag} {mg : Str → Option Value} {base : Heap} {Tb : List Addr} {f c T : Addr} {fd : FuncData} {k : Nat}
theorem scCodeOf : FnScope ["web"] ["web"] (defScope (top 12)) := ⟨rfl, rfl, rfl, by decide +kernel, rfl, by decide +kernel, by decide +kernel⟩
def Small (i j : Int) : Prop := 0 ≤ i ∧ 0 ≤ j ∧ i < 64 ∧ j < 64
def bitP (i j : Int) : Int := 1 * 2 ^ (bitOf i j).toNat
theorem bit_bound {i j : Int} (h : Small i j) : 0 ≤ bitOf i j ∧ bitOf i j < 4200 := by
  obtain ⟨h1, h2, h3, h4⟩ := h
  unfold bitOf
  have a : 0 ≤ max i j := by omega
  have b : max i j ≤ 63 := by omega
  generalize max i j = m at a b
  have e : m * (m + 1) ≤ 63 * 64 := Int.mul_le_mul b (by omega) (by omega) (by omega)
  have e0 : 0 ≤ m * (m + 1) := Int.mul_nonneg a (by omega)
  omega
def S_codeOf : SpecD := fun xs o => ∃ (n : Int) (ps : List (Int × Int)), (∀ p ∈ ps, Small p.1 p.2) ∧ xs = [webD n ps] ∧ o = .ret (.int (ps.map fun p => bitP p.1 p.2).sum)
theorem ok_codeOf {fb : Addr} {fdb : FuncData} (M : L2.Mod K mg base) (Fu : Fun K "code_of" "code_of" (top 12) f fd) (hc : ∀ (o : Obj) (fd : FuncData), K.lookup f = some o → o.data = .func fd → fd.code = .ref c) (TB : GxR.TabB base mg c T) (hT : T ∈ Tb)
    (FB : Fun K "bit_of" "bit_of" (top 11) fb fdb) (bB : Binds K fdb ["first", "second"] []) (mB : mg "bit_of" = some (.ref fb)) (kB : PySem.W.keepIn K (.ref fb) = true) (g1 : mg "max" = none) (g2 : mg "min" = none) (g3 : mg "sum" = none) : FnOk P5 w K mg base (L2.CX P5 w) (k + 3) f fd ["web"] (spD K Tb S_codeOf) := by
  refine fn_DC Fu hc scCodeOf (by rintro _ _ ⟨n, ps, _, rfl, _⟩; rfl) ?_
  rintro _ _ ⟨n, ps, sm, rfl, rfl⟩ A outer s H E B tb hr hp hx hl
  refine ex_ret (ev_sumG Small bitP ps hT hr rfl g3 TB rfl ⟨rfl, rfl, by decide +kernel, rfl, rfl, rfl, by decide, by intro y hy e; simp at hy; rcases hy with rfl | rfl | rfl | rfl <;> cases e⟩ (ev_ixT (ev_v 0) (ev_int (i := 1)) rfl) sm fun i j hs => ?_) rfl
  intro A' cenv m t u hA hD hU e1 e2 e3 ma mb
  have O : Of cenv := ⟨by rw [e1], e2, e3⟩
  have hD' : A'.depth ≤ (A.deeper (envOfC "code_of" (defScope (top 12)) s.heap.objs.size f (.ref c))).depth + 1 := hD
  obtain ⟨b1, b2⟩ := bit_bound hs
  obtain ⟨s1, s2, s3, s4⟩ := hs
  refine qi_shl qi_int (qi_call M O (qf_bit (n := "") (q := "") M FB bB g1 g2) hA (by have := hr.dp; omega) ?_ mB kB (qi_loc O ?_ ma) (qi_loc O ?_ mb) ⟨s1, s2, by omega, by omega⟩) ⟨b1, by omega, by decide⟩
  · show (Scope.names cenv.scope).lookup _ = _
    rw [e1]; rfl
  · show (Scope.names cenv.scope).lookup _ = _
    rw [e1]; rfl
  · show (Scope.names cenv.scope).lookup _ = _
    rw [e1]; rfl
end
end K5

/-! K4: law k05: web_of_code. -/
namespace K5
open PySem PySem.Spec L2 Wn Ws Wq
open PyProof.Rows hiding St
section
variable {w : World} {K : PySem.W.Frag} {mg : Str → Option Value} {base : Heap} {Tb : List Addr} {f : Addr} {fd : FuncData} {k : Nat} {CL CC : Addr}
theorem tg_more {X : Cx} {F : Fx} {ρ ρ' : List Ent} {tg : Expr} {x : PyData} {is js : List Nat} (h : Tg X F tg is x ρ ρ') (sub : ∀ i ∈ is, i ∈ js) : Tg X F tg js x ρ ρ' := fun B ow σ H v Q k d q =>
  h B ow σ H v Q k d fun ow' σ' k' e s => q ow' σ' k' (by
    apply List.ext_getElem?
    intro i
    have z := congrArg (fun l => l[i]?) e
    simp only [wipe_get] at z ⊢
    by_cases a : i ∈ js
    · rw [if_pos a, if_pos a]
      by_cases b : i ∈ is
      · rwa [if_pos b, if_pos b] at z
      · rw [if_neg b, if_neg b] at z
        rw [z]
    · have b : i ∉ is := fun y => a (sub i y)
      rw [if_neg a, if_neg a]
      rwa [if_neg b, if_neg b] at z) s
theorem wk_rng0 {X : Cx} {F : Fx} {ρ : List Ent} {tg e : Expr} {hi : Int} (h : EvG X F ρ e fun _ _ B' _ u => Rng 0 hi B' u) (h1 : 0 ≤ hi) (h2 : hi < 2 ^ 62) : Wk X F ρ tg e (upFrom 0 hi.toNat) := by
  have z := wk_rngV (tg := tg) h ⟨by omega, by omega, by omega, h2⟩
  rwa [Int.sub_zero] at z
theorem scWoc : FnScope ["size", "code", "nodes", "v", "u"] ["size", "code"] (defScope (top 13)) := ⟨rfl, rfl, rfl, by decide +kernel, rfl, by decide +kernel, by decide +kernel⟩
/-- the pair's bit is in the code -/
def hasB (c u v : Int) : Bool := decide (c / 2 ^ (bitOf u v).toNat % 2 = 1)
def inner (c v : Int) : PyData → Option PyData
  | .int u => if hasB c u v = true then some (pd (u, v)) else none
  | _ => none
def outer (c : Int) : PyData → List PyData
  | .int v => (upFrom 0 (v + 1).toNat).filterMap (inner c v)
  | _ => []
def psOf (n c : Int) : List (Int × Int) := (List.range n.toNat).flatMap fun v => ((List.range (v + 1)).filter fun u => hasB c (u : Nat) (v : Nat)).map fun u => (((u : Nat) : Int), ((v : Nat) : Int))
theorem up_psOf (n c : Int) : (upFrom 0 n.toNat).flatMap (outer c) = (psOf n c).map pd := by
  unfold upFrom psOf
  rw [List.flatMap_map, List.map_flatMap]
  congr 1
  funext v
  show (upFrom 0 (0 + (v : Int) + 1).toNat).filterMap (inner c (0 + (v : Int))) = _
  have e : (0 + (v : Int) + 1).toNat = v + 1 := by omega
  rw [e, Int.zero_add]
  unfold upFrom
  rw [List.map_map]
  induction (List.range (v + 1)) with
  | nil => rfl
  | cons u us ih =>
    rw [List.map_cons, List.filter_cons]
    show List.filterMap (inner c v) (PyData.int (0 + (u : Int)) :: _) = _
    rw [Int.zero_add]
    cases hb : hasB c u v with
    | true =>
      rw [List.filterMap_cons_some (show inner c v (.int u) = some (pd (u, v)) by show (if hasB c u v = true then some (pd ((u : Int), (v : Int))) else none) = _; rw [if_pos hb])]
      rw [ih]; rfl
    | false =>
      rw [List.filterMap_cons_none (show inner c v (.int u) = none by show (if hasB c u v = true then some (pd ((u : Int), (v : Int))) else none) = _; rw [if_neg (by rw [hb]; decide)])]
      exact ih
theorem mem_psOf {n c : Int} {p : Int × Int} : p ∈ psOf n c ↔ 0 ≤ p.1 ∧ p.1 ≤ p.2 ∧ p.2 < n ∧ hasB c p.1 p.2 = true := by
  unfold psOf
  simp only [List.mem_flatMap, List.mem_range, List.mem_map, List.mem_filter]
  constructor
  · rintro ⟨v, hv, u, ⟨hu, hb⟩, rfl⟩
    exact ⟨by simp, by simp; omega, by simp; omega, hb⟩
  · rintro ⟨h1, h2, h3, h4⟩
    refine ⟨p.2.toNat, by omega, p.1.toNat, ⟨by omega, ?_⟩, ?_⟩
    · rw [Int.toNat_of_nonneg h1, Int.toNat_of_nonneg (by omega)]; exact h4
    · rw [Int.toNat_of_nonneg h1, Int.toNat_of_nonneg (by omega)]
theorem outer_len (n c : Int) (h : n ≤ 64) : ((upFrom 0 n.toNat).flatMap (outer c)).length ≤ sizeLine := by
  rw [up_psOf, List.length_map]
  unfold psOf
  rw [List.length_flatMap]
  have z : ∀ (l : List Nat) (g : Nat → Nat), (∀ x ∈ l, g x ≤ 64) → (l.map g).sum ≤ 64 * l.length := by
    intro l g
    induction l with
    | nil => intro _; simp
    | cons x l ih =>
      intro hg
      have a := hg x (List.mem_cons_self ..)
      have b := ih fun y hy => hg y (List.mem_cons_of_mem _ hy)
      rw [List.map_cons, List.sum_cons, List.length_cons]
      omega
  have y := z (List.range n.toNat) (fun v => (((List.range (v + 1)).filter fun u => hasB c (u : Nat) (v : Nat)).map fun u => (((u : Nat) : Int), ((v : Nat) : Int))).length) fun v hv => by
    rw [List.length_map]
    have a := List.length_filter_le (fun u => hasB c ((u : Nat) : Int) ((v : Nat) : Int)) (List.range (v + 1))
    rw [List.length_range] at a
    have b := List.mem_range.mp hv
    omega
  rw [List.length_range] at y
  rw [sizeLine_eq]
  omega
def S_woc (CL CC : Addr) : SpecD := fun xs o => ∃ n c : Int, xs = [.int n, .int c] ∧ ((64 < n ∧ o = .exc CL [("limit", .int 64)]) ∨ (0 ≤ n ∧ n ≤ 64 ∧ (c < 0 ∨ 2 ^ (n * (n + 1) / 2).toNat ≤ c) ∧ o = .exc CC [("code", .int c)]) ∨
  (0 ≤ n ∧ n ≤ 64 ∧ 0 ≤ c ∧ c < 2 ^ (n * (n + 1) / 2).toNat ∧ ∃ M : List (Int × Int), M.Pairwise Plt ∧ (∀ m : Int × Int, m ∈ M ↔ 0 ≤ m.1 ∧ m.1 ≤ m.2 ∧ m.2 < n ∧ hasB c m.1 m.2 = true) ∧ M.length + 1 < 4096 ∧ o = .ret (webD n M)))
theorem ok_woc (Fu : Fun K "web_of_code" "web_of_code" (top 13) f fd) (D1 : DefOk P5 w K mg base Tb "check_size" (k + 8) (S_check CL)) (D2 : DefOk P5 w K mg base Tb "count_bits" (k + 8) S_count) (D3 : DefOk P5 w K mg base Tb "bit_of" (k + 8) S_bit) (D4 : DefOk P5 w K mg base Tb "web_of_pairs" (k + 8) S_web)
    (E1 : ErrOk P5 w K mg base "InvalidCode" k CC "code" fun _ => True) (g1 : mg "range" = none) : FnOk P5 w K mg base (L2.CX P5 w) (k + 9) f fd ["size", "code"] (spD K Tb (S_woc CL CC)) := by
  refine fn_D Fu scWoc (by rintro _ _ ⟨n, c, rfl, _⟩; rfl) ?_
  rintro _ o ⟨n, c, rfl, h⟩ cdv A outer s H E B tb hr hp hx hl
  rcases Classical.em (64 < n) with big | fits
  · rcases h with ⟨_, rfl⟩ | h
    · exact ex_exprX (ev_callX D1 hr hx (ea_cons (ev_v 0) ea_nil) ⟨n, rfl, .inr ⟨big, rfl⟩⟩ (hl _ _ rfl))
    · exfalso; rcases h with ⟨_, z, _⟩ | ⟨_, z, _⟩ <;> omega
  · refine ex_expr (ev_call D1 hr (ea_cons (ev_v 0) ea_nil) ⟨n, rfl, .inl ⟨by omega, rfl⟩⟩) ?_
    have n0 : 0 ≤ n := by rcases h with ⟨z, _⟩ | ⟨z, _⟩ | ⟨z, _⟩ <;> omega
    have nb0 : 0 ≤ n * (n + 1) / 2 := by
      have := Int.mul_nonneg n0 (show 0 ≤ n + 1 by omega)
      omega
    refine ex_if (et_w (ew_or (et_cmp cmp_lt (ev_v 1) ev_int) fun hc => ew_or1 (et_truth (ev_shr (ev_v 1) (ev_call D2 hr (ea_cons (ev_v 0) ea_nil) ⟨n, n0, by omega, rfl, rfl⟩) nb0)))) (fun hc => ?_) fun hc => ?_
    · rcases h with ⟨z, _⟩ | ⟨_, _, _, rfl⟩ | ⟨_, _, h1, h2, _⟩
      · omega
      · exact ex_raise E1 (hr.mono (by omega)) (takes_of rfl rfl rfl rfl) rfl (ev_v 1) (fun _ _ _ => trivial) (hl _ _ rfl)
      · exfalso
        have z : c / 2 ^ (n * (n + 1) / 2).toNat = 0 := Int.ediv_eq_zero_of_lt h1 h2
        rw [z] at hc
        have c0 : ¬ c < 0 := by omega
        simp [truth, c0] at hc
    · rcases h with ⟨z, _⟩ | ⟨_, _, z, _⟩ | ⟨_, _, h1, h2, M, asc, same, few, rfl⟩
      · omega
      · exfalso
        rw [Bool.or_eq_false_iff] at hc
        obtain ⟨c1, c2⟩ := hc
        have c1' := of_decide_eq_false c1
        rcases z with z | z
        · exact c1' z
        · have p : (0 : Int) < 2 ^ (n * (n + 1) / 2).toNat := Int.pow_pos (by decide)
          have y := Int.le_ediv_of_mul_le p (show 1 * 2 ^ (n * (n + 1) / 2).toNat ≤ c by rw [Int.one_mul]; exact z)
          simp [truth] at c2
          omega
      · refine ex_nil ?_
        show Ex _ _ _ _ _
        refine ex_setG 2 rng_to (ev_rng1 (ev_v 0) rfl g1) ?_ scWoc.nd
        refine ex_ret (ev_call D4 hr (ea_cons (ev_v 0) (ea_cons (EvN.d (ev_lc2 (own := [("v", 3), ("u", 4)]) (vs1 := [4]) (K5.outer c) (wk_rng0 (ev_vRaw 2 rfl rfl (.inl rfl)) n0 (by omega)) (fun x hx => ?_) (outer_len n c (by omega))
          (show BlkOk ["size", "code", "nodes", "v", "u"] (defScope (top 13)) _ [("v", 3), ("u", 4)] from ⟨rfl, by decide +kernel, by decide +kernel, by decide +kernel, by decide +kernel⟩) (by decide) rfl scWoc.nd)) ea_nil)) ⟨n, psOf n c, M, asc, fun m => ?_, few, by rw [up_psOf], rfl⟩) rfl
        · unfold upFrom at hx
          obtain ⟨v, hv, rfl⟩ := List.mem_map.mp hx
          rw [Int.zero_add]
          have hv' := List.mem_range.mp hv
          refine ⟨[.d (.int n), .d (.int c), .raw (Rng 0 n), .d (.int v), .un], true, fun X' hX' => ?_, fun X' hX' => ef_nil, (fun z => nomatch z), fun _ => ⟨upFrom 0 ((v : Int) + 1).toNat, inner c v, rfl, fun X' hX' => ?_, fun y hy => ?_⟩⟩
          · obtain ⟨s', H', C, cl, fp, rfl⟩ := hX'.ex
            exact tg_more (tg_name 3 scWoc.nd) (by decide)
          · obtain ⟨s', H', C, cl, fp, rfl⟩ := hX'.ex
            exact wk_range1 rfl g1 (ev_add (ev_v 3) ev_int) (by omega) (by omega)
          · unfold upFrom at hy
            obtain ⟨u, hu, rfl⟩ := List.mem_map.mp hy
            rw [Int.zero_add]
            have hu' := List.mem_range.mp hu
            refine ⟨[.d (.int n), .d (.int c), .raw (Rng 0 n), .d (.int v), .d (.int u)], hasB c u v, fun X' hX' => ?_, fun X' hX' => ?_, fun z => ?_, fun z => ⟨pd (u, v), ?_, fun X' hX' => ?_⟩⟩
            · obtain ⟨s', H', C, cl, fp, rfl⟩ := hX'.ex
              exact tg_name 4 scWoc.nd
            · obtain ⟨s', H', C, cl, fp, rfl⟩ := hX'.ex
              have sm := bit_bound (i := u) (j := v) ⟨by omega, by omega, by omega, by omega⟩
              have tr : hasB c u v = truth (.int (Builtin.bitAnd (c / 2 ^ (bitOf u v).toNat) 1)) := by
                rw [bitAnd_m1]
                unfold hasB truth
                have a := Int.emod_two_eq (c / 2 ^ (bitOf u v).toNat)
                rcases a with a | a <;> rw [a] <;> rfl
              rw [tr]
              exact ef_one (et_truth (ev_and (ev_shr (ev_v 1) (ev_call D3 hr (ea_cons (ev_v 4) (ea_cons (ev_v 3) ea_nil)) ⟨u, v, by omega, by omega, by omega, by omega, rfl, rfl⟩) sm.1) ev_int))
            · show (if hasB c u v = true then some (pd ((u : Int), (v : Int))) else none) = _
              rw [if_neg (by rw [z]; decide)]
            · show (if hasB c u v = true then some (pd ((u : Int), (v : Int))) else none) = _
              rw [if_pos z]
            · obtain ⟨s', H', C, cl, fp, rfl⟩ := hX'.ex
              exact ev_tup (ea_cons (ev_v 4) (ea_cons (ev_v 3) ea_nil)) (by show 2 ≤ sizeLine; decide)
        · rw [same m]
          constructor
          · rintro ⟨m1, m2, m3, m4⟩
            exact ⟨m, mem_psOf.mpr ⟨m1, m2, m3, m4⟩, Prod.ext (by show m.1 = min m.1 m.2; omega) (by show m.2 = max m.1 m.2; omega)⟩
          · rintro ⟨p, hp, rfl⟩
            obtain ⟨p1, p2, p3, p4⟩ := mem_psOf.mp hp
            have e1 : min p.1 p.2 = p.1 := by omega
            have e2 : max p.1 p.2 = p.2 := by omega
            rw [e1, e2]
            exact ⟨p1, p2, p3, p4⟩
end
end K5

/-! K5: law k05: the law's own defs, cells and draws. -/
namespace K5
open PySem PySem.Spec L2 Wn Ws Wq
open PyProof.Rows hiding St
section
variable {w : World} {K : PySem.W.Frag} {mg : Str → Option Value} {base : Heap} {Tb : List Addr} {f : Addr} {fd : FuncData} {k : Nat} {CL CC : Addr}
/-! ### _law_cell -/
theorem scCell : FnScope ["_law_script", "_law_place"] ["_law_script", "_law_place"] (defScope (top 16)) := ⟨rfl, rfl, rfl, by decide +kernel, rfl, by decide +kernel, by decide +kernel⟩
def cellZ (ns : List Int) (p : Nat) : Int := if (ns.getD p 0) < 0 then -(ns.getD p 0) else ns.getD p 0
theorem cell_nn (ns : List Int) (p : Nat) : 0 ≤ cellZ ns p := by unfold cellZ; split <;> omega
def S_cell : SpecD := fun xs o => ∃ (ns : List Int) (p : Nat), ns.length ≤ 63 ∧ xs = [.list (ns.map .int), .int p] ∧ o = .ret (.int (cellZ ns p))
theorem ok_cell (Fu : Fun K "_law_cell" "_law_cell" (top 16) f fd) (g1 : mg "len" = none) (g2 : mg "abs" = none) (g3 : mg "int" = none) : FnOk P5 w K mg base (L2.CX P5 w) (k + 1) f fd ["_law_script", "_law_place"] (spD K Tb S_cell) := by
  refine fn_D Fu scCell (by rintro _ _ ⟨ns, p, _, rfl, _⟩; rfl) ?_
  rintro _ _ ⟨ns, p, hl0, rfl, rfl⟩ cdv A outer s H E B tb hr hp hx hl
  refine ex_if (et_cmp cmp_lt (ev_v 1) (ev_len (x := .list (ns.map .int)) rfl g1 (ev_v 0) trivial)) (fun hc => ?_) fun hc => ?_
  · have hc' := of_decide_eq_true hc
    have lt : p < ns.length := by simpa [lenD] using hc'
    have e : ns[p]? = some ns[p] := List.getElem?_eq_getElem lt
    have ge : ns.getD p 0 = ns[p] := by rw [List.getD_eq_getElem?_getD, e]; rfl
    refine ex_ret (ev_abs rfl g2 (ev_intI rfl g3 (ev_ixL (EvD.l (ev_v 0)) (ev_v 1) (z := .int ns[p]) ?_))) ?_
    · exact atI_nat (by rw [List.getElem?_map, e]; rfl)
    · show Outc.ret _ = _
      unfold cellZ
      rw [ge]
  · have hc' := of_decide_eq_false hc
    have ge : ¬ p < ns.length := by simpa [lenD] using hc'
    refine ex_nil (ex_ret ev_int ?_)
    show Outc.ret _ = _
    unfold cellZ
    rw [List.getD_eq_getElem?_getD, List.getElem?_eq_none (by omega)]
    rfl
/-! ### _law_is_integer -/
theorem scIs : FnScope ["_law_value"] ["_law_value"] (defScope (top 18)) := ⟨rfl, rfl, rfl, by decide +kernel, rfl, by decide +kernel, by decide +kernel⟩
def S_is : SpecD := fun xs o => ∃ i : Int, xs = [.int i] ∧ o = .ret (.bool true)
theorem ok_is (Fu : Fun K "_law_is_integer" "_law_is_integer" (top 18) f fd) (g1 : mg "isinstance" = none) (g2 : mg "int" = none) (g3 : mg "bool" = none) : FnOk P5 w K mg base (L2.CX P5 w) (k + 1) f fd ["_law_value"] (spD K Tb S_is) := by
  refine fn_D Fu scIs (by rintro _ _ ⟨i, rfl, _⟩; rfl) ?_
  rintro _ _ ⟨i, rfl, rfl⟩ cdv A outer s H E B tb hr hp hx hl
  exact ex_ret (ev_andV (ev_isD (x := .int i) (t := "int") (r := true) g1 g2 (by decide +kernel) (ev_v 0) (show kitB "int" "int" = some true by decide +kernel)) fun _ => ev_one (ev_notV (ev_isD (x := .int i) (t := "bool") (r := false) g1 g3 (by decide +kernel) (ev_v 0) (show kitB "int" "bool" = some false by decide +kernel)))) rfl
/-! ### _law_draws -/
theorem scDraws : FnScope ["_law_script", "_law_place", "_law_count", "_law_base", "_law_cell_here", "_law_row", "_law_k", "_law_mixed"] ["_law_script", "_law_place", "_law_count", "_law_base"] (defScope (top 17)) := ⟨rfl, rfl, rfl, by decide +kernel, rfl, by decide +kernel, by decide +kernel⟩
def digC (c b : Int) : Nat → Int
  | 0 => c
  | n + 1 => digC c b n / b
def mixC (c b : Int) (k : Nat) : Int :=
  let m := (c * 48271 + ((k : Int) + 1) * 69621 + 17) % 2147483647
  ((m * m + c * ((k : Int) + 3) + 12345) % 1000003 / 7) % b
def drawsZ (c : Int) (n : Nat) (b : Int) : List Int := if 10 ^ 18 ≤ c then (List.range n).map fun k => digC (c - 10 ^ 18) b k % b else (List.range n).map (mixC c b)
theorem draws_len (c : Int) (n : Nat) (b : Int) : (drawsZ c n b).length = n := by unfold drawsZ; split <;> simp
theorem draws_bd {c b : Int} {n : Nat} (hb : 0 < b) : ∀ x ∈ drawsZ c n b, 0 ≤ x ∧ x < b := by
  intro x hx
  unfold drawsZ at hx
  split at hx
  · obtain ⟨k, _, rfl⟩ := List.mem_map.mp hx
    exact ⟨Int.emod_nonneg _ (by omega), Int.emod_lt_of_pos _ hb⟩
  · obtain ⟨k, _, rfl⟩ := List.mem_map.mp hx
    exact ⟨Int.emod_nonneg _ (by omega), Int.emod_lt_of_pos _ hb⟩
def S_draws : SpecD := fun xs o => ∃ (ns : List Int) (p n : Nat) (b : Int), ns.length ≤ 63 ∧ n ≤ 4000 ∧ 0 < b ∧ b < 100000 ∧ xs = [.list (ns.map .int), .int p, .int n, .int b] ∧ o = .new ((drawsZ (cellZ ns p) n b).map .int)
theorem ok_draws (Fu : Fun K "_law_draws" "_law_draws" (top 17) f fd) (D1 : DefOk P5 w K mg base Tb "_law_cell" (k + 8) S_cell) (g1 : mg "range" = none) (g2 : mg "int" = none) : FnOk P5 w K mg base (L2.CX P5 w) (k + 9) f fd ["_law_script", "_law_place", "_law_count", "_law_base"] (spD K Tb S_draws) := by
  refine fn_D Fu scDraws (by rintro _ _ ⟨ns, p, n, b, _, _, _, _, rfl, _⟩; rfl) ?_
  rintro _ _ ⟨ns, p, n, b, hl0, hn, hb, hb2, rfl, rfl⟩ cdv A outer s H E B tb hr hp hx hl
  have nn := cell_nn ns p
  refine ex_set 4 (ev_call D1 hr (ea_cons (ev_v 0) (ea_cons (ev_v 1) ea_nil)) ⟨ns, p, hl0, rfl, rfl⟩) ?_ scDraws.nd
  generalize cellZ ns p = c at nn
  refine ex_setN 5 (ev_lst ea_nil) ?_ scDraws.nd
  refine ex_if (et_cmp cmp_ge (ev_v 4) (ev_pow (i := 10) (j := 18) ev_int ev_int ⟨by decide, by decide, by decide⟩)) (fun hc => ?_) fun hc => ?_
  · have hc' : (10 : Int) ^ 18 ≤ c := of_decide_eq_true hc
    refine ex_set 4 (ev_sub (ev_v 4) (ev_pow (i := 10) (j := 18) ev_int ev_int ⟨by decide, by decide, by decide⟩)) ?_ scDraws.nd
    let row : Nat → List PyData := fun m => ((List.range m).map fun k => digC (c - 10 ^ 18) b k % b).map PyData.int
    have rl : ∀ m, (row m).length = m := fun m => by simp [row]
    have step : ∀ m, row (m + 1) = row m ++ [.int (digC (c - 10 ^ 18) b m % b)] := fun m => by simp [row, List.range_succ]
    let Iv : Nat → List Ent → Prop := fun m ρ => ∃ e6, ρ = [.d (.list (ns.map .int)), .d (.int p), .d (.int n), .d (.int b), .d (.int (digC (c - 10 ^ 18) b m)), .own (row m), e6, .un]
    refine ex_for rfl hp (wk_range1 rfl g1 (ev_v 2) (by omega) (by omega)) Iv ⟨.un, rfl⟩ (fun m x ρ1 hm hI => ?_) fun ρ1 hI => ?_
    · obtain ⟨e6, rfl⟩ := hI
      have hm' : m < n := by
        have z := (List.getElem?_eq_some_iff.mp hm).1
        rw [upFrom_len] at z
        omega
      refine ⟨[6], _, tg_name 6 scDraws.nd, ?_⟩
      refine ex_append (xs := row m) 5 (ev_mod (ev_intI rfl g2 (ev_v 4)) (ev_v 3) hb) (by rw [rl, sizeLine_eq]; omega) ?_
      refine ex_set 4 (ev_div (ev_v 4) (ev_v 3) ⟨hb, by omega⟩) (ex_nil ?_) scDraws.nd
      exact ⟨.d x, by rw [step m]; rfl⟩
    · obtain ⟨e6, rfl⟩ := hI
      refine ex_retO 5 (.inl ?_)
      rw [upFrom_len]
      show Outc.new _ = Outc.new (row _)
      unfold drawsZ
      rw [if_pos hc']
      simp [row]
  · have hc' : ¬ (10 : Int) ^ 18 ≤ c := of_decide_eq_false hc
    refine ex_nil ?_
    show Ex _ _ _ _ _
    let row : Nat → List PyData := fun m => ((List.range m).map (mixC c b)).map PyData.int
    have rl : ∀ m, (row m).length = m := fun m => by simp [row]
    have step : ∀ m, row (m + 1) = row m ++ [.int (mixC c b m)] := fun m => by simp [row, List.range_succ]
    let Iv : Nat → List Ent → Prop := fun m ρ => ∃ e6 e7, ρ = [.d (.list (ns.map .int)), .d (.int p), .d (.int n), .d (.int b), .d (.int c), .own (row m), e6, e7]
    refine ex_for rfl hp (wk_range1 rfl g1 (ev_v 2) (by omega) (by omega)) Iv ⟨.un, .un, rfl⟩ (fun m x ρ1 hm hI => ?_) fun ρ1 hI => ?_
    · obtain ⟨e6, e7, rfl⟩ := hI
      obtain ⟨hm0, ex⟩ := List.getElem?_eq_some_iff.mp hm
      have hm' : m < n := by
        rw [upFrom_len] at hm0
        omega
      have ex' : x = .int (m : Int) := by rw [← ex]; unfold upFrom; simp
      subst ex'
      refine ⟨[6], _, tg_name 6 scDraws.nd, ?_⟩
      refine ex_set 7 (ev_mod (ev_intI rfl g2 (ev_add (ev_add (ev_mul (ev_v 4) ev_int (.inr (by decide))) (ev_mul (ev_add (ev_v 6) ev_int) ev_int (.inr (by decide)))) ev_int)) ev_int (by decide)) ?_ scDraws.nd
      have b1 := Int.emod_nonneg (c * 48271 + ((m : Int) + 1) * 69621 + 17) (show (2147483647 : Int) ≠ 0 by decide)
      have b2 := Int.emod_lt_of_pos (c * 48271 + ((m : Int) + 1) * 69621 + 17) (show (0 : Int) < 2147483647 by decide)
      refine ex_set 7 (ev_mod (ev_intI rfl g2 (ev_add (ev_add (ev_mul (ev_v 7) (ev_v 7) (.inl (by omega))) (ev_mul (ev_v 4) (ev_add (ev_v 6) ev_int) (.inr (by omega)))) ev_int)) ev_int (by decide)) ?_ scDraws.nd
      refine ex_append (xs := row m) 5 (ev_mod (ev_intI rfl g2 (ev_div (ev_v 7) ev_int ⟨by decide, by decide⟩)) (ev_v 3) hb) (by rw [rl, sizeLine_eq]; omega) ?_
      refine ex_nil ⟨.d (.int (m : Int)), .d (.int (((c * 48271 + ((m : Int) + 1) * 69621 + 17) % 2147483647 * ((c * 48271 + ((m : Int) + 1) * 69621 + 17) % 2147483647) + c * ((m : Int) + 3) + 12345) % 1000003)), ?_⟩
      rw [step m]
      rfl
    · obtain ⟨e6, e7, rfl⟩ := hI
      refine ex_retO 5 (.inl ?_)
      rw [upFrom_len]
      show Outc.new _ = Outc.new (row _)
      unfold drawsZ
      rw [if_neg hc']
      simp [row]
end
end K5

/-! K6: law k05: the pairs, the number of bits, what is due. -/
namespace K5
open PySem PySem.Spec L2 Wn Ws Wq
open PyProof.Rows hiding St
section
variable {w : World} {K : PySem.W.Frag} {mg : Str → Option Value} {base : Heap} {Tb : List Addr} {f : Addr} {fd : FuncData} {k : Nat} {CL CC : Addr}
/-! ### _law_pairs -/
theorem scPairs : FnScope ["_law_size", "_law_pairs_here", "_law_v", "_law_u"] ["_law_size"] (defScope (top 19)) := ⟨rfl, rfl, rfl, by decide +kernel, rfl, by decide +kernel, by decide +kernel⟩
def rowP (v m : Nat) : List (Int × Int) := (List.range m).map fun u => (((u : Nat) : Int), (v : Int))
def allP (n : Nat) : List (Int × Int) := (List.range n).flatMap fun v => rowP v (v + 1)
theorem allP_succ (n : Nat) : allP (n + 1) = allP n ++ rowP n (n + 1) := by simp [allP, List.range_succ]
theorem rowP_succ (v m : Nat) : rowP v (m + 1) = rowP v m ++ [((m : Int), (v : Int))] := by simp [rowP, List.range_succ]
theorem rowP_len (v m : Nat) : (rowP v m).length = m := by simp [rowP]
theorem allP_len (n : Nat) : 2 * (allP n).length = n * (n + 1) := by
  induction n with
  | zero => rfl
  | succ n ih =>
    rw [allP_succ, List.length_append, rowP_len, Nat.mul_add, ih]
    grind
theorem allP_le {n : Nat} (h : n ≤ 64) : (allP n).length ≤ 2080 := by
  have a := allP_len n
  have b : n * (n + 1) ≤ 64 * 65 := Nat.mul_le_mul h (by omega)
  omega
def S_pairs : SpecD := fun xs o => ∃ n : Nat, n ≤ 64 ∧ xs = [.int n] ∧ o = .new ((allP n).map pd)
theorem ok_pairs (Fu : Fun K "_law_pairs" "_law_pairs" (top 19) f fd) (g1 : mg "range" = none) : FnOk P5 w K mg base (L2.CX P5 w) (k + 1) f fd ["_law_size"] (spD K Tb S_pairs) := by
  refine fn_D Fu scPairs (by rintro _ _ ⟨n, _, rfl, _⟩; rfl) ?_
  rintro _ _ ⟨n, hn, rfl, rfl⟩ cdv A outer s H E B tb hr hp hx hl
  refine ex_setN 1 (ev_lst ea_nil) ?_ scPairs.nd
  let Iv : Nat → List Ent → Prop := fun v ρ => ∃ e2 e3, ρ = [.d (.int n), .own ((allP v).map pd), e2, e3]
  refine ex_for rfl hp (wk_range1 rfl g1 (ev_v 0) (by omega) (by omega)) Iv ⟨.un, .un, rfl⟩ (fun v x ρ1 hv hI => ?_) fun ρ1 hI => ?_
  · obtain ⟨e2, e3, rfl⟩ := hI
    obtain ⟨hv0, ex⟩ := List.getElem?_eq_some_iff.mp hv
    have hv' : v < n := by rw [upFrom_len] at hv0; omega
    have ex' : x = .int (v : Int) := by rw [← ex]; unfold upFrom; simp
    subst ex'
    refine ⟨[2], _, tg_name 2 scPairs.nd, ?_⟩
    let Ju : Nat → List Ent → Prop := fun u ρ => ∃ e3, ρ = [.d (.int n), .own ((allP v ++ rowP v u).map pd), .d (.int v), e3]
    refine ex_for rfl hp (wk_range1 rfl g1 (ev_add (ev_v 2) ev_int) (by omega) (by omega)) Ju ⟨e3, by simp [rowP]⟩ (fun u x ρ1 hu hJ => ?_) fun ρ1 hJ => ?_
    · obtain ⟨e3, rfl⟩ := hJ
      obtain ⟨hu0, ex⟩ := List.getElem?_eq_some_iff.mp hu
      have hu' : u < v + 1 := by rw [upFrom_len] at hu0; omega
      have ex' : x = .int (u : Int) := by rw [← ex]; unfold upFrom; simp
      subst ex'
      refine ⟨[3], _, tg_name 3 scPairs.nd, ?_⟩
      refine ex_append (xs := (allP v ++ rowP v u).map pd) 1 (ev_tup (ea_cons (ev_v 3) (ea_cons (ev_v 2) ea_nil)) (by show 2 ≤ sizeLine; decide)) ?_ (ex_nil ⟨.d (.int u), ?_⟩)
      · have a := allP_le (show v ≤ 64 by omega)
        rw [List.length_map, List.length_append, rowP_len, sizeLine_eq]
        omega
      · rw [rowP_succ, ← List.append_assoc, List.map_append (l₁ := allP v ++ rowP v u)]
        rfl
    · obtain ⟨e3, rfl⟩ := hJ
      refine ex_nil ⟨.d (.int v), e3, ?_⟩
      rw [upFrom_len, allP_succ, show ((v : Int) + 1).toNat = v + 1 by omega]
  · obtain ⟨e2, e3, rfl⟩ := hI
    refine ex_retO 1 (.inl ?_)
    rw [upFrom_len]
    rfl
end
end K5

/-! K7: law k05: the number of bits, what is due. -/
namespace K5
open PySem PySem.Spec L2 Wn Ws Wq
open PyProof.Rows hiding St
section
variable {w : World} {K : PySem.W.Frag} {mg : Str → Option Value} {base : Heap} {Tb : List Addr} {f : Addr} {fd : FuncData} {k : Nat} {CL CC : Addr}
/-! ### _law_number -/
theorem scNumber : FnScope ["_law_bits_here", "_law_number_here", "_law_k"] ["_law_bits_here"] (defScope (top 20)) := ⟨rfl, rfl, rfl, by decide +kernel, rfl, by decide +kernel, by decide +kernel⟩
def numTo (bs : List Int) : Nat → Int
  | 0 => 0
  | m + 1 => if bs.getD m 0 = 1 then numTo bs m + 1 * 2 ^ m else numTo bs m
theorem ints_at {bs : List Int} {m : Nat} (h : m < bs.length) : atI (bs.map PyData.int) (m : Int) = some (.int (bs.getD m 0)) := by
  have e : bs[m]? = some bs[m] := List.getElem?_eq_getElem h
  exact atI_nat (by rw [List.getElem?_map, List.getD_eq_getElem?_getD, e]; rfl)
theorem up_nat {n m : Nat} {x : PyData} {j : Int} (e : j.toNat = n) (h : (upFrom 0 j.toNat)[m]? = some x) : m < n ∧ x = .int (m : Int) := by
  obtain ⟨h0, ex⟩ := List.getElem?_eq_some_iff.mp h
  refine ⟨by rw [upFrom_len] at h0; omega, ?_⟩
  rw [← ex]; unfold upFrom; simp
def S_number : SpecD := fun xs o => ∃ bs : List Int, bs.length ≤ 2080 ∧ xs = [.list (bs.map .int)] ∧ o = .ret (.int (numTo bs bs.length))
theorem ok_number (Fu : Fun K "_law_number" "_law_number" (top 20) f fd) (g1 : mg "range" = none) (g2 : mg "len" = none) : FnOk P5 w K mg base (L2.CX P5 w) (k + 1) f fd ["_law_bits_here"] (spD K Tb S_number) := by
  refine fn_D Fu scNumber (by rintro _ _ ⟨bs, _, rfl, _⟩; rfl) ?_
  rintro _ _ ⟨bs, hn, rfl, rfl⟩ cdv A outer s H E B tb hr hp hx hl
  refine ex_set 1 ev_int ?_ scNumber.nd
  let Iv : Nat → List Ent → Prop := fun m ρ => ∃ e2, ρ = [.d (.list (bs.map .int)), .d (.int (numTo bs m)), e2]
  have ll : lenD (.list (bs.map PyData.int)) = bs.length := by simp [lenD]
  refine ex_for rfl hp (wk_range1 rfl g1 (ev_len (x := .list (bs.map .int)) rfl g2 (ev_v 0) trivial) (by omega) (by omega)) Iv ⟨.un, rfl⟩ (fun m x ρ1 hm hI => ?_) fun ρ1 hI => ?_
  · obtain ⟨e2, rfl⟩ := hI
    obtain ⟨hm', rfl⟩ := up_nat (n := bs.length) (by omega) hm
    refine ⟨[2], _, tg_name 2 scNumber.nd, ?_⟩
    refine ex_if (et_cmp cmp_eq (ev_ixL (EvD.l (ev_v 0)) (ev_v 2) (ints_at hm')) ev_int) (fun hc => ?_) fun hc => ?_
    · have hc' : bs.getD m 0 = 1 := by simpa using hc
      refine ex_set 1 (ev_add (ev_v 1) (ev_shl ev_int (ev_v 2) ⟨by omega, by omega, by decide⟩)) (ex_nil (ex_nil ⟨.d (.int m), ?_⟩)) scNumber.nd
      show _ = [_, Ent.d (.int (if bs.getD m 0 = 1 then numTo bs m + 1 * 2 ^ m else numTo bs m)), _]
      rw [if_pos hc']
      rfl
    · have hc' : ¬ bs.getD m 0 = 1 := by simpa using hc
      refine ex_nil (ex_nil ⟨.d (.int m), ?_⟩)
      show _ = [_, Ent.d (.int (if bs.getD m 0 = 1 then numTo bs m + 1 * 2 ^ m else numTo bs m)), _]
      rw [if_neg hc']
      rfl
  · obtain ⟨e2, rfl⟩ := hI
    refine ex_ret (ev_v 1) ?_
    rw [upFrom_len]
    show Outc.ret _ = Outc.ret _
    rw [show (lenD (PyData.list (bs.map PyData.int)) : Int).toNat = bs.length by omega]
/-! ### _law_due -/
theorem scDue : FnScope ["_law_size", "_law_pairs_here", "_law_bits_here", "_law_k"] ["_law_size", "_law_pairs_here", "_law_bits_here"] (defScope (top 21)) := ⟨rfl, rfl, rfl, by decide +kernel, rfl, by decide +kernel, by decide +kernel⟩
def pickD (ps : List (Int × Int)) (bs : List Int) : PyData → Option PyData
  | .int j => if bs.getD j.toNat 0 = 1 then some (pd (ps.getD j.toNat (0, 0))) else none
  | _ => none
def chosen (ps : List (Int × Int)) (bs : List Int) (n : Nat) : List (Int × Int) := (List.range n).filterMap fun m => if bs.getD m 0 = 1 then some (ps.getD m (0, 0)) else none
theorem pick_chosen (ps : List (Int × Int)) (bs : List Int) (n : Nat) : (upFrom 0 n).filterMap (pickD ps bs) = (chosen ps bs n).map pd := by
  unfold upFrom chosen
  rw [List.filterMap_map, List.map_filterMap]
  congr 1
  funext m
  show (if bs.getD (0 + (m : Int)).toNat 0 = 1 then some (pd (ps.getD (0 + (m : Int)).toNat (0, 0))) else none) = _
  rw [show (0 + (m : Int)).toNat = m by omega]
  by_cases h : bs.getD m 0 = 1
  · rw [if_pos h, if_pos h]; rfl
  · rw [if_neg h, if_neg h]; rfl
theorem pairs_at {ps : List (Int × Int)} {m : Nat} (h : m < ps.length) : atI (ps.map pd) (m : Int) = some (pd (ps.getD m (0, 0))) := by
  have e : ps[m]? = some ps[m] := List.getElem?_eq_getElem h
  exact atI_nat (by rw [List.getElem?_map, List.getD_eq_getElem?_getD, e]; rfl)
def S_due : SpecD := fun xs o => ∃ (n : Int) (ps M : List (Int × Int)) (bs : List Int), bs.length = ps.length ∧ ps.length ≤ 2080 ∧ M.Perm (chosen ps bs ps.length) ∧ M.Pairwise Plt ∧ xs = [.int n, .list (ps.map pd), .list (bs.map .int)] ∧ o = .ret (webD n M)
theorem ok_due (Fu : Fun K "_law_due" "_law_due" (top 21) f fd) (g1 : mg "range" = none) (g2 : mg "len" = none) (g3 : mg "sorted" = none) (g4 : mg "tuple" = none) : FnOk P5 w K mg base (L2.CX P5 w) (k + 1) f fd ["_law_size", "_law_pairs_here", "_law_bits_here"] (spD K Tb S_due) := by
  refine fn_D Fu scDue (by rintro _ _ ⟨n, ps, M, bs, _, _, _, _, rfl, _⟩; rfl) ?_
  rintro _ _ ⟨n, ps, M, bs, h1, h2, pm, asc, rfl, rfl⟩ cdv A outer s H E B tb hr hp hx hl
  have ll : lenD (.list (ps.map pd)) = ps.length := by simp [lenD]
  have lt : (lenD (PyData.list (ps.map pd)) : Int).toNat = ps.length := by omega
  refine ex_ret (ev_tup (ea_cons (ev_v 0) (ea_cons (ev_tupL (EvN.l (ev_sortP (chosen ps bs ps.length) M (EvN.l ?_) pm (asc.imp .inl) hr.units rfl g3)) rfl g4) ea_nil)) (by show 2 ≤ sizeLine; decide)) rfl
  have e : (chosen ps bs ps.length).map pd = (upFrom 0 (lenD (PyData.list (ps.map pd)) : Int).toNat).filterMap (pickD ps bs) := by rw [lt, pick_chosen]
  rw [e]
  refine ev_lc (own := [("_law_k", 3)]) (pickD ps bs) (wk_range1 rfl g1 (ev_len (x := .list (ps.map pd)) rfl g2 (ev_v 1) trivial) (by omega) (by omega)) (fun x hx => ?_) (by rw [upFrom_len, sizeLine_eq]; omega)
      (show BlkOk ["_law_size", "_law_pairs_here", "_law_bits_here", "_law_k"] (defScope (top 21)) _ [("_law_k", 3)] from ⟨rfl, by decide +kernel, by decide +kernel, by decide +kernel, by decide +kernel⟩) rfl scDue.nd
  obtain ⟨m, hm⟩ := List.mem_iff_getElem?.mp hx
  obtain ⟨hm', rfl⟩ := up_nat (n := ps.length) lt hm
  refine ⟨[.d (.int n), .d (.list (ps.map pd)), .d (.list (bs.map .int)), .d (.int m)], decide (bs.getD m 0 = 1), fun X' hX' => ?_, fun X' hX' => ?_, fun z => ?_, fun z => ⟨pd (ps.getD m (0, 0)), ?_, fun X' hX' => ?_⟩⟩
  · obtain ⟨s', H', C, cl, fp, rfl⟩ := hX'.ex
    exact tg_name 3 scDue.nd
  · obtain ⟨s', H', C, cl, fp, rfl⟩ := hX'.ex
    exact ef_one (et_cmp cmp_eq (ev_ixL (EvD.l (ev_v 2)) (ev_v 3) (ints_at (by omega))) ev_int)
  · show (if bs.getD (m : Int).toNat 0 = 1 then some (pd (ps.getD (m : Int).toNat (0, 0))) else none) = none
    rw [show (m : Int).toNat = m by omega, if_neg (of_decide_eq_false z)]
  · show (if bs.getD (m : Int).toNat 0 = 1 then some (pd (ps.getD (m : Int).toNat (0, 0))) else none) = _
    rw [show (m : Int).toNat = m by omega, if_pos (of_decide_eq_true z)]
  · obtain ⟨s', H', C, cl, fp, rfl⟩ := hX'.ex
    exact ev_ixL (EvD.l (ev_v 1)) (ev_v 3) (pairs_at hm')
end
end K5

/-! K8: law k05: the bits drawn. -/
namespace K5
open PySem PySem.Spec L2 Wn Ws Wq
open PyProof.Rows hiding St
section
variable {w : World} {K : PySem.W.Frag} {mg : Str → Option Value} {base : Heap} {Tb : List Addr} {f : Addr} {fd : FuncData} {k : Nat} {CL CC : Addr}
theorem scBits : FnScope ["_law_script", "_law_shape", "_law_count", "_law_bits_here", "_law_draws_here", "_law_k", "_law_at"] ["_law_script", "_law_shape", "_law_count"] (defScope (top 23)) := ⟨rfl, rfl, rfl, by decide +kernel, rfl, by decide +kernel, by decide +kernel⟩
def putTo (ds : List Int) (n : Nat) : Nat → List Int
  | 0 => List.replicate n 0
  | m + 1 => if ds.getD m 0 % ((n : Int) + (n : Int) / 4) < n then (putTo ds n m).set (ds.getD m 0 % ((n : Int) + (n : Int) / 4)).toNat 1 else putTo ds n m
def bitsZ (ns : List Int) (sh : Int) (n : Nat) : List Int := if sh / 10 % 8 = 1 then putTo (drawsZ (cellZ ns 2) 8 4160) n 8 else drawsZ (cellZ ns 1) n 2
theorem putTo_len (ds : List Int) (n : Nat) : ∀ m, (putTo ds n m).length = n
  | 0 => by simp [putTo]
  | m + 1 => by
    unfold putTo
    split
    · rw [List.length_set, putTo_len ds n m]
    · exact putTo_len ds n m
theorem putTo_01 (ds : List Int) (n : Nat) : ∀ m, ∀ x ∈ putTo ds n m, x = 0 ∨ x = 1
  | 0 => fun x hx => .inl (List.eq_of_mem_replicate hx)
  | m + 1 => fun x hx => by
    unfold putTo at hx
    split at hx
    · rcases List.mem_or_eq_of_mem_set hx with z | z
      · exact putTo_01 ds n m x z
      · exact .inr z
    · exact putTo_01 ds n m x hx
theorem bits_len (ns : List Int) (sh : Int) (n : Nat) : (bitsZ ns sh n).length = n := by
  unfold bitsZ
  split
  · exact putTo_len _ _ _
  · exact draws_len _ _ _
theorem bits_01 (ns : List Int) (sh : Int) (n : Nat) : ∀ x ∈ bitsZ ns sh n, x = 0 ∨ x = 1 := by
  unfold bitsZ
  split
  · exact putTo_01 _ _ _
  · intro x hx
    have z := draws_bd (show (0 : Int) < 2 by decide) x hx
    omega
def S_bits : SpecD := fun xs o => ∃ (ns : List Int) (sh : Int) (n : Nat), ns.length ≤ 63 ∧ 0 ≤ sh ∧ n ≤ 2080 ∧ (sh / 10 % 8 = 1 → 0 < n) ∧ xs = [.list (ns.map .int), .int sh, .int n] ∧ o = .new ((bitsZ ns sh n).map .int)
theorem ok_bits (Fu : Fun K "_law_bits" "_law_bits" (top 23) f fd) (D1 : DefOk P5 w K mg base Tb "_law_draws" (k + 8) S_draws) (g1 : mg "range" = none) : FnOk P5 w K mg base (L2.CX P5 w) (k + 9) f fd ["_law_script", "_law_shape", "_law_count"] (spD K Tb S_bits) := by
  refine fn_D Fu scBits (by rintro _ _ ⟨ns, sh, n, _, _, _, _, rfl, _⟩; rfl) ?_
  rintro _ _ ⟨ns, sh, n, hl0, hs, hn, hpos, rfl, rfl⟩ cdv A outer s H E B tb hr hp hx hl
  refine ex_if (et_cmp cmp_ne (ev_mod (ev_div (ev_v 1) ev_int ⟨by decide, by decide⟩) ev_int (by decide)) ev_int) (fun hc => ?_) fun hc => ?_
  · have hc' : ¬ sh / 10 % 8 = 1 := by simpa using hc
    refine ex_retN (ev_callN D1 hr (ea_cons (ev_v 0) (ea_cons ev_int (ea_cons (ev_v 2) (ea_cons ev_int ea_nil)))) ⟨ns, 1, n, 2, hl0, by omega, by decide, by decide, rfl, rfl⟩) (.inl ?_)
    unfold bitsZ
    rw [if_neg hc']
  · have hc' : sh / 10 % 8 = 1 := by simpa using hc
    have np := hpos hc'
    refine ex_nil ?_
    show Ex _ _ _ _ _
    refine ex_setN 3 (ev_rep1 (ev_lst (ea_cons ev_int ea_nil)) (ev_v 2) (by omega) (by omega) (by rw [sizeLine_eq]; omega)) ?_ scBits.nd
    refine ex_setN 4 (ev_callN D1 hr (ea_cons (ev_v 0) (ea_cons ev_int (ea_cons ev_int (ea_cons ev_int ea_nil)))) ⟨ns, 2, 8, 4160, hl0, by decide, by decide, by decide, rfl, rfl⟩) ?_ scBits.nd
    have dl := draws_len (cellZ ns 2) 8 4160
    have db := draws_bd (c := cellZ ns 2) (n := 8) (show (0 : Int) < 4160 by decide)
    have fin : (bitsZ ns sh n) = putTo (drawsZ (cellZ ns 2) 8 4160) n 8 := by unfold bitsZ; rw [if_pos hc']
    generalize drawsZ (cellZ ns 2) 8 4160 = ds at dl db fin
    let Iv : Nat → List Ent → Prop := fun m ρ => ∃ e5 e6, ρ = [.d (.list (ns.map .int)), .d (.int sh), .d (.int n), .own ((putTo ds n m).map .int), .own (ds.map .int), e5, e6]
    refine ex_for rfl hp (wk_range1 rfl g1 (ev_int (i := 8)) (by decide) (by decide)) Iv ⟨.un, .un, ?_⟩ (fun m x ρ1 hm hI => ?_) fun ρ1 hI => ?_
    · show _ = [_, _, _, Ent.own ((List.replicate n (0 : Int)).map PyData.int), _, _, _]
      rw [List.map_replicate]
      rfl
    · obtain ⟨e5, e6, rfl⟩ := hI
      obtain ⟨hm', rfl⟩ := up_nat (n := 8) (j := 8) rfl hm
      refine ⟨[5], _, tg_name 5 scBits.nd, ?_⟩
      refine ex_set 6 (ev_mod (ev_ixL (ev_vl 4) (ev_v 5) (ints_at (by omega))) (ev_add (ev_v 2) (ev_div (ev_v 2) ev_int ⟨by decide, by decide⟩)) (by omega)) ?_ scBits.nd
      have nn : 0 ≤ ds.getD m 0 % ((n : Int) + (n : Int) / 4) := Int.emod_nonneg _ (by omega)
      refine ex_if (et_cmp cmp_lt (ev_v 6) (ev_v 2)) (fun hc => ?_) fun hc => ?_
      · have hc2 := of_decide_eq_true hc
        refine ex_putI (xs := (putTo ds n m).map .int) (m := (ds.getD m 0 % ((n : Int) + (n : Int) / 4)).toNat) 3 ev_int (ev_v 6) ?_ (ex_nil (ex_nil ⟨.d (.int m), .d (.int (ds.getD m 0 % ((n : Int) + (n : Int) / 4))), ?_⟩))
        · unfold ixN
          rw [if_pos nn, List.length_map, putTo_len, if_pos hc2]
        · have e : putTo ds n (m + 1) = (putTo ds n m).set (ds.getD m 0 % ((n : Int) + (n : Int) / 4)).toNat 1 := by
            show (if _ then _ else _) = _
            rw [if_pos hc2]
          rw [e, List.map_set]
          rfl
      · have hc2 := of_decide_eq_false hc
        refine ex_nil (ex_nil ⟨.d (.int m), .d (.int (ds.getD m 0 % ((n : Int) + (n : Int) / 4))), ?_⟩)
        have e : putTo ds n (m + 1) = putTo ds n m := by
          show (if _ then _ else _) = _
          rw [if_neg hc2]
        rw [e]
        rfl
    · obtain ⟨e5, e6, rfl⟩ := hI
      refine ex_retO 3 (.inl ?_)
      rw [fin]
      rfl
end
end K5

/-! K9: law k05: counted, refused. -/
namespace K5
open PySem PySem.Spec L2 Wn Ws Wq
open PyProof.Rows hiding St
section
variable {w : World} {K : PySem.W.Frag} {mg : Str → Option Value} {base : Heap} {Tb : List Addr} {f : Addr} {fd : FuncData} {k : Nat} {CL CC : Addr}
theorem et_as {X : Cx} {F : Fx} {ρ : List Ent} {e : Expr} {r r' : Bool} (h : EvT X F ρ e r) (q : r = r') : EvT X F ρ e r' := q ▸ h
/-! ### _law_counted -/
theorem scCounted : FnScope ["_law_pairs_here", "_law_first", "_law_second", "_law_pair", "_law_place"] ["_law_pairs_here", "_law_first", "_law_second"] (defScope (top 24)) := ⟨rfl, rfl, rfl, by decide +kernel, rfl, by decide +kernel, by decide +kernel⟩
/-- the pair, in order, stands at the place of its bit, and nowhere earlier -/
def Placed (ps : List (Int × Int)) (p : Int × Int) : Prop := ∃ j : Nat, ps[j]? = some (min p.1 p.2, max p.1 p.2) ∧ (∀ m, m < j → ps[m]? ≠ some (min p.1 p.2, max p.1 p.2)) ∧ bitOf p.1 p.2 = j
theorem bit_comm (a b : Int) : bitOf b a = bitOf a b := by unfold bitOf; rw [show max b a = max a b by omega, show min b a = min a b by omega]
def S_counted : SpecD := fun xs o => ∃ (ps : List (Int × Int)) (p q : Int × Int), ps.length ≤ 2080 ∧ Small p.1 p.2 ∧ Small q.1 q.2 ∧ Placed ps p ∧ Placed ps q ∧ xs = [.list (ps.map pd), pd p, pd q] ∧ o = .ret (.bool true)
theorem ok_counted (Fu : Fun K "_law_counted" "_law_counted" (top 24) f fd) (D1 : DefOk P5 w K mg base Tb "bit_of" (k + 8) S_bit) (D2 : DefOk P5 w K mg base Tb "_law_is_integer" (k + 8) S_is) (g1 : mg "max" = none) (g2 : mg "min" = none) : FnOk P5 w K mg base (L2.CX P5 w) (k + 9) f fd ["_law_pairs_here", "_law_first", "_law_second"] (spD K Tb S_counted) := by
  refine fn_D Fu scCounted (by rintro _ _ ⟨ps, p, q, _, _, _, _, _, rfl, _⟩; rfl) ?_
  rintro _ _ ⟨ps, p, q, hl0, s1, s2, p1, p2, rfl, rfl⟩ cdv A outer s H E B tb hr hp hx hl
  let Iv : Nat → List Ent → Prop := fun m ρ => ∃ e3 e4, ρ = [.d (.list (ps.map pd)), .d (pd p), .d (pd q), e3, e4]
  refine ex_for rfl hp (wk_list (EvN.d (ev_lst (ea_cons (ev_v 1) (ea_cons (ev_v 2) ea_nil)) (by show 2 ≤ sizeLine; decide)))) Iv ⟨.un, .un, rfl⟩ (fun m x ρ1 hm hI => ?_) fun ρ1 hI => ?_
  · obtain ⟨e3, e4, rfl⟩ := hI
    obtain ⟨r, rfl, sm, pl⟩ : ∃ r : Int × Int, x = pd r ∧ Small r.1 r.2 ∧ Placed ps r := by
      match m, hm with
      | 0, hm => cases hm; exact ⟨p, rfl, s1, p1⟩
      | 1, hm => cases hm; exact ⟨q, rfl, s2, p2⟩
      | m + 2, hm => simp at hm
    obtain ⟨j, j1, j2, j3⟩ := pl
    obtain ⟨a1, a2, a3, a4⟩ := sm
    refine ⟨[3], _, tg_name 3 scCounted.nd, ?_⟩
    have u0 : ∀ {X : Cx} {F : Fx} {ρ : List Ent} {e : Expr} {ps0 : Pos} {c1 : Nat} {p0 : Pos}, EvD X F ρ e (pd r) → EvD X F ρ (.Subscript e (.Constant (.int 0) c1 p0) ps0) (.int r.1) := fun h => ev_ixT h ev_int (atI_nat (j := 0) rfl)
    have u1 : ∀ {X : Cx} {F : Fx} {ρ : List Ent} {e : Expr} {ps0 : Pos} {c1 : Nat} {p0 : Pos}, EvD X F ρ e (pd r) → EvD X F ρ (.Subscript e (.Constant (.int 1) c1 p0) ps0) (.int r.2) := fun h => ev_ixT h ev_int (atI_nat (j := 1) rfl)
    refine ex_set 4 (ev_index (j := j) (EvD.l (ev_v 0)) (x := pd (min r.1 r.2, max r.1 r.2)) (ev_tup (ea_cons (ev_min2 rfl g2 rfl (u0 (ev_v 3)) (u1 (ev_v 3))) (ea_cons (ev_max2 rfl g1 rfl (u0 (ev_v 3)) (u1 (ev_v 3))) ea_nil)) (by show 2 ≤ sizeLine; decide)) ?_ (clean_pd _) (clean_pds _) (by rw [depth_pd]; decide) (by have := depth_pds ps; omega) ?_ ?_) ?_ scCounted.nd
    · have := hr.un; show (A.deeper _).units + 65 < _; omega
    · rw [List.getElem?_map, j1]; rfl
    · intro m' hm' e
      rw [List.getElem?_map] at e
      obtain ⟨z, hz, ez⟩ := Option.map_eq_some_iff.mp e
      have : z = (min r.1 r.2, max r.1 r.2) := by
        unfold pd at ez
        injection ez with ez
        injection ez with e1 e2
        injection e1 with e1
        injection e2 with e2 _
        injection e2 with e2
        exact Prod.ext e1 e2
      rw [this] at hz
      exact j2 m' hm' hz
    refine ex_if (r := false) (et_w (show EvW _ _ _ _ (false || false) from ew_or (p := false) (q := false) ?_ fun _ => ew_or1 ?_)) (fun z => nomatch z) fun _ => ?_
    · exact et_as (et_cmp cmp_ne (ev_call D1 hr (ea_cons (u0 (ev_v 3)) (ea_cons (u1 (ev_v 3)) ea_nil)) ⟨r.1, r.2, a1, a2, by omega, by omega, rfl, rfl⟩) (ev_v 4)) (by rw [j3]; simp)
    · exact et_as (et_cmp cmp_ne (ev_call D1 hr (ea_cons (u1 (ev_v 3)) (ea_cons (u0 (ev_v 3)) ea_nil)) ⟨r.2, r.1, a2, a1, by omega, by omega, rfl, rfl⟩) (ev_v 4)) (by rw [bit_comm, j3]; simp)
    · refine ex_nil ?_
      show Ex _ _ _ _ _
      refine ex_if (r := false) (et_not (bs := true) (et_val (ev_call D2 hr (ea_cons (ev_call D1 hr (ea_cons (u0 (ev_v 3)) (ea_cons (u1 (ev_v 3)) ea_nil)) ⟨r.1, r.2, a1, a2, by omega, by omega, rfl, rfl⟩) ea_nil) ⟨_, rfl, rfl⟩))) (fun z => nomatch z) fun _ => ?_
      exact ex_nil (ex_nil ⟨_, _, rfl⟩)
  · obtain ⟨e3, e4, rfl⟩ := hI
    exact ex_ret ev_bool rfl
end
end K5

/-! KA: law k05: refused. -/
namespace K5
open PySem PySem.Spec L2 Wn Ws Wq
open PyProof.Rows hiding St
section
variable {w : World} {K : PySem.W.Frag} {mg : Str → Option Value} {base : Heap} {Tb : List Addr} {f : Addr} {fd : FuncData} {k : Nat} {CL CC CW CU CN : Addr}
theorem scRefused : FnScope ["_law_size", "_law_code", "e"] ["_law_size", "_law_code"] (defScope (top 22)) := ⟨rfl, rfl, rfl, by decide +kernel, rfl, by decide +kernel, by decide +kernel⟩
/-- what the written part tells of the error classes -/
structure Errs (K : PySem.W.Frag) (mg : Str → Option Value) (CL CC CW CU CN : Addr) : Prop where
  mW : mg "WebError" = some (.ref CW)
  mU : mg "UnfitWeb" = some (.ref CU)
  mN : mg "NoResult" = some (.ref CN)
  mC : mg "InvalidCode" = some (.ref CC)
  mL : mg "TooLarge" = some (.ref CL)
  isC : IsE K CC
  isL : IsE K CL
  xC : XfC K CC
  xL : XfC K CL
  fC : PySem.W.findIn K (.ref CC) "code" = some none
  fL : PySem.W.findIn K (.ref CL) "limit" = some none
  eC : PySem.W.exmOne K (.ref CC) (.ref CW) = some true
  eL : PySem.W.exmOne K (.ref CL) (.ref CW) = some true
  cN : PySem.W.kitOne K (.ref CC) (.ref CN) = some false
  cU : PySem.W.kitOne K (.ref CC) (.ref CU) = some false
  cV : PySem.W.kitOne K (.ref CC) (.type "ValueError") = some true
  cC : PySem.W.kitOne K (.ref CC) (.ref CC) = some true
  cL : PySem.W.kitOne K (.ref CC) (.ref CL) = some false
  lN : PySem.W.kitOne K (.ref CL) (.ref CN) = some false
  lU : PySem.W.kitOne K (.ref CL) (.ref CU) = some false
  lV : PySem.W.kitOne K (.ref CL) (.type "ValueError") = some true
  lC : PySem.W.kitOne K (.ref CL) (.ref CC) = some false
  lL : PySem.W.kitOne K (.ref CL) (.ref CL) = some true
def txt (s : Str) (x : Int) : PyData := .tuple [.str s, .int x]
def S_refused : SpecD := fun xs o => ∃ n c : Int, xs = [.int n, .int c] ∧ ((64 < n ∧ o = .ret (txt "large" 64)) ∨ (0 ≤ n ∧ n ≤ 64 ∧ (c < 0 ∨ 2 ^ (n * (n + 1) / 2).toNat ≤ c) ∧ o = .ret (txt "code" c)) ∨
  (0 ≤ n ∧ n ≤ 64 ∧ 0 ≤ c ∧ c < 2 ^ (n * (n + 1) / 2).toNat ∧ (∃ M : List (Int × Int), M.Pairwise Plt ∧ (∀ m : Int × Int, m ∈ M ↔ 0 ≤ m.1 ∧ m.1 ≤ m.2 ∧ m.2 < n ∧ hasB c m.1 m.2 = true) ∧ M.length + 1 < 4096) ∧ o = .ret .none))
theorem ok_refused (Fu : Fun K "_law_refused" "_law_refused" (top 22) f fd) (D1 : DefOk P5 w K mg base Tb "web_of_code" (k + 8) (S_woc CL CC)) (T : Errs K mg CL CC CW CU CN) (g1 : mg "isinstance" = none) (g2 : mg "ValueError" = none) : FnOk P5 w K mg base (L2.CX P5 w) (k + 9) f fd ["_law_size", "_law_code"] (spD K Tb S_refused) := by
  refine fn_D Fu scRefused (by rintro _ _ ⟨n, c, rfl, _⟩; rfl) ?_
  rintro _ o ⟨n, c, rfl, h⟩ cdv A outer s H E B tb hr hp hx hl
  rcases h with ⟨big, rfl⟩ | ⟨n0, n1, bad, rfl⟩ | ⟨n0, n1, c0, c1, ⟨M, asc, same, few⟩, rfl⟩
  · refine ex_try_exc 2 (fun e => .Expr e _) (fun Y σ H D hh _ hE => mk_expr (hs := ()) Y _ σ H D hh (by rw [hE]; rfl)) D1 hr (fun pn xe => ea_cons (ev_v 0) (ea_cons (ev_v 1) ea_nil)) ⟨n, c, rfl, .inl ⟨big, rfl⟩⟩ T.eL (fun b d X' hS => ?_) rfl rfl scRefused.nd ⟨rfl, by decide, .inl T.mW⟩ takes0
    obtain ⟨oe, pn, _, _, rfl⟩ := hS.ex
    refine ex_if (r := false) (et_w (show EvW _ _ _ _ (false || (false || false)) from ew_or (et_val (ev_isX 2 T.isL hS g1 rfl rfl (.inl rfl) (pe_glob (v := .ref CN) rfl T.mN rfl) (fun u r => r) T.lN rfl)) fun _ =>
      ew_or (et_val (ev_isX 2 T.isL hS g1 rfl rfl (.inl rfl) (pe_glob (v := .ref CU) rfl T.mU rfl) (fun u r => r) T.lU rfl)) fun _ => ew_or1 (et_as (et_not (et_val (ev_isX 2 T.isL hS g1 rfl rfl (.inl rfl) (pe_bltn (v := .ty "ValueError") rfl g2 (show bootBuiltins "ValueError" = some (.type "ValueError") by decide +kernel) rfl) (fun u r => r) T.lV rfl))) rfl))) (fun z => nomatch z) fun _ => ex_nil ?_
    show Ex _ _ _ _ _
    refine ex_if (r := false) (et_w (show EvW _ _ _ _ (false && true) from ew_and (et_val (ev_isX 2 T.isL hS g1 rfl rfl (.inl rfl) (pe_glob (v := .ref CC) rfl T.mC rfl) (fun u r => r) T.lC rfl)) (fun z => nomatch z))) (fun z => nomatch z) fun _ => ex_nil ?_
    show Ex _ _ _ _ _
    refine ex_if (r := true) (et_w (show EvW _ _ _ _ (true && true) from ew_and (et_val (ev_isX 2 T.isL hS g1 rfl rfl (.inl rfl) (pe_glob (v := .ref CL) rfl T.mL rfl) (fun u r => r) T.lL rfl)) fun _ => ew_and1 (et_as (et_not (et_val (ev_isX 2 T.isL hS g1 rfl rfl (.inl rfl) (pe_glob (v := .ref CC) rfl T.mC rfl) (fun u r => r) T.lC rfl))) rfl))) (fun _ => ?_) (fun z => nomatch z)
    exact ex_ret (ev_tup (ea_cons ev_str (ea_cons (ev_xf 2 T.xL hS T.fL rfl rfl (.inl rfl) rfl) ea_nil)) (by show 2 ≤ sizeLine; decide)) rfl
  · refine ex_try_exc 2 (fun e => .Expr e _) (fun Y σ H D hh _ hE => mk_expr (hs := ()) Y _ σ H D hh (by rw [hE]; rfl)) D1 hr (fun pn xe => ea_cons (ev_v 0) (ea_cons (ev_v 1) ea_nil)) ⟨n, c, rfl, .inr (.inl ⟨n0, n1, bad, rfl⟩)⟩ T.eC (fun b d X' hS => ?_) rfl rfl scRefused.nd ⟨rfl, by decide, .inl T.mW⟩ takes0
    obtain ⟨oe, pn, _, _, rfl⟩ := hS.ex
    refine ex_if (r := false) (et_w (show EvW _ _ _ _ (false || (false || false)) from ew_or (et_val (ev_isX 2 T.isC hS g1 rfl rfl (.inl rfl) (pe_glob (v := .ref CN) rfl T.mN rfl) (fun u r => r) T.cN rfl)) fun _ =>
      ew_or (et_val (ev_isX 2 T.isC hS g1 rfl rfl (.inl rfl) (pe_glob (v := .ref CU) rfl T.mU rfl) (fun u r => r) T.cU rfl)) fun _ => ew_or1 (et_as (et_not (et_val (ev_isX 2 T.isC hS g1 rfl rfl (.inl rfl) (pe_bltn (v := .ty "ValueError") rfl g2 (show bootBuiltins "ValueError" = some (.type "ValueError") by decide +kernel) rfl) (fun u r => r) T.cV rfl))) rfl))) (fun z => nomatch z) fun _ => ex_nil ?_
    show Ex _ _ _ _ _
    refine ex_if (r := true) (et_w (show EvW _ _ _ _ (true && true) from ew_and (et_val (ev_isX 2 T.isC hS g1 rfl rfl (.inl rfl) (pe_glob (v := .ref CC) rfl T.mC rfl) (fun u r => r) T.cC rfl)) fun _ => ew_and1 (et_as (et_not (et_val (ev_isX 2 T.isC hS g1 rfl rfl (.inl rfl) (pe_glob (v := .ref CL) rfl T.mL rfl) (fun u r => r) T.cL rfl))) rfl))) (fun _ => ?_) (fun z => nomatch z)
    exact ex_ret (ev_tup (ea_cons ev_str (ea_cons (ev_xf 2 T.xC hS T.fC rfl rfl (.inl rfl) rfl) ea_nil)) (by show 2 ≤ sizeLine; decide)) rfl
  · refine ex_try_ok ?_
    refine ex_expr (ev_call D1 ?_ (ea_cons (ev_v 0) (ea_cons (ev_v 1) ea_nil)) ⟨n, c, rfl, .inr (.inr ⟨n0, n1, c0, c1, M, asc, same, few, rfl⟩)⟩) (ex_nil ?_)
    · exact hr
    · exact ex_ret ev_none rfl
end
end K5

/-! KB: law k05: pairs, bits and codes, without programs. -/
namespace K5
open PySem PySem.Spec L2 Wn Ws Wq
open PyProof.Rows hiding St
abbrev T (n : Nat) : Nat := (allP n).length
theorem T_succ (n : Nat) : T (n + 1) = T n + (n + 1) := by unfold T; rw [allP_succ, List.length_append, rowP_len]
theorem T_mono {v n : Nat} (h : v ≤ n) : T v ≤ T n := by
  induction n with
  | zero => have e : v = 0 := by omega
            subst e; exact Nat.le_refl _
  | succ n ih =>
    rw [T_succ]
    rcases Nat.eq_or_lt_of_le h with e | e
    · subst e; rw [T_succ]; exact Nat.le_refl _
    · have := ih (by omega); omega
theorem bit_T {u v : Nat} (h : u ≤ v) : bitOf (u : Int) (v : Int) = ((T v + u : Nat) : Int) := by
  unfold bitOf
  have a : max (u : Int) (v : Int) = (v : Int) := by omega
  have b : min (u : Int) (v : Int) = (u : Int) := by omega
  rw [a, b]
  have c := allP_len v
  have d : (v : Int) * ((v : Int) + 1) = ((2 * T v : Nat) : Int) := by rw [c]; push_cast; rfl
  rw [d]
  omega
theorem row_at {v m u : Nat} (h : u < m) : (rowP v m)[u]? = some ((u : Int), (v : Int)) := by
  unfold rowP
  rw [List.getElem?_map, List.getElem?_range h]
  rfl
theorem all_at : ∀ {n u v : Nat}, u ≤ v → v < n → (allP n)[T v + u]? = some ((u : Int), (v : Int))
  | 0, _, _, _, h => absurd h (Nat.not_lt_zero _)
  | n + 1, u, v, h1, h2 => by
    rw [allP_succ]
    rcases Nat.eq_or_lt_of_le (Nat.le_of_lt_succ h2) with e | e
    · subst e
      rw [List.getElem?_append_right (Nat.le_add_right _ _), Nat.add_sub_cancel_left]
      exact row_at (by omega)
    · have a : T v + u < T n := by
        have b := T_mono (show v + 1 ≤ n from e)
        rw [T_succ] at b
        omega
      rw [List.getElem?_append_left a]
      exact all_at h1 e
theorem at_all : ∀ {n m : Nat} {p : Int × Int}, (allP n)[m]? = some p → ∃ u v : Nat, u ≤ v ∧ v < n ∧ p = ((u : Int), (v : Int)) ∧ m = T v + u
  | 0, m, p, h => by simp [allP] at h
  | n + 1, m, p, h => by
    rw [allP_succ] at h
    by_cases a : m < T n
    · rw [List.getElem?_append_left a] at h
      obtain ⟨u, v, h1, h2, h3, h4⟩ := at_all h
      exact ⟨u, v, h1, by omega, h3, h4⟩
    · have a' : (allP n).length ≤ m := Nat.le_of_not_lt a
      rw [List.getElem?_append_right a'] at h
      have b : m - (allP n).length < n + 1 := by
        have z := (List.getElem?_eq_some_iff.mp h).1
        rwa [rowP_len] at z
      rw [row_at b] at h
      exact ⟨m - (allP n).length, n, by omega, by omega, (Option.some.inj h).symm, by show m = (allP n).length + _; omega⟩
theorem at_bit {n m : Nat} {p : Int × Int} (h : (allP n)[m]? = some p) : bitOf p.1 p.2 = (m : Int) := by
  obtain ⟨u, v, h1, _, rfl, h4⟩ := at_all h
  rw [h4]; exact bit_T h1
theorem placed_all {n : Nat} {a b : Nat} (ha : a < n) (hb : b < n) : Placed (allP n) ((a : Int), (b : Int)) := by
  have key : ∀ u v : Nat, u ≤ v → v < n → (allP n)[T v + u]? = some ((u : Int), (v : Int)) ∧ ∀ m, m < T v + u → (allP n)[m]? ≠ some ((u : Int), (v : Int)) := fun u v h1 h2 => ⟨all_at h1 h2, fun m hm e => by
    have z := at_bit e
    rw [bit_T h1] at z
    omega⟩
  rcases Nat.le_total a b with h | h
  · obtain ⟨k1, k2⟩ := key a b h hb
    have e1 : min (a : Int) (b : Int) = a := by omega
    have e2 : max (a : Int) (b : Int) = b := by omega
    exact ⟨T b + a, by rw [e1, e2]; exact k1, by rw [e1, e2]; exact k2, bit_T h⟩
  · obtain ⟨k1, k2⟩ := key b a h ha
    have e1 : min (a : Int) (b : Int) = b := by omega
    have e2 : max (a : Int) (b : Int) = a := by omega
    exact ⟨T a + b, by rw [e1, e2]; exact k1, by rw [e1, e2]; exact k2, by rw [bit_comm]; exact bit_T h⟩
/-! ### bits -/
theorem num_bd (bs : List Int) : ∀ m, 0 ≤ numTo bs m ∧ numTo bs m < 2 ^ m
  | 0 => by simp [numTo]
  | m + 1 => by
    obtain ⟨a, b⟩ := num_bd bs m
    have e : (2 : Int) ^ (m + 1) = 2 ^ m * 2 := Int.pow_succ 2 m
    have p : (0 : Int) < 2 ^ m := Int.pow_pos (by decide)
    unfold numTo
    split <;> omega
theorem num_bit (bs : List Int) : ∀ m j, j < m → numTo bs m / 2 ^ j % 2 = if bs.getD j 0 = 1 then 1 else 0
  | 0, _, h => absurd h (Nat.not_lt_zero _)
  | m + 1, j, h => by
    obtain ⟨a, b⟩ := num_bd bs m
    have p : (0 : Int) < 2 ^ j := Int.pow_pos (by decide)
    rcases Nat.eq_or_lt_of_le (Nat.le_of_lt_succ h) with e | e
    · subst e
      unfold numTo
      split
      · rename_i hb
        rw [Int.add_mul_ediv_right _ _ (by omega), Int.ediv_eq_zero_of_lt a b]
        rfl
      · rw [Int.ediv_eq_zero_of_lt a b]; rfl
    · have ih := num_bit bs m j e
      unfold numTo
      split
      · obtain ⟨d, rfl⟩ : ∃ d, m = j + (d + 1) := ⟨m - j - 1, by omega⟩
        have e2 : (1 : Int) * 2 ^ (j + (d + 1)) = 2 * 2 ^ d * 2 ^ j := by rw [Int.pow_add, Int.pow_succ]; grind
        rw [e2, Int.add_mul_ediv_right _ _ (by omega), Int.add_mul_emod_self_left]
        exact ih
      · exact ih
end K5

/-! KC: law k05: what the bits choose, without programs. -/
namespace K5
open PySem PySem.Spec L2 Wn Ws Wq
open PyProof.Rows hiding St
theorem chosen_succ (ps : List (Int × Int)) (bs : List Int) (m : Nat) : chosen ps bs (m + 1) = chosen ps bs m ++ if bs.getD m 0 = 1 then [ps.getD m (0, 0)] else [] := by
  unfold chosen
  rw [List.range_succ, List.filterMap_append]
  congr 1
  by_cases h : bs.getD m 0 = 1
  · simp only [List.filterMap_cons, List.filterMap_nil, h, if_true]
  · simp only [List.filterMap_cons, List.filterMap_nil, h, if_false]
theorem numTo_succ (bs : List Int) (m : Nat) : numTo bs (m + 1) = if bs.getD m 0 = 1 then numTo bs m + 1 * 2 ^ m else numTo bs m := rfl
theorem all_get {n m : Nat} (h : m < T n) : (allP n)[m]? = some ((allP n).getD m (0, 0)) := by
  have e : (allP n)[m]? = some ((allP n)[m]'h) := List.getElem?_eq_getElem h
  rw [List.getD_eq_getElem?_getD, e]; rfl
theorem chosen_sum (n : Nat) (bs : List Int) : ∀ m, m ≤ T n → ((chosen (allP n) bs m).map fun p => bitP p.1 p.2).sum = numTo bs m
  | 0, _ => rfl
  | m + 1, h => by
    rw [chosen_succ, List.map_append, List.sum_append, chosen_sum n bs m (by omega), numTo_succ]
    by_cases c : bs.getD m 0 = 1
    · rw [if_pos c, if_pos c]
      have b := at_bit (all_get (show m < T n by omega))
      simp only [List.map_cons, List.map_nil, List.sum_cons, List.sum_nil]
      unfold bitP
      rw [b, Int.toNat_natCast, Int.add_zero]
    · rw [if_neg c, if_neg c]
      exact Int.add_zero _
theorem sum_perm {α : Type} {f : α → Int} {l l' : List α} (h : l.Perm l') : (l.map f).sum = (l'.map f).sum := by
  induction h with
  | nil => rfl
  | cons x _ ih => simp only [List.map_cons, List.sum_cons, ih]
  | swap x y l => simp only [List.map_cons, List.sum_cons]; omega
  | trans _ _ a b => exact a.trans b
theorem mem_chosen {n : Nat} {bs : List Int} {L : Nat} (hL : L ≤ T n) {p : Int × Int} : p ∈ chosen (allP n) bs L ↔ ∃ m, m < L ∧ bs.getD m 0 = 1 ∧ (allP n)[m]? = some p := by
  unfold chosen
  rw [List.mem_filterMap]
  constructor
  · rintro ⟨m, hm, e⟩
    have hm' := List.mem_range.mp hm
    by_cases c : bs.getD m 0 = 1
    · rw [if_pos c] at e
      exact ⟨m, hm', c, by rw [← e]; exact all_get (by omega)⟩
    · rw [if_neg c] at e; cases e
  · rintro ⟨m, hm, c, e⟩
    refine ⟨m, List.mem_range.mpr hm, ?_⟩
    rw [if_pos c, ← e]
    exact (all_get (by omega)).symm
theorem chosen_bits {n : Nat} {bs : List Int} {p : Int × Int} : p ∈ chosen (allP n) bs (T n) ↔ 0 ≤ p.1 ∧ p.1 ≤ p.2 ∧ p.2 < (n : Int) ∧ hasB (numTo bs (T n)) p.1 p.2 = true := by
  rw [mem_chosen (Nat.le_refl _)]
  constructor
  · rintro ⟨m, hm, c, e⟩
    obtain ⟨u, v, h1, h2, rfl, h4⟩ := at_all e
    refine ⟨by show (0 : Int) ≤ (u : Int); omega, by show (u : Int) ≤ (v : Int); omega, by show (v : Int) < n; omega, ?_⟩
    unfold hasB
    rw [at_bit e, Int.toNat_natCast, num_bit bs _ _ hm, if_pos c]
    rfl
  · obtain ⟨a, b⟩ := p
    rintro ⟨h1, h2, h3, h4⟩
    dsimp only at h1 h2 h3 h4
    obtain ⟨u, rfl⟩ : ∃ u : Nat, a = (u : Int) := ⟨a.toNat, by omega⟩
    obtain ⟨v, rfl⟩ : ∃ v : Nat, b = (v : Int) := ⟨b.toNat, by omega⟩
    have e := all_at (n := n) (show u ≤ v by omega) (show v < n by omega)
    have hm : T v + u < T n := (List.getElem?_eq_some_iff.mp e).1
    refine ⟨T v + u, hm, ?_, e⟩
    have z := of_decide_eq_true h4
    rw [at_bit e, Int.toNat_natCast, num_bit bs _ _ hm] at z
    by_cases c : bs.getD (T v + u) 0 = 1
    · exact c
    · rw [if_neg c] at z; cases z
theorem chosen_nodup (n : Nat) (bs : List Int) : ∀ m, m ≤ T n → (chosen (allP n) bs m).Nodup
  | 0, _ => List.nodup_nil
  | m + 1, h => by
    rw [chosen_succ]
    by_cases c : bs.getD m 0 = 1
    · rw [if_pos c]
      refine List.nodup_append.mpr ⟨chosen_nodup n bs m (by omega), by simp, fun x hx y hy e => ?_⟩
      obtain ⟨j, hj, _, e2⟩ := (mem_chosen (by omega)).mp hx
      obtain rfl := List.mem_singleton.mp hy
      subst e
      have b1 := at_bit e2
      have b2 := at_bit (all_get (show m < T n by omega))
      omega
    · rw [if_neg c, List.append_nil]; exact chosen_nodup n bs m (by omega)
theorem chosen_len (ps : List (Int × Int)) (bs : List Int) (m : Nat) : (chosen ps bs m).length ≤ m := by
  unfold chosen
  have := List.length_filterMap_le (fun m => if bs.getD m 0 = 1 then some (ps.getD m (0, 0)) else none) (List.range m)
  rwa [List.length_range] at this
/-- the pairs that the bits choose, in order -/
structure Web (n : Nat) (bs : List Int) (M : List (Int × Int)) : Prop where
  perm : M.Perm (chosen (allP n) bs (T n))
  asc : M.Pairwise Plt
  same : ∀ p : Int × Int, p ∈ M ↔ 0 ≤ p.1 ∧ p.1 ≤ p.2 ∧ p.2 < (n : Int) ∧ hasB (numTo bs (T n)) p.1 p.2 = true
  few : M.length + 1 < 4096
  sum : (M.map fun p => bitP p.1 p.2).sum = numTo bs (T n)
  small : ∀ p ∈ M, Small p.1 p.2
theorem web_ex {n : Nat} (hn : n ≤ 64) (bs : List Int) : ∃ M, Web n bs M := by
  let C := chosen (allP n) bs (T n)
  let M := C.mergeSort fun p q : Int × Int => decide (p.1 < q.1 ∨ p.1 = q.1 ∧ p.2 ≤ q.2)
  have pm : M.Perm C := List.mergeSort_perm _ _
  have s1 : M.Pairwise fun p q => decide (p.1 < q.1 ∨ p.1 = q.1 ∧ p.2 ≤ q.2) = true := List.pairwise_mergeSort (le := fun p q : Int × Int => decide (p.1 < q.1 ∨ p.1 = q.1 ∧ p.2 ≤ q.2)) (fun x y z => by simp only [decide_eq_true_eq]; omega) (fun x y => by simp only [Bool.or_eq_true, decide_eq_true_eq]; omega) C
  have nd : M.Nodup := pm.nodup_iff.mpr (chosen_nodup n bs (T n) (Nat.le_refl _))
  have same : ∀ p : Int × Int, p ∈ M ↔ 0 ≤ p.1 ∧ p.1 ≤ p.2 ∧ p.2 < (n : Int) ∧ hasB (numTo bs (T n)) p.1 p.2 = true := fun p => pm.mem_iff.trans chosen_bits
  refine ⟨M, pm, ?_, same, ?_, (sum_perm pm).trans (chosen_sum n bs _ (Nat.le_refl _)), fun p hp => ?_⟩
  · refine (s1.and nd).imp fun {x y} z => ?_
    have a := of_decide_eq_true z.1
    have b : x ≠ y := z.2
    unfold Plt
    rcases a with a | ⟨a, c⟩
    · exact .inl a
    · rcases Int.lt_or_eq_of_le c with c | c
      · exact .inr ⟨a, c⟩
      · exact absurd (Prod.ext a c) b
  · have a := chosen_len (allP n) bs (T n)
    have b := allP_le hn
    have c : M.length = C.length := pm.length_eq
    have d : T n = (allP n).length := rfl
    have e : C.length ≤ T n := a
    omega
  · obtain ⟨h1, h2, h3, _⟩ := (same p).mp hp
    exact ⟨h1, by omega, by omega, by omega⟩
theorem web_one {n : Nat} {bs : List Int} {M M' : List (Int × Int)} (h : Web n bs M) (h' : Web n bs M') : M = M' :=
  List.Perm.eq_of_pairwise (le := Plt) (fun x y _ _ h1 h2 => by unfold Plt at h1 h2; exact Prod.ext (by omega) (by omega)) h.asc h'.asc (h.perm.trans h'.perm.symm)
/-! ### all bits, no bit -/
theorem ones_num (L : Nat) : ∀ m, m ≤ L → numTo (List.replicate L 1) m = 2 ^ m - 1
  | 0, _ => by simp [numTo]
  | m + 1, h => by
    unfold numTo
    have c : (List.replicate L (1 : Int)).getD m 0 = 1 := by rw [List.getD_eq_getElem?_getD, List.getElem?_replicate, if_pos (by omega)]; rfl
    rw [if_pos c, ones_num L m (by omega)]
    have e : (2 : Int) ^ (m + 1) = 2 ^ m * 2 := Int.pow_succ 2 m
    omega
theorem ones_chosen {n : Nat} : ∀ m, m ≤ T n → chosen (allP n) (List.replicate (T n) 1) m = (allP n).take m
  | 0, _ => rfl
  | m + 1, h => by
    have c : (List.replicate (T n) (1 : Int)).getD m 0 = 1 := by rw [List.getD_eq_getElem?_getD, List.getElem?_replicate, if_pos (by omega)]; rfl
    rw [chosen_succ, if_pos c, ones_chosen m (by omega), List.take_succ, all_get (show m < T n by omega)]
    rfl
theorem ones_all (n : Nat) : chosen (allP n) (List.replicate (T n) 1) (T n) = allP n := by rw [ones_chosen _ (Nat.le_refl _)]; exact List.take_length
theorem none_num (m : Nat) : numTo [] m = 0 := by
  induction m with
  | zero => rfl
  | succ m ih => unfold numTo; rw [if_neg (by simp), ih]
theorem none_chosen (ps : List (Int × Int)) (m : Nat) : chosen ps [] m = [] := by
  induction m with
  | zero => rfl
  | succ m ih => rw [chosen_succ, ih, if_neg (by simp)]; rfl
theorem T_of (n : Nat) : ((n : Int) * (n + 1) / 2).toNat = T n := by
  have c := allP_len n
  have d : (n : Int) * ((n : Int) + 1) = ((2 * T n : Nat) : Int) := by rw [c]; push_cast; rfl
  rw [d]
  omega
end K5

/-! KD: law k05: the law itself. -/
namespace K5
open PySem PySem.Spec L2 Wn Ws Wq
open PyProof.Rows hiding St
/-- an if whose branches fall through, joined -/
def Only (Ψ : List Ent → Prop) : Out → Prop
  | .nx ρ => Ψ ρ
  | _ => False
theorem ex_ifJ {X : Cx} {F : Fx} {ρ : List Ent} {Φ : Out → Prop} {rest a b : List Stmt} {c : Expr} {pos : Pos} {r : Bool} (Ψ : List Ent → Prop) (hc : EvT X F ρ c r) (ha : r = true → Ex X F ρ a (Only Ψ)) (hb : r = false → Ex X F ρ b (Only Ψ)) (hk : ∀ ρ', Ψ ρ' → Ex X F ρ' rest Φ) : Ex X F ρ (.If c a b pos :: rest) Φ :=
  have hi : ∀ o, Only Ψ o → Seq X F rest Φ o := fun o h => by cases o <;> first | exact hk _ h | exact h.elim
  ex_if hc (fun z => ex_mono (ha z) hi) fun z => ex_mono (hb z) hi
theorem clean_web (n : Int) (M : List (Int × Int)) : clean (webD n M) = true := by
  unfold webD
  have := clean_pds M
  simp [clean, cleanAll, this]
theorem depth_web (n : Int) (M : List (Int × Int)) : (webD n M).depth ≤ 64 := by
  unfold webD
  have := depth_pds M
  simp [PyData.depth, PyData.depthAll]
  omega
section
variable {w : World} {K : PySem.W.Frag} {mg : Str → Option Value} {base : Heap} {Tb : List Addr} {f : Addr} {fd : FuncData} {k : Nat} {CL CC : Addr}
theorem ne_self {X : Cx} {x : PyData} (hu : X.A.units + 64 < cLine) (c : clean x = true) (d : x.depth ≤ 64) : CmpR X .NotEq x x false := cmp_neC hu c c d d (by simp)
theorem eq_self {X : Cx} {x : PyData} (hu : X.A.units + 64 < cLine) (c : clean x = true) (d : x.depth ≤ 64) : CmpR X .Eq x x true := cmp_eqC hu c c d d (by simp)
theorem ev_as {X : Cx} {F : Fx} {ρ : List Ent} {e : Expr} {x y : PyData} (h : EvD X F ρ e x) (q : x = y) : EvD X F ρ e y := q ▸ h
theorem clean_code (c : Int) : clean (txt "code" c) = true := by
  have : clean (.str "code") = true := by decide +kernel
  unfold txt; simp [clean, cleanAll] at this ⊢; exact this
theorem clean_large (c : Int) : clean (txt "large" c) = true := by
  have : clean (.str "large") = true := by decide +kernel
  unfold txt; simp [clean, cleanAll] at this ⊢; exact this
theorem depth_txt (s : Str) (c : Int) : (txt s c).depth ≤ 64 := by unfold txt; simp [PyData.depth, PyData.depthAll]
theorem scLaw : FnScope ["_law_script", "_law_shape", "_law_size", "_law_pairs_here", "_law_bits_here", "_law_code", "_law_web", "_law_edge", "_law_beyond", "_law_nodes", "_law_first", "_law_more", "_law_wrong"] ["_law_script"] (defScope (top 25)) := ⟨rfl, rfl, rfl, by decide +kernel, rfl, by decide +kernel, by decide +kernel⟩
/-- the defs that the law calls -/
structure Defs (w : World) (K : PySem.W.Frag) (mg : Str → Option Value) (base : Heap) (Tb : List Addr) (k : Nat) (CL CC : Addr) : Prop where
  cell : DefOk P5 w K mg base Tb "_law_cell" (k + 8) S_cell
  draws : DefOk P5 w K mg base Tb "_law_draws" (k + 8) S_draws
  isI : DefOk P5 w K mg base Tb "_law_is_integer" (k + 8) S_is
  pairs : DefOk P5 w K mg base Tb "_law_pairs" (k + 8) S_pairs
  number : DefOk P5 w K mg base Tb "_law_number" (k + 8) S_number
  due : DefOk P5 w K mg base Tb "_law_due" (k + 8) S_due
  refused : DefOk P5 w K mg base Tb "_law_refused" (k + 8) S_refused
  bits : DefOk P5 w K mg base Tb "_law_bits" (k + 8) S_bits
  counted : DefOk P5 w K mg base Tb "_law_counted" (k + 8) S_counted
  woc : DefOk P5 w K mg base Tb "web_of_code" (k + 8) (S_woc CL CC)
  codeOf : DefOk P5 w K mg base Tb "code_of" (k + 8) S_codeOf
theorem bits_len' (ns : List Int) (sh : Int) (n : Nat) : (bitsZ ns sh n).length = n := bits_len ns sh n
theorem ok_law (Fu : Fun K "law" "law" (top 25) f fd) (D : Defs w K mg base Tb k CL CC) (g1 : mg "int" = none) (g2 : mg "len" = none) (g3 : mg "isinstance" = none) (g4 : mg "tuple" = none) (g5 : mg "sorted" = none) : FnOk P5 w K mg base (L2.CX P5 w) (k + 9) f fd ["_law_script"] (spD K Tb S_true) := by
  refine fn_D Fu scLaw (by rintro _ _ ⟨ns, _, rfl, _⟩; rfl) ?_
  rintro _ _ ⟨ns, hl0, rfl, rfl⟩ cdv A outer s H E B tb hr hp hx hl
  have hu : (A.deeper (envOfC "law" (defScope (top 25)) s.heap.objs.size f cdv)).units + 64 < cLine := by have := hr.un; omega
  have c0 := cell_nn ns 0
  refine ex_set 1 (ev_call D.cell hr (ea_cons (ev_v 0) (ea_cons ev_int ea_nil)) ⟨ns, 0, hl0, rfl, rfl⟩) ?_ scLaw.nd
  generalize hsh : cellZ ns 0 = sh at c0
  refine ex_set 2 (ev_mod (ev_intI rfl g1 (ev_add (ev_v 1) ev_int)) ev_int (by decide)) ?_ scLaw.nd
  refine ex_ifJ (fun ρ' => ∃ n : Nat, n ≤ 64 ∧ (sh / 10 % 8 = 1 → 0 < n) ∧ ρ' = [.d (.list (ns.map .int)), .d (.int sh), .d (.int n), .un, .un, .un, .un, .un, .un, .un, .un, .un, .un]) (et_cmp cmp_eq (ev_mod (ev_div (ev_v 1) ev_int ⟨by decide, by decide⟩) ev_int (by decide)) ev_int) (fun hc => ?_) (fun hc => ?_) ?_
  · refine ex_set 2 (ev_add ev_int (ev_mod (ev_div (ev_v 1) ev_int ⟨by decide, by decide⟩) ev_int (by decide))) (ex_nil ⟨(10 + sh / 80 % 55).toNat, by omega, by omega, ?_⟩) scLaw.nd
    rw [show (((10 + sh / 80 % 55).toNat : Nat) : Int) = 10 + sh / 80 % 55 by omega]
    rfl
  · have hc' : ¬ sh / 10 % 8 = 1 := by simpa using hc
    refine ex_nil ⟨((sh + 5) % 10).toNat, by omega, fun z => absurd z hc', ?_⟩
    rw [show ((((sh + 5) % 10).toNat : Nat) : Int) = (sh + 5) % 10 by omega]
    rfl
  rintro _ ⟨n, hn, hpos, rfl⟩
  have hT : T n ≤ 2080 := allP_le hn
  have hTT := allP_len n
  refine ex_setN 3 (ev_callN D.pairs hr (ea_cons (ev_v 2) ea_nil) ⟨n, hn, rfl, rfl⟩) (ex_freeze 3 ?_) scLaw.nd
  have ll : lenD (.list ((allP n).map pd)) = (T n : Nat) := by simp [lenD]
  refine ex_setN 4 (ev_callN D.bits hr (ea_cons (ev_v 0) (ea_cons (ev_v 1) (ea_cons (ev_len (x := .list ((allP n).map pd)) rfl g2 (ev_v 3) trivial) ea_nil))) ⟨ns, sh, T n, hl0, c0, hT, fun z => ?_, by rw [ll], rfl⟩) (ex_freeze 4 ?_) scLaw.nd
  · have z2 : 1 ≤ n := hpos z
    have z3 : 1 * 1 ≤ n * (n + 1) := Nat.mul_le_mul z2 (by omega)
    show 0 < (allP n).length
    omega
  have bl : (bitsZ ns sh (T n)).length = T n := bits_len ns sh (T n)
  generalize bitsZ ns sh (T n) = bs at bl
  refine ex_set 5 (ev_call D.number hr (ea_cons (ev_v 4) ea_nil) ⟨bs, by omega, rfl, rfl⟩) ?_ scLaw.nd
  rw [bl]
  obtain ⟨M, W⟩ := web_ex hn bs
  have bd := num_bd bs (T n)
  have woc : ∀ {bs' : List Int} {M' : List (Int × Int)}, Web n bs' M' → S_woc CL CC [.int n, .int (numTo bs' (T n))] (.ret (webD n M')) := fun {bs' M'} W' => ⟨n, _, rfl, .inr (.inr ⟨by omega, by omega, (num_bd bs' (T n)).1, by rw [T_of]; exact (num_bd bs' (T n)).2, M', W'.asc, W'.same, W'.few, rfl⟩)⟩
  have cof : ∀ {bs' : List Int} {M' : List (Int × Int)}, Web n bs' M' → S_codeOf [webD n M'] (.ret (.int (numTo bs' (T n)))) := fun {bs' M'} W' => ⟨n, M', W'.small, rfl, by rw [W'.sum]⟩
  refine ex_set 6 (ev_call D.woc hr (ea_cons (ev_v 2) (ea_cons (ev_v 5) ea_nil)) (woc W)) ?_ scLaw.nd
  -- the web is as it should be
  refine ex_if (r := false) (et_w (show EvW _ _ _ _ (false || (false || false)) from ew_or (p := false) (et_as (et_not (et_val (ev_isD (x := webD n M) (t := "tuple") (r := true) g3 g4 (by decide +kernel) (ev_v 6) (show kitB "tuple" "tuple" = some true by decide +kernel)))) rfl) fun _ =>
    ew_or (et_cmp (ne_self hu (clean_web n M) (depth_web n M)) (ev_v 6) (ev_call D.due hr (ea_cons (ev_v 2) (ea_cons (ev_v 3) (ea_cons (ev_v 4) ea_nil))) ⟨n, allP n, M, bs, bl, hT, W.perm, W.asc, rfl, rfl⟩)) fun _ =>
      ew_or1 (et_as (et_not (et_val (ev_call D.isI hr (ea_cons (ev_ixT (ev_v 6) ev_int (atI_nat (j := 0) rfl)) ea_nil) ⟨_, rfl, rfl⟩))) rfl))) (fun z => nomatch z) fun _ => ex_nil ?_
  show Ex _ _ _ _ _
  let Iv : Nat → List Ent → Prop := fun m ρ => ∃ e7, ρ = [.d (.list (ns.map .int)), .d (.int sh), .d (.int n), .d (.list ((allP n).map pd)), .d (.list (bs.map .int)), .d (.int (numTo bs (T n))), .d (webD n M), e7, .un, .un, .un, .un, .un]
  refine ex_for rfl hp (wk_tup (xs := M.map pd) (ev_ixT (ev_v 6) ev_int (atI_nat (j := 1) rfl))) Iv ⟨.un, rfl⟩ (fun m x ρ1 hm hI => ?_) fun ρ1 hI => ?_
  · obtain ⟨e7, rfl⟩ := hI
    obtain ⟨r, _, rfl⟩ := List.mem_map.mp (List.mem_iff_getElem?.mpr ⟨m, hm⟩)
    refine ⟨[7], _, tg_name 7 scLaw.nd, ?_⟩
    refine ex_if (r := false) (et_w (show EvW _ _ _ _ (false || (false || false)) from ew_or (p := false) (et_as (et_not (et_val (ev_isD (x := pd r) (t := "tuple") (r := true) g3 g4 (by decide +kernel) (ev_v 7) (show kitB "tuple" "tuple" = some true by decide +kernel)))) rfl) fun _ =>
      ew_or (et_as (et_not (et_val (ev_call D.isI hr (ea_cons (ev_ixT (xs := [.int r.1, .int r.2]) (ev_v 7) ev_int (atI_nat (j := 0) rfl)) ea_nil) ⟨_, rfl, rfl⟩))) rfl) fun _ =>
      ew_or1 (et_as (et_not (et_val (ev_call D.isI hr (ea_cons (ev_ixT (xs := [.int r.1, .int r.2]) (ev_v 7) ev_int (atI_nat (j := 1) rfl)) ea_nil) ⟨_, rfl, rfl⟩))) rfl))) (fun z => nomatch z) fun _ => ex_nil ?_
    show Ex _ _ _ _ _
    exact ex_nil ⟨_, rfl⟩
  obtain ⟨e7, rfl⟩ := hI
  refine ex_un 7 ?_
  -- the code leads back
  refine ex_if (r := false) (et_w (show EvW _ _ _ _ (false || (false || false)) from ew_or (et_as (et_cmp cmp_ne (ev_call D.codeOf hr (ea_cons (ev_v 6) ea_nil) (cof W)) (ev_v 5)) (by simp)) fun _ =>
    ew_or (et_as (et_not (et_val (ev_call D.isI hr (ea_cons (ev_call D.codeOf hr (ea_cons (ev_v 6) ea_nil) (cof W)) ea_nil) ⟨_, rfl, rfl⟩))) rfl) fun _ =>
      ew_or1 (et_cmp (ne_self hu (clean_web n M) (depth_web n M)) (ev_call D.woc hr (ea_cons (ev_v 2) (ea_cons (ev_call D.codeOf hr (ea_cons (ev_v 6) ea_nil) (cof W)) ea_nil)) (woc W)) (ev_v 6)))) (fun z => nomatch z) fun _ => ex_nil ?_
  show Ex _ _ _ _ _
  -- the greatest code, and 0
  obtain ⟨M1, W1⟩ := web_ex hn (List.replicate (T n) 1)
  have n1 := ones_num (T n) (T n) (Nat.le_refl _)
  have woc1 := woc W1
  have cof1 := cof W1
  rw [n1] at woc1 cof1
  have pm1 : M1.Perm (allP n) := by have := W1.perm; rwa [ones_all] at this
  obtain ⟨M0, W0⟩ := web_ex hn []
  have woc0 := woc W0
  have cof0 := cof W0
  rw [none_num] at woc0 cof0
  have m0 : M0 = [] := by have := W0.perm; rw [none_chosen] at this; exact this.eq_nil
  subst m0
  refine ex_set 8 (x := .int (2 ^ T n)) (ev_as (ev_shl ev_int (ev_len (x := .list ((allP n).map pd)) rfl g2 (ev_v 3) trivial) ⟨by omega, by omega, by decide⟩) (by rw [ll, Int.toNat_natCast, Int.one_mul])) ?_ scLaw.nd
  refine ex_if (r := false) (et_w (show EvW _ _ _ _ (false || false) from
    ew_or (et_cmp (ne_self hu (clean_web n M1) (depth_web n M1)) (ev_call D.woc hr (ea_cons (ev_v 2) (ea_cons (ev_sub (ev_v 8) ev_int) ea_nil)) woc1) (ev_tup (ea_cons (ev_v 2) (ea_cons (ev_tupL (EvN.l (ev_sortP (allP n) M1 (EvD.l (ev_v 3)) pm1 (W1.asc.imp .inl) hr.units rfl g5)) rfl g4) ea_nil)) (by show 2 ≤ sizeLine; decide))) fun _ =>
      ew_or1 (et_as (et_cmp cmp_ne (ev_call D.codeOf hr (ea_cons (ev_tup (ea_cons (ev_v 2) (ea_cons (ev_tupL (EvN.l (ev_sortP (allP n) M1 (EvD.l (ev_v 3)) pm1 (W1.asc.imp .inl) hr.units rfl g5)) rfl g4) ea_nil)) (by show 2 ≤ sizeLine; decide)) ea_nil) cof1) (ev_sub (ev_v 8) ev_int)) (by simp)))) (fun z => nomatch z) fun _ => ex_nil ?_
  show Ex _ _ _ _ _
  refine ex_if (r := false) (et_w (show EvW _ _ _ _ (false || false) from
    ew_or (et_cmp (ne_self hu (clean_web n []) (depth_web n [])) (ev_call D.woc hr (ea_cons (ev_v 2) (ea_cons ev_int ea_nil)) woc0) (ev_tup (ea_cons (ev_v 2) (ea_cons (ev_tup ea_nil) ea_nil)) (by show 2 ≤ sizeLine; decide))) fun _ =>
      ew_or1 (et_as (et_cmp cmp_ne (ev_call D.codeOf hr (ea_cons (ev_tup (ea_cons (ev_v 2) (ea_cons (ev_tup ea_nil) ea_nil)) (by show 2 ≤ sizeLine; decide)) ea_nil) cof0) ev_int) (by simp)))) (fun z => nomatch z) fun _ => ex_nil ?_
  show Ex _ _ _ _ _
  -- two nodes
  refine ex_ifJ (fun ρ' => ∃ e9 e10, ρ' = [.d (.list (ns.map .int)), .d (.int sh), .d (.int n), .d (.list ((allP n).map pd)), .d (.list (bs.map .int)), .d (.int (numTo bs (T n))), .d (webD n M), .un, .d (.int (2 ^ T n)), e9, e10, .un, .un]) (et_cmp cmp_gt (ev_v 2) ev_int) (fun hc => ?_) (fun hc => ?_) ?_
  · have n0 : 0 < n := by have := of_decide_eq_true hc; omega
    refine ex_setN 9 (ev_callN D.draws hr (ea_cons (ev_v 0) (ea_cons ev_int (ea_cons ev_int (ea_cons ev_int ea_nil)))) ⟨ns, 3, 3, 64, hl0, by decide, by decide, by decide, rfl, rfl⟩) (ex_freeze 9 ?_) scLaw.nd
    have dl := draws_len (cellZ ns 3) 3 64
    generalize drawsZ (cellZ ns 3) 3 64 = ds at dl
    have node : ∀ m : Nat, ∃ a : Nat, ds.getD m 0 % (n : Int) = (a : Int) ∧ a < n := fun m => by
      have z1 := Int.emod_nonneg (ds.getD m 0) (show (n : Int) ≠ 0 by omega)
      have z2 := Int.emod_lt_of_pos (ds.getD m 0) (show (0 : Int) < n by omega)
      exact ⟨(ds.getD m 0 % (n : Int)).toNat, by omega, by omega⟩
    obtain ⟨a, ea, la⟩ := node 0
    obtain ⟨b, eb, lb⟩ := node 1
    obtain ⟨c, ec, lc⟩ := node 2
    refine ex_set 10 (x := pd ((a : Int), (b : Int))) (ev_tup (ea_cons (ev_as (ev_mod (ev_ixL (EvD.l (ev_v 9)) ev_int (ints_at (m := 0) (by omega))) (ev_v 2) (by omega)) (by rw [ea])) (ea_cons (ev_as (ev_mod (ev_ixL (EvD.l (ev_v 9)) ev_int (ints_at (m := 1) (by omega))) (ev_v 2) (by omega)) (by rw [eb])) ea_nil)) (by show 2 ≤ sizeLine; decide)) ?_ scLaw.nd
    refine ex_if (r := false) (et_as (et_not (et_val (ev_call D.counted hr (ea_cons (ev_v 3) (ea_cons (ev_v 10) (ea_cons (ev_tup (ea_cons (ev_as (ev_mod (ev_ixL (EvD.l (ev_v 9)) ev_int (ints_at (m := 2) (by omega))) (ev_v 2) (by omega)) (by rw [ec])) (ea_cons (ev_as (ev_mod (ev_ixL (EvD.l (ev_v 9)) ev_int (ints_at (m := 2) (by omega))) (ev_v 2) (by omega)) (by rw [ec])) ea_nil)) (by show 2 ≤ sizeLine; decide)) ea_nil)))
      ⟨allP n, ((a : Int), (b : Int)), ((c : Int), (c : Int)), hT, ⟨by show (0 : Int) ≤ (a : Int); omega, by show (0 : Int) ≤ (b : Int); omega, by show (a : Int) < 64; omega, by show (b : Int) < 64; omega⟩, ⟨by show (0 : Int) ≤ (c : Int); omega, by show (0 : Int) ≤ (c : Int); omega, by show (c : Int) < 64; omega, by show (c : Int) < 64; omega⟩, placed_all la lb, placed_all lc lc, rfl, rfl⟩))) rfl) (fun z => nomatch z) fun _ => ex_nil ?_
    show Ex _ _ _ _ _
    exact ex_nil ⟨_, _, rfl⟩
  · exact ex_nil ⟨_, _, rfl⟩
  rintro _ ⟨e9, e10, rfl⟩
  -- codes that are none, and too many nodes
  have p0 : (0 : Int) < 2 ^ T n := Int.pow_pos (by decide)
  have m0 : 0 ≤ cellZ ns 4 % 10 ^ (64 : Int).toNat := Int.emod_nonneg _ (by decide)
  refine ex_set 11 (ev_mod (ev_intI rfl g1 (ev_call D.cell hr (ea_cons (ev_v 0) (ea_cons ev_int ea_nil)) ⟨ns, 4, hl0, rfl, rfl⟩)) (ev_pow (i := 10) (j := 64) ev_int ev_int ⟨by decide, by decide, by decide⟩) (by decide)) ?_ scLaw.nd
  generalize cellZ ns 4 % 10 ^ (64 : Int).toNat = mo at m0
  have big : ∀ c : Int, S_refused [.int (65 + mo % 1000), .int c] (.ret (txt "large" 64)) := fun c => ⟨_, c, rfl, .inl ⟨by omega, rfl⟩⟩
  have bad : ∀ c : Int, (c < 0 ∨ 2 ^ T n ≤ c) → S_refused [.int n, .int c] (.ret (txt "code" c)) := fun c h => ⟨n, c, rfl, .inr (.inl ⟨by omega, by omega, by rw [T_of]; exact h, rfl⟩)⟩
  let Jv : Nat → List Ent → Prop := fun m ρ => ∃ e12, ρ = [.d (.list (ns.map .int)), .d (.int sh), .d (.int n), .d (.list ((allP n).map pd)), .d (.list (bs.map .int)), .d (.int (numTo bs (T n))), .d (webD n M), .un, .d (.int (2 ^ T n)), e9, e10, .d (.int mo), e12]
  refine ex_for rfl hp (wk_list (EvN.d (ev_lst (ea_cons (ev_sub (ev_neg ev_int) (ev_v 11)) (ea_cons (ev_v 8) (ea_cons (ev_add (ev_v 8) (ev_v 11)) ea_nil))) (by show 3 ≤ sizeLine; decide)))) Jv ⟨.un, rfl⟩ (fun m x ρ1 hm hJ => ?_) fun ρ1 hJ => ?_
  · obtain ⟨e12, rfl⟩ := hJ
    obtain ⟨c, rfl, hb⟩ : ∃ c : Int, x = .int c ∧ (c < 0 ∨ 2 ^ T n ≤ c) := by
      match m, hm with
      | 0, hm => cases hm; exact ⟨_, rfl, .inl (by omega)⟩
      | 1, hm => cases hm; exact ⟨_, rfl, .inr (by omega)⟩
      | 2, hm => cases hm; exact ⟨_, rfl, .inr (by omega)⟩
      | m + 3, hm => simp at hm
    refine ⟨[12], _, tg_name 12 scLaw.nd, ?_⟩
    refine ex_if (r := false) (et_w (show EvW _ _ _ _ (false || false) from
      ew_or (et_cmp (ne_self hu (clean_code c) (depth_txt _ c)) (ev_call D.refused hr (ea_cons (ev_v 2) (ea_cons (ev_v 12) ea_nil)) (bad c hb)) (ev_tup (ea_cons ev_str (ea_cons (ev_v 12) ea_nil)) (by show 2 ≤ sizeLine; decide))) fun _ =>
        ew_or1 (et_cmp (ne_self hu (clean_large 64) (depth_txt _ 64)) (ev_call D.refused hr (ea_cons (ev_add ev_int (ev_mod (ev_v 11) ev_int (by decide))) (ea_cons (ev_v 12) ea_nil)) (big c)) (ev_tup (ea_cons ev_str (ea_cons ev_int ea_nil)) (by show 2 ≤ sizeLine; decide))))) (fun z => nomatch z) fun _ => ex_nil ?_
    show Ex _ _ _ _ _
    exact ex_nil ⟨_, rfl⟩
  obtain ⟨e12, rfl⟩ := hJ
  refine ex_ret (ev_andV (p := true) (q := true) (ev_cmp (eq_self hu (clean_large 64) (depth_txt _ 64)) (ev_call D.refused hr (ea_cons (ev_add ev_int (ev_mod (ev_v 11) ev_int (by decide))) (ea_cons (ev_v 5) ea_nil)) (big _)) (ev_tup (ea_cons ev_str (ea_cons ev_int ea_nil)) (by show 2 ≤ sizeLine; decide))) fun _ =>
    ev_one (ev_cmp cmp_isN (ev_call D.refused hr (ea_cons (ev_v 2) (ea_cons (ev_v 5) ea_nil)) ⟨n, _, rfl, .inr (.inr ⟨by omega, by omega, bd.1, by rw [T_of]; exact bd.2, ⟨M, W.asc, W.same, W.few⟩, rfl⟩)⟩) ev_none)) rfl
end
end K5

/-! KE1: law k05: all defs together. -/
namespace K5
open PySem PySem.Spec L2 Wn Ws Wq
open PyProof.Rows hiding St
theorem err_mk {K : PySem.W.Frag} {h : Heap} {mg : Str → Option Value} {q fld : Str} {st : Stmt} {C fI cda cc N : Addr} {nm q0 : Str} {bs bm sub0 : List Value} {sn : List Str} {ab : Bool} {col : Option Bool} {dd : Option Addr} {m0 m1 m2 m3 m5 : Option Value} {cd : ClassData}
    {oc kV doc pm ct o1 o2 : Value} {od an d1 d2 : Option Addr} {osl s1 s2 : Array (Option Value)} {vs : Array Value} {file : Str} {tf : Tok} (X : K.In h) (G : h.Ns mainGlobals mg)
    (iC : PySem.W.findIn K (.ref C) "__init__" = some (some (.ref fI)))
    (lI : K.lookup fI = some ⟨oc, od, .func (PySem.W.ksFn "__init__" q (defArgs st) (defBody st) (defScope st) .none kV doc pm an (.ref cda) ct cc), osl⟩) (cI : PySem.W.codeIn K (.ref cda) q = true)
    (lc : K.lookup cda = some ⟨o1, d1, .fields vs, s1⟩) (lv : vs[2]? = some (.str file tf)) (lf : ((P5.main.file : Str) == file) = true) (lk : K.lookup cc = some ⟨o2, d2, .cell (some (.ref C)), s2⟩)
    (xL : K.lookup C = some (excClassObj nm q0 C N bs bm true sn sub0 ab col dd m0 m1 m2 m3 m5 "ValueError.__new__")) (xr : PySem.HandSPX.refsVE bm = true)
    (sa : PySem.W.findIn K (.ref C) "__setattr__" = some (some (.builtin "object.__setattr__"))) (eC : PySem.W.subIn K (.ref C) (.type "BaseException") = some true) (tC : PySem.W.typeIn K (.ref C) = some (.type "type")) (kC : PySem.W.keepIn K (.ref C) = true)
    (cl : PySem.W.clsIn K C = some cd) (mr : PySem.W.mroIn K C (.ref C) = some true) (ns : PySem.W.nsIn K mainGlobals "super" = some none) (op : PySem.W.nsIn K cStatics "thirdparty.any" = some none)
    (si : PySem.W.ks_superIn K C C "__init__" = some (some (.builtin "ValueError.__init__"))) (iV : PySem.W.subIn K (.ref C) (.type "ValueError") = some true) (nF : PySem.W.findIn K (.ref C) fld = some none) (tI : PySem.W.typeIn K (.ref fI) = some (.type "function")) :
    ErrT P5 K mg q fld st C fI (PySem.W.ksFn "__init__" q (defArgs st) (defBody st) (defScope st) .none kV doc pm an (.ref cda) ct cc) :=
  { ex := ⟨oc, od, kV, doc, pm, an, cda, cc, ct, osl, o1, o2, d1, d2, s1, s2, vs, file, tf, rfl, lI, cI, lc, lv, lf, lk⟩, oex := ⟨⟨nm, q0, N, bs, bm, sn, sub0, ab, col, dd, m0, m1, m2, m3, m5, xL, xr⟩, sa, eC, tC, kC⟩, clsI := ⟨cd, cl⟩, sub := mr, nsup := ns, msup := PySem.W.mg_none_of X G ns, opq := op, sin := si, isV := iV, noF := nF, init := iC, tyI := tI, mC := trivial }
end K5

/-! KE2: law k05: all defs together, from the facts of the written part. -/
namespace K5
open PySem PySem.Spec L2 Wn Ws Wq
open PyProof.Rows hiding St
theorem tab_code {K : PySem.W.Frag} {f c T : Addr} {n : Str} (a : PySem.W.nsIn K mainGlobals n = some (some (.ref f))) (t : PySem.W.tabIn K n = some (c, T)) (o : Obj) (fd : FuncData) (lo : K.lookup f = some o) (ho : o.data = .func fd) : fd.code = .ref c := by
  unfold PySem.W.tabIn at t
  rw [a] at t
  obtain ⟨c0, d0, dt, sl⟩ := o
  cases ho
  dsimp only at t
  rw [lo] at t
  dsimp only at t
  split at t
  · rename_i c' e
    rw [e]
    split at t
    · split at t
      · cases t; rfl
      · cases t
    · cases t
  · cases t
theorem errs_mk {K : PySem.W.Frag} {h : Heap} {mg : Str → Option Value} {CL CC CW CU CN : Addr} (X : K.In h) (G : h.Ns mainGlobals mg) (aC : PySem.W.nsIn K mainGlobals "InvalidCode" = some (some (.ref CC))) (aL : PySem.W.nsIn K mainGlobals "TooLarge" = some (some (.ref CL)))
    (aW : PySem.W.nsIn K mainGlobals "WebError" = some (some (.ref CW))) (aU : PySem.W.nsIn K mainGlobals "UnfitWeb" = some (some (.ref CU))) (aN : PySem.W.nsIn K mainGlobals "NoResult" = some (some (.ref CN)))
    (isC : IsE K CC) (isL : IsE K CL) (xC : XfC K CC) (xL : XfC K CL) (fC : PySem.W.findIn K (.ref CC) "code" = some none) (fL : PySem.W.findIn K (.ref CL) "limit" = some none)
    (eC : PySem.W.exmOne K (.ref CC) (.ref CW) = some true) (eL : PySem.W.exmOne K (.ref CL) (.ref CW) = some true)
    (cN : PySem.W.kitOne K (.ref CC) (.ref CN) = some false) (cU : PySem.W.kitOne K (.ref CC) (.ref CU) = some false) (cV : PySem.W.kitOne K (.ref CC) (.type "ValueError") = some true) (cC : PySem.W.kitOne K (.ref CC) (.ref CC) = some true) (cL : PySem.W.kitOne K (.ref CC) (.ref CL) = some false)
    (lN : PySem.W.kitOne K (.ref CL) (.ref CN) = some false) (lU : PySem.W.kitOne K (.ref CL) (.ref CU) = some false) (lV : PySem.W.kitOne K (.ref CL) (.type "ValueError") = some true) (lC : PySem.W.kitOne K (.ref CL) (.ref CC) = some false) (lL : PySem.W.kitOne K (.ref CL) (.ref CL) = some true) :
    Errs K mg CL CC CW CU CN :=
  ⟨PySem.W.mg_of X G aW, PySem.W.mg_of X G aU, PySem.W.mg_of X G aN, PySem.W.mg_of X G aC, PySem.W.mg_of X G aL, isC, isL, xC, xL, fC, fL, eC, eL, cN, cU, cV, cC, cL, lN, lU, lV, lC, lL⟩
theorem all_mk {q : Program} {w : World} {K : PySem.W.Frag} {h : Heap} {mg : Str → Option Value} {fa c T CC CL CW CU CN fIC fIL : Addr} {dC dL : FuncData} {t : Tok} (X : K.In h) (G : h.Ns mainGlobals mg) (hfa : mg "law" = some (.ref fa))
    {f8 f9 f11 f12 f13 f14 f16 f17 f18 f19 f20 f21 f22 f23 f24 : Addr} {d8 d9 d11 d12 d13 d14 d16 d17 d18 d19 d20 d21 d22 d23 d24 : FuncData}
    (a8 : PySem.W.nsIn K mainGlobals "check_size" = some (some (.ref f8))) (F8 : Fun K "check_size" "check_size" (top 8) f8 d8)
    (a9 : PySem.W.nsIn K mainGlobals "web_of_pairs" = some (some (.ref f9))) (F9 : Fun K "web_of_pairs" "web_of_pairs" (top 9) f9 d9)
    (a11 : PySem.W.nsIn K mainGlobals "bit_of" = some (some (.ref f11))) (F11 : Fun K "bit_of" "bit_of" (top 11) f11 d11)
    (a12 : PySem.W.nsIn K mainGlobals "code_of" = some (some (.ref f12))) (F12 : Fun K "code_of" "code_of" (top 12) f12 d12)
    (a13 : PySem.W.nsIn K mainGlobals "web_of_code" = some (some (.ref f13))) (F13 : Fun K "web_of_code" "web_of_code" (top 13) f13 d13)
    (a14 : PySem.W.nsIn K mainGlobals "count_bits" = some (some (.ref f14))) (F14 : Fun K "count_bits" "count_bits" (top 14) f14 d14)
    (a16 : PySem.W.nsIn K mainGlobals "_law_cell" = some (some (.ref f16))) (F16 : Fun K "_law_cell" "_law_cell" (top 16) f16 d16)
    (a17 : PySem.W.nsIn K mainGlobals "_law_draws" = some (some (.ref f17))) (F17 : Fun K "_law_draws" "_law_draws" (top 17) f17 d17)
    (a18 : PySem.W.nsIn K mainGlobals "_law_is_integer" = some (some (.ref f18))) (F18 : Fun K "_law_is_integer" "_law_is_integer" (top 18) f18 d18)
    (a19 : PySem.W.nsIn K mainGlobals "_law_pairs" = some (some (.ref f19))) (F19 : Fun K "_law_pairs" "_law_pairs" (top 19) f19 d19)
    (a20 : PySem.W.nsIn K mainGlobals "_law_number" = some (some (.ref f20))) (F20 : Fun K "_law_number" "_law_number" (top 20) f20 d20)
    (a21 : PySem.W.nsIn K mainGlobals "_law_due" = some (some (.ref f21))) (F21 : Fun K "_law_due" "_law_due" (top 21) f21 d21)
    (a22 : PySem.W.nsIn K mainGlobals "_law_refused" = some (some (.ref f22))) (F22 : Fun K "_law_refused" "_law_refused" (top 22) f22 d22)
    (a23 : PySem.W.nsIn K mainGlobals "_law_bits" = some (some (.ref f23))) (F23 : Fun K "_law_bits" "_law_bits" (top 23) f23 d23)
    (a24 : PySem.W.nsIn K mainGlobals "_law_counted" = some (some (.ref f24))) (F24 : Fun K "_law_counted" "_law_counted" (top 24) f24 d24)
    {f25 : Addr} {od25 an25 : Option Addr} {sl25 : Array (Option Value)} {oc25 kV25 dc25 pm25 cd25 ct25 : Value}
    (a25 : PySem.W.nsIn K mainGlobals "law" = some (some (.ref f25))) (l25 : K.lookup f25 = some ⟨oc25, od25, .func (PySem.W.fnOf "law" "law" (defArgs (top 25)) (defBody (top 25)) (defScope (top 25)) .none kV25 dc25 pm25 an25 cd25 ct25), sl25⟩) (c25 : PySem.W.codeIn K cd25 "law" = true) (k25 : PySem.W.keepIn K (.ref f25) = true)
    (aC : PySem.W.nsIn K mainGlobals "InvalidCode" = some (some (.ref CC))) (EC : ErrT P5 K mg "InvalidCode.__init__" "code" iCode CC fIC dC) (BC : Binds K dC ["self", "code"] [])
    (aL : PySem.W.nsIn K mainGlobals "TooLarge" = some (some (.ref CL))) (EL : ErrT P5 K mg "TooLarge.__init__" "limit" iLarge CL fIL dL) (BL : Binds K dL ["self", "limit"] [])
    (ER : Errs K mg CL CC CW CU CN) (mx : PySem.W.nsIn K mainGlobals "MAX_NODES" = some (some (.int 64 t)))
    (z_max : PySem.W.nsIn K mainGlobals "max" = some none) (z_min : PySem.W.nsIn K mainGlobals "min" = some none) (z_sorted : PySem.W.nsIn K mainGlobals "sorted" = some none) (z_tuple : PySem.W.nsIn K mainGlobals "tuple" = some none) (z_sum : PySem.W.nsIn K mainGlobals "sum" = some none) (z_range : PySem.W.nsIn K mainGlobals "range" = some none) (z_len : PySem.W.nsIn K mainGlobals "len" = some none) (z_abs : PySem.W.nsIn K mainGlobals "abs" = some none) (z_int : PySem.W.nsIn K mainGlobals "int" = some none) (z_isinstance : PySem.W.nsIn K mainGlobals "isinstance" = some none) (z_bool : PySem.W.nsIn K mainGlobals "bool" = some none) (z_ValueError : PySem.W.nsIn K mainGlobals "ValueError" = some none)
    (rc : ((recsOf q).find? (fun e => e.name == ("code_of" : Str))).isSome = true) (tb : PySem.W.tabIn K "code_of" = some (c, T)) (nT : K.lookup T = none)
    (tab : ∀ (nm : Str) (e : DefRec) (c T : Addr), (recsOf q).find? (fun e => e.name == nm) = some e → PySem.W.tabIn K nm = some (c, T) → PySem.W.CodeHd h c T ∧ h.get? T = some { cls := .none, data := .fields #[] }) :
    ∃ (fd : FuncData) (cs : List (Addr × Addr)), (∀ p ∈ cs, h.get? p.2 = some { cls := .none, data := .fields #[] }) ∧ (∀ p ∈ cs, K.lookup p.2 = none) ∧ (∀ p ∈ cs, PySem.W.CodeHd h p.1 p.2) ∧ (∀ (s : Shared) (u : Value), BindsTo s fd ⟨[u], []⟩ [("_law_script", u)]) ∧
      ∀ base : Heap, L2.Mod K mg base → (∀ p ∈ cs, GxR.TabB base mg p.1 p.2) → FnOk P5 w K mg base (L2.CX P5 w) 12 fa fd ["_law_script"] (spD K (cs.map Prod.snd) S_true) := by
  have e := hfa.symm.trans (PySem.W.mg_of X G a25)
  cases e
  obtain ⟨e, he⟩ := Option.isSome_iff_exists.mp rc
  obtain ⟨hC, hT⟩ := tab "code_of" e c T he tb
  have F25 := fun_mk (st := top 25) l25 c25 k25
  have g : ∀ n : Str, PySem.W.nsIn K mainGlobals n = some none → mg n = none := fun n => PySem.W.mg_none_of X G
  have B8 : Binds K d8 ["size"] [] := F8.binds fun _ _ _ _ _ _ us hl => match us, hl with | [_], _ => rfl
  have B9 : Binds K d9 ["size", "pairs"] [] := F9.binds fun _ _ _ _ _ _ us hl => match us, hl with | [_, _], _ => rfl
  have B11 : Binds K d11 ["first", "second"] [] := F11.binds fun _ _ _ _ _ _ us hl => match us, hl with | [_, _], _ => rfl
  have B12 : Binds K d12 ["web"] [] := F12.binds fun _ _ _ _ _ _ us hl => match us, hl with | [_], _ => rfl
  have B13 : Binds K d13 ["size", "code"] [] := F13.binds fun _ _ _ _ _ _ us hl => match us, hl with | [_, _], _ => rfl
  have B14 : Binds K d14 ["size"] [] := F14.binds fun _ _ _ _ _ _ us hl => match us, hl with | [_], _ => rfl
  have B16 : Binds K d16 ["_law_script", "_law_place"] [] := F16.binds fun _ _ _ _ _ _ us hl => match us, hl with | [_, _], _ => rfl
  have B17 : Binds K d17 ["_law_script", "_law_place", "_law_count", "_law_base"] [] := F17.binds fun _ _ _ _ _ _ us hl => match us, hl with | [_, _, _, _], _ => rfl
  have B18 : Binds K d18 ["_law_value"] [] := F18.binds fun _ _ _ _ _ _ us hl => match us, hl with | [_], _ => rfl
  have B19 : Binds K d19 ["_law_size"] [] := F19.binds fun _ _ _ _ _ _ us hl => match us, hl with | [_], _ => rfl
  have B20 : Binds K d20 ["_law_bits_here"] [] := F20.binds fun _ _ _ _ _ _ us hl => match us, hl with | [_], _ => rfl
  have B21 : Binds K d21 ["_law_size", "_law_pairs_here", "_law_bits_here"] [] := F21.binds fun _ _ _ _ _ _ us hl => match us, hl with | [_, _, _], _ => rfl
  have B22 : Binds K d22 ["_law_size", "_law_code"] [] := F22.binds fun _ _ _ _ _ _ us hl => match us, hl with | [_, _], _ => rfl
  have B23 : Binds K d23 ["_law_script", "_law_shape", "_law_count"] [] := F23.binds fun _ _ _ _ _ _ us hl => match us, hl with | [_, _, _], _ => rfl
  have B24 : Binds K d24 ["_law_pairs_here", "_law_first", "_law_second"] [] := F24.binds fun _ _ _ _ _ _ us hl => match us, hl with | [_, _, _], _ => rfl
  refine ⟨PySem.W.fnOf "law" "law" (defArgs (top 25)) (defBody (top 25)) (defScope (top 25)) .none kV25 dc25 pm25 an25 cd25 ct25, [(c, T)], fun p hp => ?_, fun p hp => ?_, fun p hp => ?_, fun s u => .of_eq rfl, fun base M TB => ?_⟩
  · cases List.mem_singleton.mp hp; exact hT
  · cases List.mem_singleton.mp hp; exact nT
  · cases List.mem_singleton.mp hp; exact hC
  have e1 : ErrOk P5 w K mg base "InvalidCode" 1 CC "code" fun _ => True := ⟨EC.oex, PySem.W.mg_of X G aC, fIC, dC, EC.init, EC.tyI, ok_code (k := 0) EC, BC⟩
  have e2 : ErrOk P5 w K mg base "TooLarge" 1 CL "limit" fun v => v = .int 64 := ⟨EL.oex, PySem.W.mg_of X G aL, fIL, dL, EL.init, EL.tyI, ok_large (k := 0) EL, BL⟩
  have D8 : DefOk P5 w K mg base [T] "check_size" 4 _ := def_mk X G a8 F8.kp (ok_check (k := 1) F8 e2 (PySem.W.mg_of X G mx)) B8
  have D14 : DefOk P5 w K mg base [T] "count_bits" 1 _ := def_mk X G a14 F14.kp (ok_count (k := 0) F14) B14
  have D11 : DefOk P5 w K mg base [T] "bit_of" 1 _ := def_mk X G a11 F11.kp (ok_bit (k := 0) F11 (g _ z_max) (g _ z_min)) B11
  have D9 : DefOk P5 w K mg base [T] "web_of_pairs" 1 _ := def_mk X G a9 F9.kp (ok_web (k := 0) F9 (g _ z_max) (g _ z_min) (g _ z_sorted) (g _ z_tuple)) B9
  have D12 : DefOk P5 w K mg base [T] "code_of" 3 _ := def_mk X G a12 F12.kp (ok_codeOf (k := 0) M F12 (tab_code a12 tb) (TB _ (List.mem_singleton.mpr rfl)) (List.mem_singleton.mpr rfl) F11 B11 (PySem.W.mg_of X G a11) F11.kp (g _ z_max) (g _ z_min) (g _ z_sum)) B12
  have D13 : DefOk P5 w K mg base [T] "web_of_code" 10 _ := def_mk X G a13 F13.kp (ok_woc (k := 1) F13 (D8.mono (by decide)) (D14.mono (by decide)) (D11.mono (by decide)) (D9.mono (by decide)) e1 (g _ z_range)) B13
  have D16 : DefOk P5 w K mg base [T] "_law_cell" 1 _ := def_mk X G a16 F16.kp (ok_cell (k := 0) F16 (g _ z_len) (g _ z_abs) (g _ z_int)) B16
  have D18 : DefOk P5 w K mg base [T] "_law_is_integer" 1 _ := def_mk X G a18 F18.kp (ok_is (k := 0) F18 (g _ z_isinstance) (g _ z_int) (g _ z_bool)) B18
  have D17 : DefOk P5 w K mg base [T] "_law_draws" 9 _ := def_mk X G a17 F17.kp (ok_draws (k := 0) F17 (D16.mono (by decide)) (g _ z_range) (g _ z_int)) B17
  have D19 : DefOk P5 w K mg base [T] "_law_pairs" 1 _ := def_mk X G a19 F19.kp (ok_pairs (k := 0) F19 (g _ z_range)) B19
  have D20 : DefOk P5 w K mg base [T] "_law_number" 1 _ := def_mk X G a20 F20.kp (ok_number (k := 0) F20 (g _ z_range) (g _ z_len)) B20
  have D21 : DefOk P5 w K mg base [T] "_law_due" 1 _ := def_mk X G a21 F21.kp (ok_due (k := 0) F21 (g _ z_range) (g _ z_len) (g _ z_sorted) (g _ z_tuple)) B21
  have D23 : DefOk P5 w K mg base [T] "_law_bits" 10 _ := def_mk X G a23 F23.kp (ok_bits (k := 1) F23 (D17.mono (by decide)) (g _ z_range)) B23
  have D24 : DefOk P5 w K mg base [T] "_law_counted" 9 _ := def_mk X G a24 F24.kp (ok_counted (k := 0) F24 (D11.mono (by decide)) (D18.mono (by decide)) (g _ z_max) (g _ z_min)) B24
  have D22 : DefOk P5 w K mg base [T] "_law_refused" 11 _ := def_mk X G a22 F22.kp (ok_refused (k := 2) F22 (D13.mono (by decide)) ER (g _ z_isinstance) (g _ z_ValueError)) B22
  have D : Defs w K mg base [T] 3 CL CC := ⟨(D16.mono (by decide)), (D17.mono (by decide)), (D18.mono (by decide)), (D19.mono (by decide)), (D20.mono (by decide)), (D21.mono (by decide)), (D22.mono (by decide)), (D23.mono (by decide)), (D24.mono (by decide)), (D13.mono (by decide)), (D12.mono (by decide))⟩
  exact ok_law (k := 3) F25 D (g _ z_int) (g _ z_len) (g _ z_isinstance) (g _ z_tuple) (g _ z_sorted)
end K5

open PySem PyProof.Rows PySem.W
set_option maxHeartbeats 0 in
theorem PySem.Challenge.cw_webnumbers_k05_codes_there_and_back_holds : PySem.Challenge.rw_webnumbers_k05_codes_there_and_back.Holds := by
  w_on; o_law
  k_head; (case hw => w_witness2)
  k_fill
  refine Ws.walkDT (l := PySem.Challenge.rw_webnumbers_k05_codes_there_and_back) 12 "_law_script" rfl rfl ⟨rfl, by decide, by decide⟩ (fun w h Y => PySem.W.kIn_of Y) ?F
  case F =>
    intro w mg fa h KX G hmg tab
    refine' K5.all_mk KX G hmg ?a8 (L2.fun_mk ?l8 ?c8 ?k8) ?a9 (L2.fun_mk ?l9 ?c9 ?k9) ?a11 (L2.fun_mk ?l11 ?c11 ?k11) ?a12 (L2.fun_mk ?l12 ?c12 ?k12) ?a13 (L2.fun_mk ?l13 ?c13 ?k13) ?a14 (L2.fun_mk ?l14 ?c14 ?k14) ?a16 (L2.fun_mk ?l16 ?c16 ?k16) ?a17 (L2.fun_mk ?l17 ?c17 ?k17) ?a18 (L2.fun_mk ?l18 ?c18 ?k18) ?a19 (L2.fun_mk ?l19 ?c19 ?k19) ?a20 (L2.fun_mk ?l20 ?c20 ?k20) ?a21 (L2.fun_mk ?l21 ?c21 ?k21) ?a22 (L2.fun_mk ?l22 ?c22 ?k22) ?a23 (L2.fun_mk ?l23 ?c23 ?k23) ?a24 (L2.fun_mk ?l24 ?c24 ?k24) ?a25 ?l25 ?c25 ?k25 ?aC (K5.err_mk KX G ?iC_C ?lI_C ?cI_C ?lc_C ?lv_C ?lf_C ?lk_C ?xL_C ?xr_C ?sa_C ?eC_C ?tC_C ?kC_C ?cl_C ?mr_C ?ns_C ?op_C ?si_C ?iV_C ?nF_C ?tI_C) (.all fun us hl => match us, hl with | [_, _], _ => rfl) ?aL (K5.err_mk KX G ?iC_L ?lI_L ?cI_L ?lc_L ?lv_L ?lf_L ?lk_L ?xL_L ?xr_L ?sa_L ?eC_L ?tC_L ?kC_L ?cl_L ?mr_L ?ns_L ?op_L ?si_L ?iV_L ?nF_L ?tI_L) (.all fun us hl => match us, hl with | [_, _], _ => rfl) (K5.errs_mk KX G ?aC2 ?aL2 ?aW ?aU ?aN ⟨?is_cl_C, ?is_ga_C, ?is_gt_C, ?is_hs_C, ?is_hd_C, ?is_ha_C, ?is_hn_C, ?is_ht_C, ?is_hm_C⟩ ⟨?is_cl_L, ?is_ga_L, ?is_gt_L, ?is_hs_L, ?is_hd_L, ?is_ha_L, ?is_hn_L, ?is_ht_L, ?is_hm_L⟩ ⟨?xf_ga_C, ?xf_gg_C, ?xf_exC_C, ?xf_hdC_C⟩ ⟨?xf_ga_L, ?xf_gg_L, ?xf_exC_L, ?xf_hdC_L⟩ ?q_fC ?q_fL ?q_eC ?q_eL ?q_cN ?q_cU ?q_cV ?q_cC ?q_cL ?q_lN ?q_lU ?q_lV ?q_lC ?q_lL) ?mx ?z_max ?z_min ?z_sorted ?z_tuple ?z_sum ?z_range ?z_len ?z_abs ?z_int ?z_isinstance ?z_bool ?z_ValueError ?rc ?tb ?nT tab
    (case a8 => k_is)
    (case l8 => k_is)
    (case c8 => k_is)
    (case k8 => k_is)
    (case a9 => k_is)
    (case l9 => k_is)
    (case c9 => k_is)
    (case k9 => k_is)
    (case a11 => k_is)
    (case l11 => k_is)
    (case c11 => k_is)
    (case k11 => k_is)
    (case a12 => k_is)
    (case l12 => k_is)
    (case c12 => k_is)
    (case k12 => k_is)
    (case a13 => k_is)
    (case l13 => k_is)
    (case c13 => k_is)
    (case k13 => k_is)
    (case a14 => k_is)
    (case l14 => k_is)
    (case c14 => k_is)
    (case k14 => k_is)
    (case a16 => k_is)
    (case l16 => k_is)
    (case c16 => k_is)
    (case k16 => k_is)
    (case a17 => k_is)
    (case l17 => k_is)
    (case c17 => k_is)
    (case k17 => k_is)
    (case a18 => k_is)
    (case l18 => k_is)
    (case c18 => k_is)
    (case k18 => k_is)
    (case a19 => k_is)
    (case l19 => k_is)
    (case c19 => k_is)
    (case k19 => k_is)
    (case a20 => k_is)
    (case l20 => k_is)
    (case c20 => k_is)
    (case k20 => k_is)
    (case a21 => k_is)
    (case l21 => k_is)
    (case c21 => k_is)
    (case k21 => k_is)
    (case a22 => k_is)
    (case l22 => k_is)
    (case c22 => k_is)
    (case k22 => k_is)
    (case a23 => k_is)
    (case l23 => k_is)
    (case c23 => k_is)
    (case k23 => k_is)
    (case a24 => k_is)
    (case l24 => k_is)
    (case c24 => k_is)
    (case k24 => k_is)
    (case a25 => k_is)
    (case l25 => k_is)
    (case c25 => k_is)
    (case k25 => k_is)
    (case aC => k_is)
    (case iC_C => k_is)
    (case lI_C => k_is)
    (case cI_C => k_is)
    (case lc_C => k_is)
    (case lv_C => first | rfl | k_is)
    (case lf_C => first | decide +kernel | k_is)
    (case lk_C => k_is)
    (case xL_C => k_is)
    (case xr_C => first | decide +kernel | k_is)
    (case sa_C => k_is)
    (case eC_C => k_is)
    (case tC_C => k_is)
    (case kC_C => k_is)
    (case cl_C => k_is)
    (case mr_C => k_is)
    (case ns_C => k_is)
    (case op_C => k_is)
    (case si_C => first | kernel_rfl | k_is)
    (case iV_C => k_is)
    (case nF_C => k_is)
    (case tI_C => k_is)
    (case aL => k_is)
    (case iC_L => k_is)
    (case lI_L => k_is)
    (case cI_L => k_is)
    (case lc_L => k_is)
    (case lv_L => first | rfl | k_is)
    (case lf_L => first | decide +kernel | k_is)
    (case lk_L => k_is)
    (case xL_L => k_is)
    (case xr_L => first | decide +kernel | k_is)
    (case sa_L => k_is)
    (case eC_L => k_is)
    (case tC_L => k_is)
    (case kC_L => k_is)
    (case cl_L => k_is)
    (case mr_L => k_is)
    (case ns_L => k_is)
    (case op_L => k_is)
    (case si_L => first | kernel_rfl | k_is)
    (case iV_L => k_is)
    (case nF_L => k_is)
    (case tI_L => k_is)
    (case aC2 => k_is)
    (case aL2 => k_is)
    (case aW => k_is)
    (case aU => k_is)
    (case aN => k_is)
    (case is_cl_C => first | kernel_rfl | k_is)
    (case is_ga_C => k_is)
    (case is_gt_C => k_is)
    (case is_hs_C => k_is)
    (case is_hd_C => k_is)
    (case is_ha_C => k_is)
    (case is_hn_C => k_is)
    (case is_ht_C => k_is)
    (case is_hm_C => k_is)
    (case is_cl_L => first | kernel_rfl | k_is)
    (case is_ga_L => k_is)
    (case is_gt_L => k_is)
    (case is_hs_L => k_is)
    (case is_hd_L => k_is)
    (case is_ha_L => k_is)
    (case is_hn_L => k_is)
    (case is_ht_L => k_is)
    (case is_hm_L => k_is)
    (case xf_ga_C => k_is)
    (case xf_gg_C => k_is)
    (case xf_exC_C => k_is)
    (case xf_hdC_C => k_is)
    (case xf_ga_L => k_is)
    (case xf_gg_L => k_is)
    (case xf_exC_L => k_is)
    (case xf_hdC_L => k_is)
    (case q_fC => k_is)
    (case q_fL => k_is)
    (case q_eC => first | kernel_rfl | k_is)
    (case q_eL => first | kernel_rfl | k_is)
    (case q_cN => first | kernel_rfl | k_is)
    (case q_cU => first | kernel_rfl | k_is)
    (case q_cV => first | kernel_rfl | k_is)
    (case q_cC => first | kernel_rfl | k_is)
    (case q_cL => first | kernel_rfl | k_is)
    (case q_lN => first | kernel_rfl | k_is)
    (case q_lU => first | kernel_rfl | k_is)
    (case q_lV => first | kernel_rfl | k_is)
    (case q_lC => first | kernel_rfl | k_is)
    (case q_lL => first | kernel_rfl | k_is)
    (case mx => k_is)
    (case z_max => k_is)
    (case z_min => k_is)
    (case z_sorted => k_is)
    (case z_tuple => k_is)
    (case z_sum => k_is)
    (case z_range => k_is)
    (case z_len => k_is)
    (case z_abs => k_is)
    (case z_int => k_is)
    (case z_isinstance => k_is)
    (case z_bool => k_is)
    (case z_ValueError => k_is)
    (case rc => first | decide +kernel | k_is)
    (case tb => first | rfl | k_is)
    (case nT => first | kernel_rfl | k_is)

