
import PyProof.Rows.All
import Wide.All
import OpenK.AllK
import Wide.FinOn
import HandS.ForMost
import HandS.Flow
import HandS.IsInst
import HandS.Zip
import HandS.SortInts
import HandS.Defaults
import HandS.Conv
import HandS.Strs
import HandS.MakeKwOnly
import PyProof.ReprRoads
import HandS.SetFor
import HandS.SortKw
import KE.DataMinMax
import KE.KDictPairs
import PyProof.ReprLen
import HandS.Exc
import HandS.WordsExc
import HandS.ExcOwn
import HandS.ExcInit
import KE.KExcIs
import HandS.ExcIs
import HandS.ExcField
import KE.KTryMore
import KE.KExcInit
import PyProof.ExcBaseAll.IndexError
import PyProof.ExcBaseAll.RuntimeError
import PyProof.ExcBaseAll.OverflowError
import HandS.ExcBuiltin
import HandS.Codes
import HandS.Walk
import HandS.TupAny
import HandS.More
import KE.GoesMore
import HandS.DictComp
import HandS.WordsDict
import HandS.SortRule
import HandS.Style
import PyProof.ReprBulk
import PySem.Challenge.RW_lesserhall_k50_house_turns_beats_rests
set_option Elab.async false
set_option linter.all false
set_option maxRecDepth 100000

namespace Lh
open PySem PySem.Spec PyProof.Rows L2

/-! ### heaps -/
/-- all that was tracked is as it was, but for the box -/
def Ext (bx : Addr) (H H' : Hp) : Prop := ∀ a o, a ≠ bx → H a = some o → H' a = some o
theorem Ext.refl {bx : Addr} (H : Hp) : Ext bx H H := fun _ _ _ h => h
theorem Ext.trans {bx : Addr} {H H1 H2 : Hp} (a : Ext bx H H1) (b : Ext bx H1 H2) : Ext bx H H2 := fun x o n h => b x o n (a x o n h)
theorem Ext.of {bx : Addr} {H H' : Hp} (a : Same H H') : Ext bx H H' := fun x o _ h => a x o h
theorem Ext.new {bx : Addr} {H H' : Hp} {p : Addr} {o : HO} (e : Ext bx H H') (h : H p = none) : Ext bx H (upd H' p o) := fun x u n hx => by
  rw [upd_ne (ne_of_none hx h)]
  exact e x u n hx
theorem Ext.box {bx : Addr} {H H' : Hp} {o : HO} (e : Ext bx H H') : Ext bx H (upd H' bx o) := fun x u n hx => by
  rw [upd_ne n]
  exact e x u n hx
theorem Ext.free {bx : Addr} {H H' : Hp} (e : Ext bx H H') {l : Addr} (n : l ≠ bx) (h : H' l = Option.none) : H l = Option.none := by
  cases q : H l with
  | none => rfl
  | some o =>
    rw [e l o n q] at h
    cases h
theorem same_upd {H : Hp} {p : Addr} {o : HO} (h : H p = none) : Same H (upd H p o) := fun b x e => by
  rw [upd_ne (ne_of_none e h)]
  exact e
theorem same_mut {H H' : Hp} {p : Addr} {o : HO} (e : Same H H') (h : H p = none) : Same H (upd H' p o) := fun a u ha => by
  rw [upd_ne (ne_of_none ha h)]
  exact e a u ha

/-- the box: three ints, the last a count -/
def Box (bx : Addr) (c : Int) (H : Hp) : Prop := ∃ a b n : Int, H bx = some (.lst [.int a, .int b, .int n]) ∧ 0 ≤ a ∧ 0 ≤ b ∧ b < 2 ^ 62 ∧ 0 ≤ n ∧ n ≤ c
theorem Box.has {bx : Addr} {c : Int} {H : Hp} (h : Box bx c H) : ∃ o, H bx = some o := by
  obtain ⟨a, b, n, h, _⟩ := h
  exact ⟨_, h⟩
theorem Box.ne {bx : Addr} {c : Int} {H : Hp} (h : Box bx c H) {p : Addr} (n : H p = none) : p ≠ bx := by
  obtain ⟨o, h⟩ := h.has
  exact (ne_of_none h n).symm
theorem Box.neT {bx : Addr} {c : Int} {H : Hp} (h : Box bx c H) {p : Addr} {xs : List V} (n : H p = some (.tup xs)) : p ≠ bx := by
  obtain ⟨a, b, n', h, _⟩ := h
  exact ne_of n h (by intro z; cases z)
theorem Box.mono {bx : Addr} {c d : Int} {H : Hp} (h : Box bx c H) (e : c ≤ d) : Box bx d H := by
  obtain ⟨a, b, n, h, h1, h2, h3, h4, h5⟩ := h
  exact ⟨a, b, n, h, h1, h2, h3, h4, by omega⟩
theorem Box.same {bx : Addr} {c : Int} {H H' : Hp} (h : Box bx c H) (e : Same H H') : Box bx c H' := by
  obtain ⟨a, b, n, h, r⟩ := h
  exact ⟨a, b, n, e _ _ h, r⟩
theorem Box.new {bx : Addr} {c : Int} {H : Hp} (h : Box bx c H) {p : Addr} {o : HO} (n : H p = none) : Box bx c (upd H p o) := h.same (same_upd n)
theorem Box.at {bx : Addr} {c : Int} {H : Hp} (h : Box bx c H) {p : Addr} {o : HO} (n : p ≠ bx) : Box bx c (upd H p o) := by
  obtain ⟨a, b, m, h, r⟩ := h
  exact ⟨a, b, m, by rw [upd_ne n.symm]; exact h, r⟩

/-- a tuple, one whose object is known to bear no names among them -/
def TupAt (H : Hp) (a : Addr) (xs : List V) : Prop := H a = some (.tup xs) ∨ ∃ o : Obj, o.dict = none ∧ H a = some (.frz o (.tup xs))
theorem TupAt.sq {K : PySem.W.Frag} {H : Hp} {a : Addr} {xs : List V} (h : TupAt H a xs) : SqT K H a xs := by
  rcases h with h | ⟨o, _, h⟩
  · exact .inl (.inl h)
  · exact .inl (.inr ⟨o, h⟩)
theorem TupAt.ext {bx : Addr} {H H' : Hp} {a : Addr} {xs : List V} (e : Ext bx H H') (n : a ≠ bx) (h : TupAt H a xs) : TupAt H' a xs := by
  rcases h with h | ⟨o, d, h⟩
  · exact .inl (e _ _ n h)
  · exact .inr ⟨o, d, e _ _ n h⟩
theorem TupAt.ty {K : PySem.W.Frag} {H : Hp} {a : Addr} {xs : List V} (h : TupAt H a xs) : TyX K H (.ref a) (.type "tuple") := by
  rcases h with h | ⟨o, d, h⟩
  · exact .base (.tup h)
  · exact .fTuple h
/-! data in the heap, the box not among it -/
mutual
inductive Rp (bx : Addr) (H : Hp) : V → PyData → Prop
  | non : Rp bx H .non .none
  | bl (b : Bool) : Rp bx H (.bl b) (.bool b)
  | int (i : Int) : Rp bx H (.int i) (.int i)
  | str (x : Str) : Rp bx H (.str x) (.str x)
  | lst {a : Addr} {xs : List V} {ds : List PyData} : H a = some (.lst xs) → a ≠ bx → RpAll bx H xs ds → Rp bx H (.ref a) (.list ds)
  | tup {a : Addr} {xs : List V} {ds : List PyData} : TupAt H a xs → a ≠ bx → RpAll bx H xs ds → Rp bx H (.ref a) (.tuple ds)
inductive RpAll (bx : Addr) (H : Hp) : List V → List PyData → Prop
  | nil : RpAll bx H [] []
  | cons {v : V} {vs : List V} {d : PyData} {ds : List PyData} : Rp bx H v d → RpAll bx H vs ds → RpAll bx H (v :: vs) (d :: ds)
end
mutual
theorem Rp.ext {bx : Addr} {H H' : Hp} (e : Ext bx H H') : ∀ {v : V} {d : PyData}, Rp bx H v d → Rp bx H' v d
  | _, _, .non => .non
  | _, _, .bl b => .bl b
  | _, _, .int i => .int i
  | _, _, .str x => .str x
  | _, _, .lst h n r => .lst (e _ _ n h) n (RpAll.ext e r)
  | _, _, .tup h n r => .tup (h.ext e n) n (RpAll.ext e r)
theorem RpAll.ext {bx : Addr} {H H' : Hp} (e : Ext bx H H') : ∀ {vs : List V} {ds : List PyData}, RpAll bx H vs ds → RpAll bx H' vs ds
  | _, _, .nil => .nil
  | _, _, .cons h r => .cons (Rp.ext e h) (RpAll.ext e r)
end
mutual
theorem Rp.dp {bx : Addr} {K : PySem.W.Frag} {H : Hp} : ∀ {v : V} {d : PyData}, Rp bx H v d → Dp K H v d
  | _, _, .non => .non
  | _, _, .bl b => .bl b
  | _, _, .int i => .int i
  | _, _, .str x => .str x
  | _, _, .lst h n r => .lst (.inl (.inl h)) (RpAll.dp r)
  | _, _, .tup h n r => .tup h.sq (RpAll.dp r)
theorem RpAll.dp {bx : Addr} {K : PySem.W.Frag} {H : Hp} : ∀ {vs : List V} {ds : List PyData}, RpAll bx H vs ds → DpAll K H vs ds
  | _, _, .nil => .nil
  | _, _, .cons h r => .cons (Rp.dp h) (RpAll.dp r)
end
theorem RpAll.length {bx : Addr} {H : Hp} : ∀ {vs : List V} {ds : List PyData}, RpAll bx H vs ds → vs.length = ds.length
  | _, _, .nil => rfl
  | _, _, .cons _ r => by rw [List.length_cons, List.length_cons, r.length]
theorem RpAll.get {bx : Addr} {H : Hp} : ∀ {vs : List V} {ds : List PyData} {i : Nat} {d : PyData}, RpAll bx H vs ds → ds[i]? = some d → ∃ v, vs[i]? = some v ∧ Rp bx H v d
  | _, _, _, _, .nil, e => by simp at e
  | _, _, 0, _, .cons r _, e => by simp at e; subst e; exact ⟨_, rfl, r⟩
  | _, _, i + 1, d, .cons _ t, e => by
    obtain ⟨u, h1, h2⟩ := RpAll.get (i := i) (d := d) t (by simpa using e)
    exact ⟨u, by simpa using h1, h2⟩
theorem RpAll.append {bx : Addr} {H : Hp} : ∀ {vs ws : List V} {ds es : List PyData}, RpAll bx H vs ds → RpAll bx H ws es → RpAll bx H (vs ++ ws) (ds ++ es)
  | _, _, _, _, .nil, s => s
  | _, _, _, _, .cons r t, s => .cons r (RpAll.append t s)
theorem RpAll.ints {bx : Addr} {H : Hp} : ∀ (ns : List Int), RpAll bx H (ns.map V.int) (ns.map PyData.int)
  | [] => .nil
  | n :: r => .cons (.int n) (RpAll.ints r)
theorem RpAll.ofInts {bx : Addr} {H : Hp} : ∀ {ns : List Int} {vs : List V}, RpAll bx H vs (ns.map PyData.int) → vs = ns.map V.int
  | [], _, .nil => rfl
  | n :: r, _, .cons (.int _) t => by rw [RpAll.ofInts t]; rfl
end Lh

namespace Lh
open PySem PySem.Spec PyProof.Rows L2

/-! ### defs that want to know that no repr is under way around them -/
structure FnG (P : Program) (w : World) (K : PySem.W.Frag) (mg : Str → Option Value) (base : Heap) (k : Nat) (f : Addr) (fd : FuncData) (ps : List Str) (sp : Sp) : Prop where
  len : ∀ vs H Q E, sp vs H Q E → vs.length = ps.length
  run : ∀ (B : Around) (out : List Env) (t : Shared) (H : Hp) (args : Args) (us : List Value) (vs : List V) (Q : VK) (E : XK), Room k B → B.guards = some [] →
    Env0 P w K mg base B out t H → BindsTo t fd args (ps.zip us) → Vals vs us → sp vs H Q E → codeAny (model P w) B (.call (.ref f) args) (CR CX0 out P w H t Q E) t
section
variable {P : Program} {w : World} {K : PySem.W.Frag} {mg : Str → Option Value} {base : Heap}
theorem okG {x qual : Str} {st : Stmt} {f : Addr} {fd : FuncData} {N ps : List Str} {k : Nat} {sp : Sp} (F : Fun K x qual st f fd) (S : FnScope N ps (defScope st)) (len : ∀ vs H Q E, sp vs H Q E → vs.length = ps.length)
    (body : ∀ (cd : Value) (B : Around) (out : List Env) (t : Shared) (H : Hp) (vs : List V) (Q : VK) (E : XK), Room k (B.deeper (envOfC qual (defScope st) t.heap.objs.size f cd)) →
      (B.deeper (envOfC qual (defScope st) t.heap.objs.size f cd)).guards = some [] → sp vs H Q E →
      ∃ r, PSs (cxOf CX0 P w K mg base N qual (defScope st) f cd B out t H E).nox (defBody st) r ∧ r { nx := fun _ H' => Q .non H', rt := Q } (start N vs) H) : FnG P w K mg base (k + 1) f fd ps sp := by
  obtain ⟨oc, od, kV, doc, pm, an, cd, ct, osl, rfl, lk, hcd⟩ := F.ex
  refine ⟨len, fun B out t H args us vs Q E hr hG e0 hb r hsp => ?_⟩
  have hl := len _ _ _ _ hsp
  have kx : K.In t.heap := e0.mod.kin.keeps fun b o e => (e0.bs b o e).1
  have li : t.heap.NoLimit := e0.mod.nolimit.keeps fun b o e => (e0.bs b o e).1
  have kind : ∀ y ∈ ps.zip us, (defScope st).names.lookup y.1 = some .local ∨ ((defScope st).names.lookup y.1 = some .cell ∧ ((cellsFrom (t.heap.objs.size + 1) (defScope st).names []).lookup y.1).isSome = true) := by
    rintro ⟨n, v⟩ hy
    rcases S.par n (List.of_mem_zip hy).1 with q | q
    · exact .inl q
    · exact .inr ⟨q, PySem.W.cellsFrom_some _ _ _ (.inl q)⟩
  refine codeAny_call_function hr.depth (kx _ _ lk) rfl S.co S.gen rfl (PySem.W.codeRec_of kx hcd) (hb _ _ _ _ ?_)
  refine wpAny_newFunctionEnv_cells S.kind kind fun env he t1 x => ?_
  subst he
  refine ⟨li.keeps x.toInCall.keep, codeAny_func ?_⟩
  obtain ⟨rd, h0, hq⟩ := body cd B out t H vs Q E (hr.deeper _) hG hsp
  have hrd := h0.nox
  have I : Inv (cxOf CX0 P w K mg base N qual (defScope st) f cd B out t H E) [] (start N vs) H t1 := inv_start S hr.hd e0 hl r x
  refine wpAny_mono (hrd.run [] t1 (start N vs) H _ I hq) (fun fl t' hs => ?_) fun e t' hs => hs
  have fin : ∀ {σ' : L2.St} {H' : Hp} {v : V} {u : Value}, Inv (cxOf CX0 P w K mg base N qual (defScope st) f cd B out t H E) [] σ' H' t' → RelV v u → Q v H' → CE out P w H t Q u t' := by
    intro σ' H' v u J rv q
    exact ⟨v, H', J.os, J.bare, J.base, J.hok, rv, q⟩
  cases fl with
  | ret u =>
    obtain ⟨v, σ', H', J, rv, q⟩ := hs
    exact fin J rv q
  | next =>
    obtain ⟨σ', H', J, q⟩ := hs
    exact fin (v := V.non) (u := Value.none) J rfl q
  | brk => obtain ⟨_, _, _, q⟩ := hs; exact False.elim q
  | cont => obtain ⟨_, _, _, q⟩ := hs; exact False.elim q
end
section
variable {X : Cx} {k n : Nat} {f : Addr} {fd : FuncData} {ps ks : List Str} {sp : Sp} {x : Str} {p pos : Pos} {e : Expr} {es : List Expr} {kws : List Keyword} {t tk : TA} {g : List Value → List Value → List Value} {gV : List V → List V → List V}
theorem pe_callG (F : FnG X.prog X.w X.K X.mg X.base k f fd ps sp) (hr : Room k X.A) (hG : X.A.guards = some []) (hg : Gl X x) (hm : X.mg x = some (.ref f)) (hk : PySem.W.keepIn X.K (.ref f) = true) (hb : Binds X.K fd ps [])
    (ha : PA X (e :: es) t) (hdb : (x == ("__debug__" : Str)) = false := by decide) (he : starEach (e :: es) X.env = (false, eval e X.env) :: starEach es X.env := by rfl) (hpl : (backTo pos (starEach es X.env)).any (·.1) = false := by rfl) :
    PE X (.Call (.Name x p) (e :: es) [] pos) (tCall sp [] E0 t) := by
  refine ⟨fun pins s σ H Q I h => ?_⟩
  refine wpAny_Call_Name_kw (ld_glob I hg hm ?_ hdb)
  refine PySem.W.callWith_K (h₀ := X.base) I.ok.mod.kin hk (thn (ha.run pos pins s σ H _ I h) fun us s1 ⟨vs, H1, I1, r, q⟩ => ⟨I1.kIn, ?_⟩) he hpl
  have r2 : Vals (vs ++ []) (us ++ []) := r.append .nil
  have hl : (us ++ []).length = ps.length := by rw [← r2.length]; exact F.len _ _ _ _ q
  refine wpAny_call (codeAny_mono (F.run X.A X.stack s1 H1 ⟨us, []⟩ (us ++ []) (vs ++ []) Q E0 hr hG I1.env0 (hb s1 us I1.kIn hl) r2 q) fun r s' hq => ?_)
  cases r with
  | error e => exact False.elim hq
  | ok fl =>
    cases fl with
    | ret u => exact I1.after hq
    | next => exact False.elim hq
    | brk => exact False.elim hq
    | cont => exact False.elim hq
/-- f(k = v, ..): keywords alone -/
theorem pe_callN0 (F : FnOk X.prog X.w X.K X.mg X.base CX0 k f fd ps sp) (hr : Room k X.A) (hg : Gl X x) (hm : X.mg x = some (.ref f)) (hk : PySem.W.keepIn X.K (.ref f) = true) (hb : KBn X.K fd ps 0 ks g gV)
    (hkw : PK X kws tk) (hall : (backToKw pos (keywordEach kws X.env)).all (·.1.isSome) = true := by rfl) (hks : (backToKw pos (keywordEach kws X.env)).filterMap (·.1) = ks := by rfl)
    (hdb : (x == ("__debug__" : Str)) = false := by decide)
    (hpl : ((backTo pos (starEach [] X.env)).any (·.1) || (backToKw pos (keywordEach kws X.env)).any (·.1.isNone)) = false := by rfl) :
    PE X (.Call (.Name x p) [] kws pos) (tCallN 0 ks.length sp gV E0 tNil tk) := by
  refine ⟨fun pins s σ H Q I h => ?_⟩
  refine wpAny_Call_Name_kw (ld_glob I hg hm ?_ hdb)
  refine PySem.W.callWith_KW0 (h₀ := X.base) I.ok.mod.kin hk hall ?_ hpl
  refine thn (hkw.run pos pins s σ H _ I h) fun ws s2 ⟨zs, H2, I2, rz, l1, l2, q2⟩ => ⟨I2.kIn, ?_⟩
  rw [hks]
  exact run_fnN (us := []) (vs := []) F hr hb pass0 I2 .nil rz rfl l2 q2
end
/-- values put in another order -/
def permV {α : Type} (js : List Nat) (xs : List α) : List α := js.filterMap fun j => xs[j]?
theorem permV_rel (js : List Nat) : ∀ {vs : List V} {us : List Value}, Vals vs us → Vals (permV js vs) (permV js us) := by
  intro vs us r
  induction js with
  | nil => exact .nil
  | cons j js ih =>
    unfold permV
    rw [List.filterMap_cons, List.filterMap_cons]
    cases e : vs[j]? with
    | none =>
      rw [r.none_of e]
      exact ih
    | some v =>
      obtain ⟨u, e1, e2⟩ := r.get e
      rw [e1]
      exact .cons e2 ih

/-! ### the law's call -/
theorem law_callG {P : Program} {w : World} {K : PySem.W.Frag} {mg mb : Str → Option Value} {k : Nat} {fa a : Addr} {fd : FuncData} {x : Str} {sp : Sp} {t : Shared} {vs : List Value} {ns : List Int}
    (kx : K.In t.heap) (hns : t.heap.Ns mainGlobals mg) (hb : t.heap.Ns builtinsNs mb) (hbb : ∀ x : Str, x ≠ "__name__" → mb x = bootBuiltins x) (li : t.heap.NoLimit) (hg : t.gens = #[])
    (ha : t.heap.get? a = some { cls := .type "list", data := .seq vs.toArray }) (hi : IntsAre vs ns) (hl : ns.length ≤ sizeLine) (hr : Room k callerA)
    (F : ∀ base : Heap, K.In base → base.Ns mainGlobals mg → FnG P w K mg base k fa fd [x] sp) (bd : ∀ (s : Shared) (u : Value), BindsTo s fd ⟨[u], []⟩ [(x, u)])
    (hsp : ∀ H : Hp, Only H → SqL K H a (ns.map V.int) → sp [.ref a] H (fun v _ => v = .bl true) fun _ _ _ => False) :
    codeAny (model P w) callerA (.call (.ref fa) ⟨[.ref a], []⟩) (fun r t' => r = .ok (.ret (.bool true)) ∧ OldK t.heap t'.heap ∧ t'.os = t.os ∧ AllBare t'.gens) t := by
  have rv := vals_ints hi
  have lenV := hi.length
  have core : ∀ H : Hp, Only H → SqL K H a (ns.map V.int) → HOk P w H t.heap → (∀ b, H b ≠ none → b = a) → (H a ≠ none → K.lookup a = none) →
      codeAny (model P w) callerA (.call (.ref fa) ⟨[.ref a], []⟩) (fun r t' => r = .ok (.ret (.bool true)) ∧ OldK t.heap t'.heap ∧ t'.os = t.os ∧ AllBare t'.gens) t := by
    intro H hO hS ok hA hK
    have bo : ∀ {b : Addr} {o : Obj}, t.heap.get? b = some o → H b = none → (hidT t.heap H).get? b = some o := fun e n => hidT_get e n
    have nd : ∀ {b : Addr} {o : Obj} {es : Array DictEntry} {ep : Nat}, t.heap.get? b = some o → o.data = .dict es ep → H b = none := by
      intro b o es ep e d
      cases q : H b with
      | none => rfl
      | some u =>
        have e' : b = a := hA b (by rw [q]; simp)
        subst e'
        rw [ha] at e; cases e
        have d2 : Data.seq vs.toArray _ = Data.dict es ep := d
        cases d2
    have nk : ∀ {b : Addr} {m : Str → Option Value}, t.heap.Ns b m → (hidT t.heap H).Ns b m := by
      rintro b m ⟨o, es, ep, e, d, r⟩
      exact ⟨o, es, ep, bo e (nd e d), d, r⟩
    have kb : K.In (hidT t.heap H) := by
      intro b o e
      refine bo (kx b o e) ?_
      cases q : H b with
      | none => rfl
      | some u =>
        have e' : b = a := hA b (by rw [q]; simp)
        subst e'
        rw [hK (by rw [q]; simp)] at e; cases e
    have hM : Mod K mg (hidT t.heap H) := by
      obtain ⟨mc, h1, h2⟩ := li
      exact ⟨kb, nk hns, ⟨mb, nk hb, hbb⟩, ⟨mc, nk h1, h2⟩⟩
    have e0 : Env0 P w K mg (hidT t.heap H) callerA [] t H := by
      refine ⟨rfl, hM, fun b o e => of_hidT e, Nat.le_of_eq (hidT_size _ _), trivial, ?_, ok, .of_eq hg⟩
      intro b hb
      exact absurd (show b ∈ ([] : List Addr) from hb) (by simp)
    refine codeAny_mono ((F _ kb (nk hns)).run callerA [] t H ⟨[.ref a], []⟩ [.ref a] [.ref a] _ _ hr rfl e0 (bd t (.ref a)) (.cons rfl .nil) (hsp H hO hS)) ?_
    intro r t' h
    cases r with
    | error e => exact False.elim h
    | ok fl =>
      cases fl with
      | next => exact False.elim h
      | brk => exact False.elim h
      | cont => exact False.elim h
      | ret u =>
        obtain ⟨v, H', os, bare, un, ok', r', q⟩ := h
        have q2 : v = .bl true := q
        subst q2
        obtain rfl : u = Value.bool true := r'
        refine ⟨rfl, OldK.of_keep fun b o e => ?_, os, bare⟩
        cases q : H b with
        | none =>
          refine un.keep b o e q ?_ (by simp)
          intro z
          exact absurd (show b ∈ ([] : List Addr) from z) (by simp)
        | some u =>
          rcases hO b with z | ⟨ob, xs, z⟩
          · rw [q] at z; cases z
          · have z2 := un.frzs b ob _ z
            obtain ⟨e1, _⟩ := ok b _ z
            obtain ⟨e2, _⟩ := ok' b _ z2
            rw [e] at e1; cases e1
            exact e2
  cases hk : K.lookup a with
  | some o =>
    have e := kx a o hk
    rw [ha] at e
    cases e
    refine core (fun _ => none) (fun _ => .inl rfl) (.inr ⟨_, vs.toArray, _, hk, rfl, rfl, rfl, by rw [List.size_toArray, lenV]; exact hl, by simpa using rv⟩) ?_ (fun b z => absurd rfl z) fun z => absurd rfl z
    intro b u z
    have z2 : (none : Option HO) = some u := z
    cases z2
  | none =>
    refine core (fun b => if b = a then some (.frz { cls := .type "list", data := .seq vs.toArray } (.lst (ns.map V.int))) else none) (fun b => ?_) (.inl (.inr ⟨_, if_pos rfl⟩)) (fun b u z => ?_) (fun b z => ?_) fun _ => hk
    · by_cases hb : b = a
      · exact .inr ⟨_, _, if_pos hb⟩
      · exact .inl (if_neg hb)
    · by_cases hb : b = a
      · have z2 := (if_pos hb).symm.trans z
        cases z2
        subst hb
        exact ⟨ha, by rw [List.length_map]; exact hl, vs, _, rv, ha⟩
      · have z2 := (if_neg hb).symm.trans z
        cases z2
    · by_cases hb : b = a
      · exact hb
      · exact absurd (if_neg hb) z
theorem walk_G {l : PySem.W.OpenLaw} {n k : Nat} {q : Program} {loose : List Str} {XP : (Str → Option Value) → Heap → Prop} {YP : World → Heap → Prop} {d : DefRec} {K : Params → PySem.W.Frag} {sp : World → Sp} {x : Str}
    (hn : l.most = some n) (hn2 : n ≤ sizeLine) (hdf : d.params.defaults = []) (hr : Room k callerA)
    (hY : ∀ (w : World) (h : Heap), YP w h → (K w.params).In h)
    (F : ∀ (w : World) (mg : Str → Option Value) (fa : Addr) (h : Heap), (K w.params).In h → h.Ns mainGlobals mg → mg d.name = some (.ref fa) →
      ∃ fd : FuncData, (∀ (s : Shared) (u : Value), BindsTo s fd ⟨[u], []⟩ [(x, u)]) ∧
        ∀ base : Heap, (K w.params).In base → base.Ns mainGlobals mg → FnG l.prog w (K w.params) mg base k fa fd [x] (sp w))
    (hsp : ∀ (w : World) (H : Hp) (a : Addr) (ns : List Int), ns.length ≤ n → Only H → SqL (K w.params) H a (ns.map V.int) → sp w [.ref a] H (fun v _ => v = .bl true) fun _ _ _ => False) :
    PySem.W.WalkO q loose XP YP l.row.toRowW d [] (fun f vs => PySem.call f vs) := by
  refine Att.attach_call hn hdf ?_
  intro w s₀ t mg mb fa o pm cd doc a vs ns G Y ho hd hcd hmg hobj hints hlen hg
  obtain ⟨fd, hb, hF⟩ := F w mg fa _ (hY w _ Y) G.T.g hmg
  exact law_callG (hY w _ Y) G.T.g G.T.b G.T.builtins G.T.nolimit hg hobj hints (Nat.le_trans hlen hn2) hr hF hb (fun H hO hS => hsp w H a ns hlen hO hS)
end Lh

namespace Lh
open PySem PySem.Spec PyProof.Rows L2
/-! ### set(numbers), numbers a list -/
/-- a set as it is first laid -/
abbrev bareSet (w : World) : Obj := { cls := .type "set", dict := none, data := .set #[] 0 (.fresh 0 0 (!w.params.followText "set-order")) }
/-- the set at the heap's end holds just ns, all else is kept -/
def Filled (w : World) (s t : Shared) (ns : List Int) : Prop := ∃ (g : Heap) (tk c : Nat), t = { s with heap := g, toks := tk } ∧ SetR w g s.heap.objs.size (fun j => decide (j ∈ ns)) c ∧ c ≤ ns.length ∧ ∀ b o, s.heap.get? b = some o → g.get? b = some o
theorem ints_at : ∀ {us : List Value} {ns : List Int}, IntsAre us ns → us.length = ns.length ∧ ∀ (i : Nat) (v : Value), us[i]? = some v → ∃ k t, ns[i]? = some k ∧ v = .int k t
  | _, _, .nil => ⟨rfl, fun i v e => absurd e (by simp)⟩
  | _, _, .cons n t r => by
    obtain ⟨h1, h2⟩ := ints_at r
    refine ⟨congrArg (· + 1) h1, fun i v e => ?_⟩
    cases i with
    | zero => exact ⟨n, t, rfl, (Option.some.inj e).symm⟩
    | succ i => exact h2 i v e
section
variable {P : Program} {w : World} {A : Around} {E : Value → Shared → Prop} {s : Shared} {l : Addr} {items : Array Value} {ns : List Int}
set_option maxHeartbeats 3200000 in
theorem set_init (hh : A.handled = none) (hl : s.heap.IsList l items) (hi : IntsAre items.toList ns) (hb : ns.length + 1 < scanBound) :
    codeAny (model P w) A (.call (.builtin "set.__init__") ⟨[.ref s.heap.objs.size, .ref l], []⟩) (wants (fun r t => r = .none ∧ Filled w s t ns) E) { s with heap := s.heap.push (bareSet w) } := by
  obtain ⟨hsz, hat⟩ := ints_at hi
  rw [Array.length_toList] at hsz
  have top : (s.heap.push (bareSet w)).get? s.heap.objs.size = some (bareSet w) := Heap.get?_push_size _ rfl
  refine codeAny_call_builtin F.called_set.init.plain F.entry_set_init (check_set_init_1 ⟨_, top, rfl⟩ ?_)
  have hl0 := hl
  obtain ⟨⟨k, dc, da, sl⟩, ho, ek, n, ed⟩ := hl
  dsimp only at ek ed
  subst ek ed
  have lt := Heap.lt_size ho
  have ho2 : (s.heap.push (bareSet w)).get? l = _ := Heap.get?_push_of_some _ ho
  have f1 := F.sub_list_set
  have f2 := F.sub_list_frozenset
  have f3 : (Value.type "list" == Value.type "dict") = false := by decide
  unfold Builtin.«set.__init__»
  unfold noKeywords
  unfold Builtin.Frozenset.updateFrom
  generalize ei : pyIter = it
  wp_walk
  subst ei
  have sz : (s.heap.push (bareSet w)).objs.size = s.heap.objs.size + 1 := Heap.size_push ..
  refine wpAny_pyIter_list (hl0.push _) (wpAny_bind (wpAny_runValue ?_))
  have wk := fun (B : Around) (hB : B.handled = none) => (Walks.list (prog := P) (w := w) (A := B) hB (s.heap.push (bareSet w)).objs.size l (by rw [sz]; exact Nat.ne_of_lt (Nat.lt_succ_of_lt lt)) items).toS
  refine set_update_ints (wk _ (by simp [hh])) s.heap.objs.size (by rw [sz]; exact fun z => (List.mem_cons.mp z).elim (Nat.ne_of_lt (Nat.lt_succ_self _)) fun z => Nat.ne_of_gt lt (List.mem_singleton.mp z)) ns hsz hb (fun i v e => hat i v (by rw [Array.getElem?_toList]; exact e)) items.size 0 _ (by omega) (Nat.zero_le _) ⟨⟨_, Heap.get?_push_size _ rfl, rfl, rfl⟩, (hl0.push _).push _⟩ ⟨0, Nat.le_refl 0, setR_new_at (Heap.get?_push_of_some _ top)⟩ ?_
  rintro ⟨g, g2, d2, tk, o2⟩ c mv hc R
  cases (show g2 = s.gens from mv.gens)
  cases (show d2 = s.drawn from mv.drawn)
  cases (show o2 = s.os from mv.os)
  refine wpAny_pure (show wpAny _ _ (ret Value.none) _ _ _ from wpAny_pure ⟨rfl, g, tk, c, rfl, R, by omega, fun b o e => ?_⟩)
  have lb := Heap.lt_size e
  exact mv.heap b o (by rw [sz]; exact fun z => (List.mem_cons.mp z).elim (Nat.ne_of_lt lb) fun z => Nat.ne_of_lt (Nat.lt_succ_of_lt lb) (List.mem_singleton.mp z)) (Heap.get?_push_of_some _ (Heap.get?_push_of_some _ e))
set_option maxHeartbeats 3200000 in
theorem set_of_list (ns : List Int) {Q : Value → Shared → Prop} (hh : A.handled = none) (hl : s.heap.IsList l items) (hi : IntsAre items.toList ns) (hb : ns.length + 1 < scanBound) (q : ∀ t, Filled w s t ns → Q (.ref s.heap.objs.size) t) :
    wpAny (model P w) A (call (.type "set") [.ref l]) Q E s := by
  have c1 := F.called_set.made
  have c2 := F.called_set.sub
  have c3 := F.called_set.notType
  have c4 := F.called_set.canCreate
  have c5 := F.typeCall_set_1 (.ref l)
  have c6 := F.called_set.init.lookup
  have c7 := F.called_set.init.bind (.ref s.heap.objs.size)
  obtain ⟨m1, m2, c8⟩ := F.called_set.mro
  refine wpAny_call (codeAny_of_tree (show wpAny _ _ (callAny (.type "set") _) _ _ _ from wpAny_pure ⟨Code.quiet_builtin _ (by decide +kernel), codeAny_builtin F.entry_type_call ?_⟩))
  rw [Around.under_plain (weight_type_call_type "set" [.ref l] []) rfl]
  repeat any_goals first | assumption | wp_step
  refine codeAny_mono (code_set_led1 (.ref l) (E := E) (Q₁ := fun x t => x = .ref s.heap.objs.size ∧ t = { s with heap := s.heap.push (bareSet w) }) ⟨rfl, rfl⟩) ?_
  rintro (e | fl) t ht
  · exact ht
  cases fl with
  | next => exact ht.elim
  | brk => exact ht.elim
  | cont => exact ht.elim
  | ret x =>
    obtain ⟨rfl, rfl⟩ := ht
    have ty : Shared.TypeIs { s with heap := s.heap.push (bareSet w) } (.ref s.heap.objs.size) "set" := ⟨_, Heap.get?_push_size _ rfl, rfl⟩
    repeat any_goals first | assumption | wp_step
    refine codeAny_mono (set_init (E := E) (by simp [hh]) hl hi hb) ?_
    rintro (e | fl) t2 ht2
    · exact ht2
    cases fl with
    | next => exact ht2.elim
    | brk => exact ht2.elim
    | cont => exact ht2.elim
    | ret y =>
      obtain ⟨rfl, f⟩ := ht2
      repeat any_goals first | assumption | wp_step
      exact q _ f
end
end Lh

namespace Lh
open PySem PySem.Spec PyProof.Rows L2
section
variable {X : Cx}
/-- repr of data -/
def rRepr (K : PySem.W.Frag) : List V → Hp → VK → Prop := fun xs H Q => ∃ (a : Addr) (d : PyData), xs = [.ref a] ∧ Dp K H (.ref a) d ∧ d.showable = true ∧ d.hasDict = false ∧ d.depth ≤ 60 ∧ d.shown.length ≤ sizeLine ∧ Q (.str d.shown) H
theorem call_reprD (hG : X.A.guards = some []) (hu : X.A.units + 64 < cLine) : CallR X (.builtin "repr") (rRepr X.K) := by
  intro pins s σ H xs us Q I r h
  obtain ⟨a, d, rfl, hd, h1, h2, h3, h4, q⟩ := h
  have e := Vals.ref1 r
  subst e
  obtain ⟨as, rd⟩ := Dp.reads I d (.ref a) (.ref a) hd rfl
  exact repr_of_reads' rd h1 (fun z => by rw [h2] at z; cases z) hG (by omega) (fun b o e => e) (fun h' u tk hk => ⟨.str d.shown, H, I.kept hk, ⟨u, rfl⟩, q⟩) h4
/-- max(numbers, default=d) of a list of ints -/
def rMaxD (K : PySem.W.Frag) : List V → List V → Hp → VK → Prop := fun xs zs H Q => ∃ (a : Addr) (ns : List Int) (d : Int), xs = [.ref a] ∧ zs = [.int d] ∧ SqL K H a (ns.map V.int) ∧
  ∀ m, (ns = [] → m = d) → (ns ≠ [] → m ∈ ns ∧ ∀ y ∈ ns, y ≤ m) → Q (.int m) H
theorem foldl_max (ns : List Int) : ∀ n : Int, (ns.foldl max n = n ∨ ns.foldl max n ∈ ns) ∧ n ≤ ns.foldl max n ∧ ∀ y ∈ ns, y ≤ ns.foldl max n := by
  induction ns with
  | nil => intro n; exact ⟨.inl rfl, Int.le_refl _, fun y h => absurd h (by simp)⟩
  | cons m r ih =>
    intro n
    obtain ⟨h1, h2, h3⟩ := ih (max n m)
    rw [List.foldl_cons]
    refine ⟨?_, by omega, fun y hy => ?_⟩
    · rcases h1 with h1 | h1
      · by_cases c : n ≤ m
        · right; rw [h1]; rw [Int.max_eq_right c]; exact List.mem_cons_self
        · left; rw [h1]; omega
      · right; exact List.mem_cons_of_mem _ h1
    · rcases List.mem_cons.mp hy with rfl | hy
      · omega
      · exact h3 y hy
theorem cr_maxD (hc : X.calm = true) (hu : X.A.units + 64 < cLine) : CallRK X (.builtin "max") [Str.ofString "default"] (rMaxD X.K) := by
  intro pins s σ H xs zs us ws Q I r rz h
  obtain ⟨a, ns, d, rfl, rfl, hs, q⟩ := h
  obtain ⟨its, rv, hl, _⟩ := I.list hs
  rw [Vals.ref1 r]
  cases rz with
  | cons rd rt =>
    cases rt
    obtain ⟨td, rfl⟩ := rd
    obtain ⟨as, ra⟩ := Dp.readsAll I (ns.map PyData.int) _ its (RpAll.dp (bx := 0) (RpAll.ints ns)) rv
    have dpt : ∀ l : List Int, PyData.depthAll (l.map PyData.int) = 0 := fun l => by
      induction l with
      | nil => rfl
      | cons x r ih => rw [List.map_cons]; show max 0 (PyData.depthAll (r.map PyData.int)) = 0; rw [ih]; rfl
    refine PySem.W.max_list_default (I.ok.hd hc) hl.isList (vs := its.toArray) (xs := ns.map PyData.int) (by simpa using ra) ⟨fun x hx y hy => ?_, fun x hx => ?_⟩ (by rw [dpt]; omega) (fun e h' tk hk => ?_) (fun y ys i v h' tk bs e hv rd hk => ?_)
    · obtain ⟨i, _, rfl⟩ := List.mem_map.mp hx
      obtain ⟨j, _, rfl⟩ := List.mem_map.mp hy
      rfl
    · obtain ⟨i, _, rfl⟩ := List.mem_map.mp hx
      intro z; cases z
    · have e0 : ns = [] := List.map_eq_nil_iff.mp e
      exact ⟨.int d, H, I.kept hk, ⟨_, rfl⟩, q d (fun _ => rfl) (fun z => absurd e0 z)⟩
    · cases ns with
      | nil => cases e
      | cons n r =>
        rw [List.map_cons] at e
        cases e
        rw [PySem.W.maxD_ints] at rd
        cases rd
        obtain ⟨h1, h2, h3⟩ := foldl_max r n
        refine ⟨.int (r.foldl max n), H, I.kept hk, ⟨_, rfl⟩, q _ (fun z => by cases z) (fun _ => ⟨?_, fun y hy => ?_⟩)⟩
        · rcases h1 with h1 | h1
          · rw [h1]; exact List.mem_cons_self
          · exact List.mem_cons_of_mem _ h1
        · rcases List.mem_cons.mp hy with rfl | hy
          · exact h2
          · exact h3 y hy
/-- set(numbers) of a list of ints -/
def rSetL (K : PySem.W.Frag) (w : World) : List V → Hp → VK → Prop := fun xs H Q => ∃ (a : Addr) (ns : List Int), xs = [.ref a] ∧ SqL K H a (ns.map V.int) ∧ ns.length ≤ 1000 ∧
  ∀ (p : Addr) (c : Nat) (ks : List Int), H p = none → ks.Nodup → ks.length = c → c ≤ ns.length → (∀ k, k ∈ ks ↔ k ∈ ns) → Q (.ref p) (upd H p (SetO w p (fun j => decide (j ∈ ns)) c))
theorem cr_setL (hc : X.calm = true) : CallR X (.type "set") (rSetL X.K X.w) := by
  intro pins s σ H xs us Q I r h
  obtain ⟨a, ns, rfl, hs, hl, q⟩ := h
  obtain ⟨its, rv, pl, _⟩ := I.list hs
  rw [Vals.ref1 r]
  refine set_of_list ns (I.ok.hd hc) pl.isList (by simpa using RZ.intsAre_vals rv) (by unfold scanBound; omega) ?_
  rintro t ⟨h', tk, c, rfl, R, hle, hk⟩
  have R' := R
  obtain ⟨o, es, ep, t, ho, _, _, _, nd, hm, _, _, hn, _⟩ := R'
  refine ⟨.ref s.heap.objs.size, upd H s.heap.objs.size (SetO X.w s.heap.objs.size (fun j => decide (j ∈ ns)) c), I.laid (t' := tk) hk (Nat.le_refl _) (setO_new R), rfl, ?_⟩
  refine q _ c (es.toList.map keyOf) (I.hok.fresh (Nat.le_refl _)) nd (by rw [List.length_map, Array.length_toList]; exact hn) hle fun k => ?_
  rw [← hm k]
  exact decide_eq_true_iff
/-- len of such a set -/
def rLenSet (w : World) : List V → Hp → VK → Prop := fun xs H Q => ∃ (a : Addr) (S : Int → Bool) (c : Nat), xs = [.ref a] ∧ H a = some (SetO w a S c) ∧ c ≤ 1000 ∧ Q (.int (c : Int)) H
theorem cr_lenSet : CallR X (.builtin "len") (rLenSet X.w) := by
  intro pins s σ H xs us Q I r h
  obtain ⟨a, S, c, rfl, ha, hl, q⟩ := h
  rw [Vals.ref1 r]
  obtain ⟨o, es, ep, t, ho, hx, hd, _, _, _, _, hf, hn, _⟩ := setO_get I ha
  refine call_len_set ho hx hd hf (by rw [hn]; omega) ⟨.int (c : Int), H, I.tok _, ⟨_, by rw [hn]⟩, q⟩
/-- tuple(numbers) of a list: a new tuple, whose object bears no names -/
theorem call_tupleF : CallR X (.type "tuple") (fun xs H Q => ∃ p ys, xs = [.ref p] ∧ SqL X.K H p ys ∧ ∀ l (o : Obj), H l = none → o.dict = none → Q (.ref l) (upd H l (.frz o (.tup ys)))) := by
  intro pins s σ H xs us Q I r h
  obtain ⟨p, ys, rfl, hq, q⟩ := h
  rw [Vals.ref1 r]
  obtain ⟨its, rv, pl, hz⟩ := I.list hq
  have hlen := rv.length
  refine call_tuple_list pl.isList (fun h' kp => ?_) (by simp only [List.size_toArray]; omega)
  have J : Inv X pins σ H { s with heap := h' } := I.kept (t' := s.toks) kp
  have J2 := J.laid (t' := s.toks) (o := .frz { cls := .type "tuple", data := .seq its.toArray } (.tup ys)) (h' := h'.push { cls := .type "tuple", data := .seq its.toArray })
    (fun b o e => Heap.get?_push_of_some _ e) (Nat.le_refl _) ⟨Heap.get?_push_size _ rfl, hz, its, rv, IsTup.new _ _⟩
  exact ⟨.ref h'.objs.size, _, J2, rfl, q _ _ (J.hok.fresh (Nat.le_refl _)) rfl⟩
/-- dict(pairs) of such a tuple of pairs -/
theorem call_dictT (hc : X.calm = true) : CallR X (.type "dict") (fun xs H Q => ∃ (a : Addr) (o : Obj) (ps : List Addr) (kvs : List (Key × V)), xs = [.ref a] ∧ o.dict = none ∧ H a = some (.frz o (.tup (ps.map V.ref))) ∧ Paired (fun p kv => SqT X.K H p [kV kv.1, kv.2]) ps kvs ∧
    ∀ p, H p = none → Q (.ref p) (upd H p (.dK (mergeK [] kvs)))) := by
  intro pins s σ H xs us Q I r h
  obtain ⟨a, o, ps, kvs, rfl, hod, ha, hp, q⟩ := h
  rw [Vals.ref1 r]
  obtain ⟨hget, hz, its, rv, o', ho', hcls, n, hdat⟩ := I.hok a _ ha
  rw [hget] at ho'
  cases ho'
  have ei := refs_at rv
  subst ei
  rw [List.length_map] at hz
  obtain ⟨prs, rel, hl, hpr⟩ := pairs_of I hp
  have ch : ∀ j : Fin prs.length, ∃ u b, ps[j.val]? = some b ∧ IsTup s.heap b #[u, prs[j].2] ∧ keyIs prs[j].1 u = true := fun j => by
    obtain ⟨b, u, e1, e2, e3⟩ := hpr j.val prs[j] (List.getElem?_eq_getElem j.isLt)
    exact ⟨u, b, e1, e2, e3⟩
  let us : Fin prs.length → Value := fun j => Classical.choose (ch j)
  have hus : ∀ j, ∃ b, ps[j.val]? = some b ∧ IsTup s.heap b #[us j, prs[j].2] ∧ keyIs prs[j].1 (us j) = true := fun j => Classical.choose_spec (ch j)
  let qs : List (Value × Value) := List.ofFn fun j : Fin prs.length => (us j, prs[j].2)
  have qlen : qs.length = prs.length := List.length_ofFn
  have qat : ∀ i k v, qs[i]? = some (k, v) → ∃ h : i < prs.length, k = us ⟨i, h⟩ ∧ v = prs[i].2 := fun i k v e => by
    have hi : i < prs.length := by
      have := (List.getElem?_eq_some_iff.mp e).1
      rw [qlen] at this
      exact this
    refine ⟨hi, ?_⟩
    rw [List.getElem?_ofFn, dif_pos hi] at e
    cases e
    exact ⟨rfl, rfl⟩
  refine PySem.call_dict_pairs (knd := mixKind X.prog X.w) (kvs := prs) (PairArg.tuple (prog := X.prog) (w := X.w) a (ps.map Value.ref).toArray (fun j => ps.getD j 0) qs) (I.ok.hd hc) ⟨⟨o, n, hget, hcls, hod, hdat⟩, ?_, fun j k v e => ?_⟩ ⟨qlen.symm, fun i k v e => ?_⟩ (by rw [qlen, hl]; exact hz) (fun h' tk hd' hk => ?_)
  · rw [qlen, hl]; simp
  · obtain ⟨hj, rfl, rfl⟩ := qat j k v e
    obtain ⟨b, e1, e2, _⟩ := hus ⟨j, hj⟩
    have eb : ps.getD j 0 = b := by rw [List.getD_eq_getElem?_getD, e1]; rfl
    dsimp only
    rw [eb]
    refine ⟨?_, .inl e2⟩
    simp only [List.getElem?_toArray, List.getElem?_map]
    rw [e1]; rfl
  · obtain ⟨hj, rfl, rfl⟩ := qat i k v e
    obtain ⟨b, e1, e2, e3⟩ := hus ⟨i, hj⟩
    exact ⟨prs[i].1, List.getElem?_eq_getElem hj, e3⟩
  · have hm : (s.heap.objs.size == sysModules) = false := beq_eq_false_iff_ne.mpr (Nat.ne_of_gt I.big)
    have hlen : (mergeK [] kvs).length ≤ sizeLine := by
      refine Nat.le_trans (length_mergeK kvs []) ?_
      rw [List.length_nil, Nat.zero_add, rel.length, hl]
      exact hz
    exact ⟨.ref s.heap.objs.size, upd H s.heap.objs.size (.dK (mergeK [] kvs)), I.laid (t' := tk) (fun b o e => hk b o (by simp) e) (Nat.le_refl _) (show ObjOk X.prog X.w _ _ _ (.dK (mergeK [] kvs)) from ⟨hlen, hm, merged [] prs, KV.merge rel .nil, hd'⟩), rfl, q _ (I.hok.fresh (Nat.le_refl _))⟩
end
end Lh

namespace Lh
open PySem PySem.Spec PyProof.Rows L2
/-! ### an exception that a suite keeps under another name -/
/-- at a: an exception that was caught, of that class, its fields at d -/
def exK (a : Addr) (cls : Value) (d : Option Addr) : HO := .ext fun h => ∃ (oe : Obj) (vs : Array Value), h.get? a = some oe ∧ Zc cls d oe ∧ oe.data = .fields vs
theorem exK_at {P : Program} {w : World} {H : Hp} {h : Heap} {a : Addr} {cls : Value} {d : Option Addr} (hok : HOk P w H h) (e : H a = some (exK a cls d)) :
    ∃ (oe : Obj) (vs : Array Value), h.get? a = some oe ∧ Zc cls d oe ∧ oe.data = .fields vs := by
  have x : ObjOk P w H h a (.ext fun h => ∃ (oe : Obj) (vs : Array Value), h.get? a = some oe ∧ Zc cls d oe ∧ oe.data = .fields vs) := hok a _ e
  exact x.1
theorem Inv_track {X : Cx} {pins : List (Addr × Obj)} {σ : L2.St} {H : Hp} {s : Shared} {a : Addr} {oe : Obj} {vs : Array Value} {cls : Value} {d : Option Addr} (I : Inv X pins σ H s) (ha : s.heap.get? a = some oe)
    (hz : Zc cls d oe) (hd : oe.data = .fields vs) (na : H a = none) (n0 : X.s_0.heap.get? a = none) (hp : ∀ p ∈ X.pn ++ pins, p.1 ≠ a) : Inv X pins σ (upd H a (exK a cls d)) s := by
  have nL : a ≠ X.env.locals := by
    intro z
    obtain ⟨m, ⟨o, es, ep, ho, hdd, _⟩, _⟩ := I.loc
    rw [← z, ha] at ho
    cases ho
    rw [hd] at hdd
    cases hdd
  have nC : ∀ x c, X.env.cells.lookup x = some c → c ≠ a := by
    intro x c e z
    obtain ⟨v, o, ho, hc⟩ := I.cell x c e
    rw [z, ha] at ho
    cases ho
    rw [hd] at hc
    cases hc
  have ne0 : ∀ b o, X.s_0.heap.get? b = some o → b ≠ a := fun b o e z => by
    rw [z, n0] at e
    cases e
  have neS : ∀ {b : Addr} {u : HO}, H b = some u → b ≠ a := fun e => ne_of_none e na
  refine ⟨I.ok, I.os, I.bare, ⟨I.base.keep, I.base.slot, fun b o e n hx => by rw [upd_ne (ne0 b o e)]; exact I.base.free b o e n hx, I.base.there, fun b xs e => ?_, fun b o u e => ?_, fun b ps e => ?_⟩, I.loc, I.cell,
    by rw [upd_ne nL.symm]; exact I.free, fun x c e => by rw [upd_ne (nC x c e)]; exact I.freeC x c e, fun p h => ?_, fun b u e => ?_, I.len⟩
  · exact (upd_ne (neS (I.base.tups b xs e))).trans (I.base.tups b xs e)
  · exact (upd_ne (neS (I.base.frzs b o u e))).trans (I.base.frzs b o u e)
  · exact let ⟨m, q⟩ := I.base.tbls b ps e; ⟨m, (upd_ne (neS q)).trans q⟩
  · obtain ⟨e, n, r⟩ := I.pin p h
    exact ⟨e, by rw [upd_ne (hp p h)]; exact n, r⟩
  · by_cases hb : b = a
    · subst hb
      rw [upd_same] at e
      cases e
      exact ⟨⟨oe, vs, ha, hz, hd⟩, ⟨oe, ha⟩, fun h1 h2 ⟨o, v, q, r⟩ k => ⟨o, v, k o q, r⟩⟩
    · rw [upd_ne hb] at e
      exact (I.hok b u e).stay (fun c v hc q => q) (fun c q => by rw [upd_ne (neS q)]; exact q) fun c xs q => by rw [upd_ne (neS q)]; exact q
theorem fly_keeps {base h h' : Heap} {l : List Env} {e : Addr} {Z : Obj → Prop} (k : ∀ b o, h.get? b = some o → h'.get? b = some o) (f : HandSPX.FlyingZ base l e Z h) : HandSPX.FlyingZ base l e Z h' := by
  obtain ⟨f1, f2, f3, oe, vs, T, oT, ts, he, hz, hd, h1, hn, hT, hoT, hdT, h3⟩ := f
  exact ⟨fun b o q => k b o (f1 b o q), f2, f3.of_keeps (fun b o q _ => ⟨o, k b o q, rfl⟩), oe, vs, T, oT, ts, k _ _ he, hz, hd, h1, hn, hT, k _ _ hoT, hdT, h3⟩
/-- what 'except (x, ..) as n: suite' wishes of an exception whose class the test meets; behind it the exception is kept -/
def wKeep (Mt : Value → Prop) (i : Nat) (ts : Addr → Value → Option Addr → TS) (D : Ends) : WX := fun cls d σ H =>
  Mt cls ∧ ∀ a, H a = none → ts a cls d { nx := fun σ' H' => D.nx (σ'.set i none) (upd H' a (exK a cls d)), rt := fun _ _ => False, bk := fun _ _ => False, ct := fun _ _ => False } (σ.set i (some (.ref a))) H
section
variable {X : Cx} {pins : List (Addr × Obj)} {σ : L2.St} {H : Hp} {sI : Shared} {B h3 : Heap} {a : Addr} {Z : Obj → Prop}
/-- where an exception that landed stands: on no frame, on no pin, and it is new to the def -/
structure Apart (X : Cx) (pins : List (Addr × Obj)) (a : Addr) : Prop where
  loc : a ≠ X.env.locals
  fs : a ∉ X.fs
  new : X.s_0.heap.get? a = none
  pin : ∀ p ∈ X.pn ++ pins, p.1 ≠ a
theorem Apart.of (hst : X.stack = X.env :: X.outer) (hfm : X.env.frame = some X.env.locals) (hex : X.ex = []) (J : Inv X pins σ H sI) (ground : ∀ b o, sI.heap.get? b = some o → b ∉ frs X.stack → B.get? b = some o)
    (fl : HandSPX.FlyingZ B (X.env :: X.outer) a Z h3) : Apart X pins a := by
  obtain ⟨oa, va, ga, _, da⟩ := fl.there
  have off : a ∉ frs (X.env :: X.outer) := by
    intro hm
    obtain ⟨_, u, gu, hu⟩ := fl.2.2.1.mem hm
    cases ga.symm.trans gu
    exact hu _ da
  have other : ∀ {b o}, sI.heap.get? b = some o → b ∉ frs X.stack → b ≠ a := by
    intro b o gb nb z
    cases (ground b o gb nb).symm.trans (z ▸ fl.2.1)
  constructor
  · exact fun z => off (List.mem_filterMap.mpr ⟨X.env, .head _, hfm.trans (congrArg some z.symm)⟩)
  · exact fun z => let ⟨v, hv, q⟩ := List.mem_filterMap.mp z; off (List.mem_filterMap.mpr ⟨v, .tail _ hv, q⟩)
  · match g0 : X.s_0.heap.get? a with
    | none => rfl
    | some o =>
      obtain ⟨u, gu⟩ := J.base.there a o g0 (by simp [hex])
      exact absurd rfl (other gu (hst ▸ off))
  · intro p hp
    obtain ⟨gp, _, n1, n2, _⟩ := J.pin p hp
    exact other gp fun z => (List.mem_cons.mp (J.stkSub _ z)).elim n1 n2
variable {x y z n : Str} {c1 c2 c3 : Value} {i : Nat} {body suite : List Stmt} {b₀ : Stmt} {p1 p2 p3 pt pos pos' : Pos} {tb : WX → TS} {ts : Addr → Value → Option Addr → TS}
/-- a class by its name, read while an exception is handled -/
theorem named {s : Shared} {oa : Obj} {va : Array Value} (J : Inv X pins σ H s) (ga : s.heap.get? a = some oa) (da : oa.data = .fields va) (na : H a = none) (ap : Apart X pins a) {z : Str} {c : Value} {np : Pos} (hz : Names X z c)
    {Q E : Value → Shared → Prop} (q : Q c s) : wpAny (model X.prog X.w) (X.A.mark (some (.ref a))) (eval (.Name z np) X.env) Q E s := by
  have S := J.suite ga da na ap.loc ap.fs
  rcases hz with ⟨g1, g2, g3 | ⟨g3, g4, g5⟩⟩
  · exact ld_glob (X := X.suite a ((a, oa) :: (X.pn ++ pins))) S g1 g3 q g2
  · exact ld_blt (X := X.suite a ((a, oa) :: (X.pn ++ pins))) S g1 g3 g4 q g5 g2
/-- behind the suite the exception is tracked -/
theorem kept_on (ok : X.Ok) (hN : X.N.Nodup) (hi : X.N[i]? = some n) (hln : X.env.kindOf n = some .local) (ap : Apart X pins a) {oa : Obj} {va : Array Value} {cls : Value} {d : Option Addr} (hz : Zc cls d oa) (da : oa.data = .fields va)
    {σ6 : L2.St} {H6 : Hp} {s6 : Shared} (S : Inv (X.suite a ((a, oa) :: (X.pn ++ pins))) [] σ6 H6 s6) {Q : Shared → Prop} {E : Value → Shared → Prop} (q : ∀ s7, Inv X pins (σ6.set i none) (upd H6 a (exK a cls d)) s7 → Q s7) :
    wpAny (model X.prog X.w) X.A (do bindName X.env n .none; unbindBehindTheSuite X.env n pos') (fun _ s7 => Q s7) E s6 := by
  have pin' : ∀ p ∈ X.pn ++ ((a, oa) :: pins), p ∈ ((a, oa) :: (X.pn ++ pins)) ++ [] := fun p hp => by
    simp only [List.mem_append, List.mem_cons, List.append_nil] at hp ⊢
    rcases hp with z | z | z
    · exact .inr (.inl z)
    · exact .inl z
    · exact .inr (.inr z)
  have J : Inv X ((a, oa) :: pins) σ6 H6 s6 := ⟨ok, S.os, S.bare, S.base, S.loc, S.cell, S.free, S.freeC, fun p hp => S.pin p (pin' p hp), S.hok, S.len⟩
  refine gone_ok J hN hi hln fun s7 J7 => ?_
  have here := J7.pin (a, oa) (by simp)
  exact q s7 (Inv_track (J7.pins_of fun p hp => J7.pin p (by simp [hp])) here.1 hz da here.2.1 ap.new ap.pin)
/-- a clause's test says yes to exceptions of the classes Mt, and changes nothing but that it makes something -/
def Tests (X : Cx) (tst : Expr) (Mt : Value → Prop) : Prop := ∀ {pins : List (Addr × Obj)} {σ : L2.St} {H : Hp} {s : Shared} {a : Addr} {oa : Obj} {va : Array Value} {cls : Value} {d : Option Addr}, Inv X pins σ H s → s.heap.get? a = some oa → Zc cls d oa →
  oa.data = .fields va → H a = none → Apart X pins a → Mt cls → ∀ {R : Bool → Shared → Prop} {E : Value → Shared → Prop}, (∀ g, (∀ b o, s.heap.get? b = some o → g.get? b = some o) → R true { s with heap := g }) →
  wpAny (model X.prog X.w) (X.A.mark (some (.ref a))) (eval tst X.env) (fun c t => wpAny (model X.prog X.w) (X.A.mark (some (.ref a))) (excMatches (.ref a) c) R E t) E s
theorem tests2 (hc1 : Names X x c1) (hc2 : Names X y c2) {cx : Nat} : Tests X (.Tuple [.Name x p1, .Name y p2] cx pt) (fun cls => PySem.W.exmAny X.K cls [c1, c2] = some true) := by
  intro pins σ H s a oa va cls d I ga za da na ap one R E q
  refine wpAny_Tuple_spliced ?_
  show wpAny _ _ (spliced [(false, eval (.Name x p1) X.env), (false, eval (.Name y p2) X.env)]) _ _ _
  refine Calls.spliced_cons (named I ga da na ap hc1 (Calls.spliced_cons (named I ga da na ap hc2 (Calls.spliced_nil ⟨by show 2 ≤ sizeLine; decide, ?_⟩))))
  have old : ∀ b o, s.heap.get? b = some o → (s.heap.push { cls := .type "tuple", data := .seq [c1, c2].toArray }).get? b = some o := fun _ _ z => Heap.get?_push_of_some _ z
  have knd : PySem.W.Looks (model X.prog X.w) (s.heap.push { cls := .type "tuple", data := .seq [c1, c2].toArray }) (typeOf (.ref a)) cls := fun _ _ _ _ k q => wpAny_typeOf_ref (k _ _ (old _ _ ga)) (za.1.symm ▸ q)
  exact (PySem.W.exm_tup2 (M := model X.prog X.w) (I.kIn.keeps old) knd (Heap.get?_push_size s.heap rfl) one).here (q _ old)
theorem tests3 (hc1 : Names X x c1) (hc2 : Names X y c2) (hc3 : Names X z c3) {cx : Nat} : Tests X (.Tuple [.Name x p1, .Name y p2, .Name z p3] cx pt) (fun cls => PySem.W.exmAny X.K cls [c1, c2, c3] = some true) := by
  intro pins σ H s a oa va cls d I ga za da na ap one R E q
  refine wpAny_Tuple_spliced ?_
  show wpAny _ _ (spliced [(false, eval (.Name x p1) X.env), (false, eval (.Name y p2) X.env), (false, eval (.Name z p3) X.env)]) _ _ _
  refine Calls.spliced_cons (named I ga da na ap hc1 (Calls.spliced_cons (named I ga da na ap hc2 (Calls.spliced_cons (named I ga da na ap hc3 (Calls.spliced_nil ⟨by show 3 ≤ sizeLine; decide, ?_⟩))))))
  have old : ∀ b o, s.heap.get? b = some o → (s.heap.push { cls := .type "tuple", data := .seq [c1, c2, c3].toArray }).get? b = some o := fun _ _ z => Heap.get?_push_of_some _ z
  have knd : PySem.W.Looks (model X.prog X.w) (s.heap.push { cls := .type "tuple", data := .seq [c1, c2, c3].toArray }) (typeOf (.ref a)) cls := fun _ _ _ _ k q => wpAny_typeOf_ref (k _ _ (old _ _ ga)) (za.1.symm ▸ q)
  exact (PySem.W.exm_tup3 (M := model X.prog X.w) (I.kIn.keeps old) knd (Heap.get?_push_size s.heap rfl) one).here (q _ old)
set_option maxHeartbeats 2000000 in
theorem ps_try_keep {tst : Expr} {Mt : Value → Prop} (hst : X.stack = X.env :: X.outer) (hfm : X.env.frame = some X.env.locals) (hex : X.ex = []) (hN : X.N.Nodup) (hi : X.N[i]? = some n) (hln : X.env.kindOf n = some .local) (htst : Tests X tst Mt)
    (hbody : ∀ (W : WX) (pn : List (Addr × Obj)) (xe : Value → Shared → Prop), Takes (X.tr pn xe) W → PassesOwn (model X.prog X.w) X.A X.env xe → PSs (X.tr pn xe) body (tb W))
    (hsuite : ∀ (a : Addr) (oa : Obj) (cls : Value) (d : Option Addr) (pn : List (Addr × Obj)), Zc cls d oa → (∃ va, oa.data = .fields va) → PSs (X.suite a ((a, oa) :: pn)) (b₀ :: suite) (ts a cls d)) :
    PS X (.Try body [.ExceptHandler (some tst) (some n) (b₀ :: suite) pos'] [] [] pos) (fun D σ H => tb (wKeep Mt i ts D) D σ H) := by
  constructor
  intro pins s σ H D I want
  have ok := I.ok
  have frm : X.A.frames = some (X.env :: X.outer) := ok.frames.trans (congrArg some hst)
  refine wpAny_Try_except (wpAny_mono ((hbody (wKeep Mt i ts D) (X.pn ++ pins)
      (fun e t1 => wpAny (model X.prog X.w) X.A (noteFrame e X.env) (fun _ t2 => wpAny (model X.prog X.w) X.A (setFlight e none) (fun _ t3 => wpAny (model X.prog X.w) X.A (handleBy e X.env
        [.ExceptHandler (some tst) (some n) (b₀ :: suite) pos']) (SP X pins D) X.xe t3) X.xe t2) X.xe t1)
      (fun u t air => ?_) PassesOwn.looking).run [] s σ H D (I.toTry _) want) (fun fl t fin => ?_) fun _ _ z => z)
  case refine_2 =>
    cases fl with
    | next => exact let ⟨σ1, H1, I1, q⟩ := fin; wpAny_execs_nil ⟨σ1, H1, I1.ofTry ok, q⟩
    | brk => exact let ⟨σ1, H1, I1, q⟩ := fin; ⟨σ1, H1, I1.ofTry ok, q⟩
    | cont => exact let ⟨σ1, H1, I1, q⟩ := fin; ⟨σ1, H1, I1.ofTry ok, q⟩
    | ret u => exact let ⟨v, σ1, H1, I1, r, q⟩ := fin; ⟨v, σ1, H1, I1.ofTry ok, r, q⟩
  case refine_1 =>
    obtain ⟨a, B, t0, _, σ1, H1, cls, d, rfl, I0, ground, up, sky, na, os, bare, one, then_⟩ := air
    have I1 : Inv X pins σ1 H1 t0 := I0.ofTry ok
    refine Sky.land (L := X.env.locals) Zc.steady frm hfm (hst ▸ sky) fun g fl upg => ?_
    have ap := Apart.of hst hfm hex I1 ground fl
    have I3 : Inv X pins σ1 H1 { t with heap := g } := I1.landed ground fl.1 (up.trans upg) os bare
    obtain ⟨oa, va, ga, za, da⟩ := fl.there
    refine wpAny_handleBy_cons (codeAny_handlers_test (htst I3 ga za da na ap one fun g' old => ?_)) (fun z => nomatch z)
    refine codeAny_handlers_suite_as ?_
    refine HandSPX.lands_againZ (fly_keeps old fl) fun g4 fl4 up4 => ?_
    have I4 : Inv X pins σ1 H1 { t with heap := g4 } := I1.landed ground fl4.1 (((up.trans upg).trans (.of_keeps old)).trans up4) os bare
    obtain ⟨ob, vb, gb, zb, db⟩ := fl4.there
    refine store_ok (X := X.suite a ((a, ob) :: (X.pn ++ pins))) (v := .ref a) (I4.suite gb db na ap.loc ap.fs) hN hi (.inl hln) rfl (fun s5 S5 => ?_) (.inr hln)
    refine wpAny_mono ((hsuite a ob cls d (X.pn ++ pins) zb ⟨_, db⟩).run [] s5 _ H1 _ S5 (then_ a na)) (fun fw s6 fin => ?_) fun _ _ z => False.elim z
    cases fw with
    | next => exact let ⟨σ6, H6, S6, q⟩ := fin; kept_on ok hN hi hln ap zb db S6 fun s7 I7 => ⟨_, _, I7, q⟩
    | brk => exact let ⟨_, _, _, q⟩ := fin; q.elim
    | cont => exact let ⟨_, _, _, q⟩ := fin; q.elim
    | ret u => exact let ⟨_, _, _, _, _, q⟩ := fin; q.elim
end
section
variable {X : Cx}
/-- an exception that is kept, with its fields, as the library's words have it -/
theorem inst_of {pins : List (Addr × Obj)} {σ : L2.St} {H : Hp} {s : Shared} {a C dd : Addr} {fs : List (Str × V)} (I : Inv X pins σ H s) (ha : H a = some (exK a (.ref C) (some dd))) (hd : H dd = some (.xd fs)) :
    ∃ (ox od : Obj) (mA : Str → Option Value), PySem.W.InstAt s.heap a ox C (some od) ∧ (∀ f, RelO (fs.lookup f) (mA f)) ∧ ∀ f, PySem.W.lookIn f od = some (mA f) := by
  obtain ⟨oe, vs, he, hz, hdat⟩ := exK_at I.hok ha
  obtain ⟨mA, hns, hr⟩ : ∃ mA, s.heap.Ns1 dd mA ∧ ∀ f, RelO (fs.lookup f) (mA f) := I.hok dd _ hd
  obtain ⟨od, ho, hl⟩ := lookIn_ns hns
  exact ⟨oe, od, mA, ⟨he, hz.1, by unfold PySem.W.notCls; rw [hdat] <;> rfl, by rw [hz.2]; exact ho⟩, hr, hl⟩
/-- isinstance(e, c), e an exception that is kept -/
def rIsX (K : PySem.W.Frag) : List V → Hp → VK → Prop := fun xs H Q => ∃ (a C dd : Addr) (fs : List (Str × V)) (c : V) (cv : Value) (b : Bool), xs = [.ref a, c] ∧ H a = some (exK a (.ref C) (some dd)) ∧ H dd = some (.xd fs) ∧ ExcC K C ∧
  (∀ u, RelV c u → u = cv) ∧ PySem.W.kitOne K (.ref C) cv = some b ∧ Q (.bl b) H
theorem call_isX : CallR X (.builtin "isinstance") (rIsX X.K) := by
  intro pins s σ H xs us Q I r h
  obtain ⟨a, C, dd, fs, c, cv, b, rfl, ha, hd, F, hcv, e, q⟩ := h
  obtain ⟨ox, od, mA, J, _⟩ := inst_of I ha hd
  cases r with
  | cons rx rr =>
    cases rr with
    | cons rt rr =>
      cases rr
      cases rx
      cases hcv _ rt
      have F1 := PySem.W.any_some F.hd
      obtain ⟨cd, hc, _⟩ := F1
      exact PySem.W.kia_one (PySem.W.kitx_exc (by rw [hc]; rfl) F.hg F.hk F.hs F.ha F.hn F.ht F.hm) I.kIn J e (fun z => nomatch z) fun tk => ⟨.bl b, H, I.kept (t' := tk) fun _ _ z => z, rfl, q⟩
/-- isinstance(e, (c, ..)) -/
def rIsXT (K : PySem.W.Frag) : List V → Hp → VK → Prop := fun xs H Q => ∃ (a C dd p : Addr) (fs : List (Str × V)) (cs : List V) (cvs : List Value) (b : Bool), xs = [.ref a, .ref p] ∧ H a = some (exK a (.ref C) (some dd)) ∧ H dd = some (.xd fs) ∧ ExcC K C ∧ H p = some (.tup cs) ∧
  (∀ us, Vals cs us → us = cvs) ∧ PySem.W.kitAny K (.ref C) cvs = some b ∧ Q (.bl b) H
theorem call_isXT : CallR X (.builtin "isinstance") (rIsXT X.K) := by
  intro pins s σ H xs us Q I r h
  obtain ⟨a, C, dd, p, fs, cs, cvs, b, rfl, ha, hd, F, hp, hcv, e, q⟩ := h
  obtain ⟨ox, od, mA, J, _⟩ := inst_of I ha hd
  cases r with
  | cons rx rr =>
    cases rr with
    | cons rt rr =>
      cases rr
      cases rx
      cases rt
      obtain ⟨its, rv, o, ho, hc, n, hdat⟩ := (I.hok p _ hp).2
      cases hcv _ rv
      obtain ⟨oc, od', oda, osl⟩ := o
      dsimp only at hc hdat
      subst hc hdat
      obtain ⟨cd, hcl, _⟩ := PySem.W.any_some F.hd
      exact PySem.W.kia_tup (PySem.W.kitx_exc (by rw [hcl]; rfl) F.hg F.hk F.hs F.ha F.hn F.ht F.hm) I.kIn J ho e (fun z => nomatch z) fun tk => ⟨.bl b, H, I.kept (t' := tk) fun _ _ z => z, rfl, q⟩
/-- two words of one call, whichever is at hand -/
theorem call_or {f : Value} {r1 r2 : List V → Hp → VK → Prop} (h1 : CallR X f r1) (h2 : CallR X f r2) : CallR X f (fun xs H Q => r1 xs H Q ∨ r2 xs H Q) := by
  intro pins s σ H xs us Q I r h
  exact h.elim (h1 pins s σ H xs us Q I r) (h2 pins s σ H xs us Q I r)
/-- e.f, e an exception that is kept -/
def tXk (K : PySem.W.Frag) (f : Str) (te : TE) : TE := fun σ H Q => te σ H fun x H1 => ∃ (a C dd : Addr) (fs : List (Str × V)) (v : V), x = .ref a ∧ H1 a = some (exK a (.ref C) (some dd)) ∧ H1 dd = some (.xd fs) ∧ XfC K C ∧
  PySem.W.findIn K (.ref C) f = some none ∧ fs.lookup f = some v ∧ Q v H1
theorem pe_xk {e : Expr} {te : TE} {pos : Pos} {f : Str} (he : PE X e te) (hb : attributeBase e f X.env (eval e X.env) = eval e X.env := by rfl) : PE X (.Attribute e f pos) (tXk X.K f te) := by
  refine ⟨fun pins s σ H Q I h => attr_of hb (thn (he.run pins s σ H _ I h) fun u s1 hh => ?_)⟩
  obtain ⟨x, H1, I1, rx, a, C, dd, fs, v, rfl, ha, hd, T, hno, l, q⟩ := hh
  cases rx
  obtain ⟨ox, od, mA, J, hr, hl⟩ := inst_of I1 ha hd
  obtain ⟨u, hu, ru⟩ := RelO.some_of (v := v) (o := mA f) (by rw [← l]; exact hr f)
  have fo := PySem.W.findObj_own T.hdC hno rfl ((hl f).trans (congrArg some hu))
  exact HandSPX.exc_get I1.kIn J T.ga T.gg T.exC fo (handed_of ru) ⟨v, H1, I1.tok _, ru, q⟩
/-- what lets no exception out, of a def that may -/
theorem pass_none : Passes (L2.CX X.prog X.w) X (fun _ _ _ => False) := fun _ _ _ _ _ _ _ c => by
  obtain ⟨_, _, _, _, _, _, _, _, _, _, _, _, w⟩ := c
  exact w.elim
end
theorem kit_not {K : PySem.W.Frag} {C D : Addr} (hd : PySem.W.hasDictIn K D = true) (ht : PySem.W.typeIn K (.ref D) = some (.type "type")) (h : PySem.W.subIn K (.ref C) (.ref D) = some false) (hs : PySem.W.subIn K (.ref C) (.ref C) = some true) :
    PySem.W.kitOne K (.ref C) (.ref D) = some false := by
  have ne : (Value.ref C == Value.ref D) = false := by
    refine Bool.eq_false_iff.mpr fun z => ?_
    rw [← beq_iff_eq.mp z, hs] at h
    cases h
  obtain ⟨cd, hc, _⟩ := PySem.W.any_some hd
  unfold PySem.W.kitOne PySem.W.kitCls
  rw [ne, if_neg Bool.false_ne_true]
  dsimp only
  rw [hc, ht]
  exact h
theorem kit_type {K : PySem.W.Frag} {C : Addr} {T : String} {b : Bool} (hm : PySem.W.kitMeta T = true) (h : PySem.W.subIn K (.ref C) (.type T) = some b) : PySem.W.kitOne K (.ref C) (.type T) = some b := by
  have ne : (Value.ref C == Value.type T) = false := by simp
  unfold PySem.W.kitOne PySem.W.kitCls
  rw [ne, if_neg Bool.false_ne_true]
  dsimp only
  rw [hm, if_pos rfl]
  exact h
/-- a def that may raise, called where it doesn't -/
theorem fn_calm {P : Program} {w : World} {K : PySem.W.Frag} {mg : Str → Option Value} {base : Heap} {k : Nat} {f : Addr} {fd : FuncData} {ps : List Str} {sp : Sp} (F : FnOk P w K mg base (L2.CX P w) k f fd ps sp) :
    FnOk P w K mg base CX0 k f fd ps (fun vs H Q _ => sp vs H Q (fun _ _ _ => False)) := by
  refine ⟨fun vs H Q _ q => F.len vs H Q _ q, fun B out t H args us vs Q E a b c d e => codeAny_mono (F.run B out t H args us vs Q _ a b c d e) fun r t' h => ?_⟩
  cases r with
  | ok fl =>
    cases fl with
    | ret u => exact h
    | next => exact h
    | brk => exact h
    | cont => exact h
  | error e =>
    obtain ⟨_, _, _, _, _, _, _, _, _, _, _, _, no⟩ := h
    exact no.elim
theorem exm_three {K : PySem.W.Frag} {cls c1 c2 c3 : Value} {b1 b2 b3 : Bool} (h1 : PySem.W.exmOne K cls c1 = some b1) (h2 : PySem.W.exmOne K cls c2 = some b2) (h3 : PySem.W.exmOne K cls c3 = some b3) : PySem.W.exmAny K cls [c1, c2, c3] = some (b1 || (b2 || b3)) := by
  unfold PySem.W.exmAny
  rw [h1]
  unfold PySem.W.exmAny
  rw [h2]
  unfold PySem.W.exmAny
  rw [h3]
  unfold PySem.W.exmAny
  simp
theorem exm_two {K : PySem.W.Frag} {cls c1 c2 : Value} {b1 b2 : Bool} (h1 : PySem.W.exmOne K cls c1 = some b1) (h2 : PySem.W.exmOne K cls c2 = some b2) : PySem.W.exmAny K cls [c1, c2] = some (b1 || b2) := by
  unfold PySem.W.exmAny
  rw [h1]
  unfold PySem.W.exmAny
  rw [h2]
  unfold PySem.W.exmAny
  simp
/-- __init__(self, v): nothing but ValueError's own and self.f = v -/
def spInitF (C : Addr) (f : Str) : Sp := fun vs H Q _ => ∃ (a : Addr) (v : V), vs = [.ref a, v] ∧ H a = some (exo a C none) ∧ ∀ dx, H dx = none → dx ≠ a → Q .non (upd (upd H dx (exd dx [(f, v)])) a (exo a C (some dx)))
end Lh

set_option maxHeartbeats 4000000
namespace LhX
open PySem PySem.Builtin PySem.Builtin.ObjectAttr PyProof.Rows
/-! ### exceptions of own classes over any class that Python has -/
section
variable {P : Program} {w : World} {A : Around} {E : Value → Shared → Prop} {R : Result → Shared → Prop} {h0 : Heap} {gs : Array GenState} {dr : Drawn} {n0 : Nat} {oo : OsState}
/-- the first name that goes into an empty dict -/
theorem first_in {M : Model} {dd : Addr} {f : Str} {tk : Tok} {u : Value} {Q : Fin → Shared → Prop} (empty : h0.Ns dd (fun _ => none))
    (back : ∀ h1 tk1, h1.Ns1 dd (fun y => if y = f then some u else none) → Heap.SameBut dd h0 h1 → Q (.done (.ret .none)) ⟨h1, gs, dr, tk1, oo⟩) :
    wpAny M A (storeInDict dd (.str f tk) f u) Q E ⟨h0, gs, dr, n0, oo⟩ := by
  unfold storeInDict newKeyGuard
  apply wpAny_bind
  apply wpAny_pure
  apply wpAny_bind
  refine wpAny_nsSet1 (Heap.Ns1.of_empty empty) ?_
  intro h1 now same
  obtain ⟨od, _, _, at_, data, few⟩ := now.count (Within.cons f u Within.nil)
  apply wpAny_bind
  refine wpAny_lookBehind at_ ?_ ?_
  · rw [data]
    exact pastItsLine_dict (Nat.le_trans few (Nat.le_add_left 1 sizeLine))
  · wp_walk
    exact back h1 _ now same
/-- an own class: its own names for bases first, then those of the class that it stands over -/
structure Over (mro bm : List Value) : Prop where
  has : ∀ x : String, mro.contains (.type x) = bm.contains (.type x)
  pass : ∀ self : Value, refuseLoop self "__setattr__" mro = pure ()
  some_ : mro.isEmpty = false
theorem over_one {bm : List Value} {C : Addr} (p : ∀ self : Value, refuseLoop self "__setattr__" bm = pure ()) : Over (.ref C :: bm) bm where
  has := fun x => by rw [List.contains_cons]; rfl
  pass := fun self => by rw [refuseLoop_ref]; exact p self
  some_ := rfl
/-- self.f = u, where self has no dict yet -/
theorem put_first {K : W.Frag} {f : Str} {tk : Tok} {u : Value} {x C : Addr} {vals : Array Value} {cd : ClassData} {bm : List Value}
    (kin : K.In h0) (here : h0.get? x = some { cls := .ref C, data := .fields vals }) (isC : W.clsIn K C = some cd) (ov : Over cd.mro bm) (ob : bm.contains (.type "object") = true) (dy : cd.hasDict = true) (noF : W.findIn K (.ref C) f = some none)
    (back : ∀ h1 tk1 dd, (∀ b o, b ≠ x → h0.get? b = some o → h1.get? b = some o) → h0.objs.size ≤ dd → dd ≠ x → h1.get? x = some { cls := .ref C, dict := some dd, data := .fields vals } →
      h1.Ns1 dd (fun y => if y = f then some u else none) → R (.ok (.ret .none)) ⟨h1, gs, dr, tk1, oo⟩) :
    codeAny (model P w) A (.call (.builtin "object.__setattr__") ⟨[.ref x, .str f tk, u], []⟩) R ⟨h0, gs, dr, n0, oo⟩ := by
  have inst : W.InstAt h0 x { cls := .ref C, data := .fields vals } C none := ⟨here, rfl, rfl, trivial⟩
  have facts := F.store_object
  have apart : x ≠ h0.objs.size := Nat.ne_of_lt (Heap.lt_size here)
  have isO : W.mroIn K C (.type "object") = some true := by
    unfold W.mroIn
    rw [isC, Option.bind_some, if_neg (by rw [ov.some_]; decide), ov.has, ob]
  have lookO : W.Looks (model P w) h0 (isInstance (.ref x) (.type "object")) true := inst.type.andThen (W.looks_mroIn kin isO)
  have lookM : W.Looks (model P w) h0 (mroOf (.ref C)) cd.mro := (W.looks_clsIn kin isC).andThen .now
  have lookC : W.Looks (model P w) h0 (classData C) cd := W.looks_clsIn kin isC
  have lookN : W.Looks (model P w) h0 (storeTaker? none) none := .now
  have lookF := W.looks_findIn (M := model P w) kin noF
  refine codeAny_call_builtin facts.slot.plain facts.entry ?_
  refine @W.check_slot (model P w) _ _ ⟨h0, gs, dr, n0, oo⟩ "object.__setattr__" "object" "__setattr__" (.ref x) [.str f tk, u] [] _ facts.kind facts.split lookO (facts.args (.ref x) (.str f tk) u) ?_
  rw [W.osa_eq, refuse_eq]
  apply wpAny_bind
  apply wpAny_bind
  refine inst.type.at ?_
  apply wpAny_bind
  refine lookM.at ?_
  rw [ov.pass]
  apply wpAny_pure
  apply wpAny_bind
  refine inst.type.at ?_
  apply wpAny_bind
  refine lookF.at ?_
  apply wpAny_bind
  refine lookN.at ?_
  show wpAny _ _ (storeInOwnDict (.ref x) (.ref C) (.str f tk) f u false) _ _ _
  cases cd with
  | mk c1 c2 c3 c4 c5 c6 c7 c8 c9 c10 c11 =>
    have dy : c6 = true := dy
    subst dy
    unfold storeInOwnDict ownDictForStores
    repeat (first | with_reducible refine first_in ?_ ?_ | with_reducible refine wpAny_loadPart_at here ?_ | with_reducible refine lookC.at ?_ | wp_step)
    · refine ⟨_, #[], _, (Heap.get?_update_ne _ _ _ _ apart.symm).trans (Heap.get?_push_at rfl rfl), rfl, ?_, fun _ => rfl⟩
      intro e he
      simp at he
    · intro h1 tk1 now same
      have pushed : ∀ b o, h0.get? b = some o → (h0.push { cls := .type "dict", data := .dict #[] }).get? b = some o := fun b o e => Heap.get?_push_of_some _ e
      refine back h1 tk1 h0.objs.size ?_ (Nat.le_refl _) apart.symm ?_ now
      · intro b o nb e
        rw [same.2 b (Nat.ne_of_lt (Heap.lt_size e)), Heap.get?_update_ne _ _ _ _ nb]
        exact pushed b o e
      · rw [same.2 x apart]
        exact Heap.get?_update_self _ (pushed _ _ here) rfl
end
end LhX
namespace Lh
open PySem PySem.Spec PyProof.Rows L2 PySem.Builtin PySem.Builtin.ObjectAttr
/-- an own exception class over the class B of Python's -/
structure OvC (K : PySem.W.Frag) (C : Addr) (B newId initId : String) (bm : List Value) : Prop where
  facts : PySem.ExcBaseFacts B newId initId bm
  obj : bm.contains (.type "object") = true
  cls : ∃ nm qn N bs rest sn sub ab col dd a0 a1 a2 a3 a5, K.lookup C = some (excClassObj nm qn C N bs rest true sn sub ab col dd a0 a1 a2 a3 a5 newId) ∧ (∀ x : String, rest.contains (.type x) = bm.contains (.type x)) ∧ LhX.Over (.ref C :: rest) bm
  setter : PySem.W.findIn K (Value.ref C) "__setattr__" = some (some (Value.builtin "object.__setattr__"))
  isExc : PySem.W.subIn K (Value.ref C) (Value.type "BaseException") = some true
  itsType : PySem.W.typeIn K (Value.ref C) = some (Value.type "type")
  stays : PySem.W.keepIn K (Value.ref C) = true
section
variable {X : Cx} {pins : List (Addr × Obj)} {σ : L2.St} {H : Hp} {s : Shared} {a C : Addr} {f : Str} {y : V} {u : Value} {B newId initId : String} {bm : List Value} {A : Around} {E : Value → Shared → Prop}
theorem upd_back {H : Hp} {a : Addr} {o : HO} (e : H a = some o) : upd H a o = H := by
  funext b
  by_cases z : b = a
  · subst z
    rw [upd_same, e]
  · exact upd_ne z
/-- self.f = y -/
theorem own_put {Q : Unit → Shared → Prop} (T : OvC X.K C B newId initId bm) (I : Inv X pins σ H s) (e : H a = some (exo a C none)) (no : PySem.W.findIn X.K (.ref C) f = some none) (ry : L2.RelV y u)
    (back : ∀ dx s1, H dx = none → dx ≠ a → Inv X pins σ (upd (upd H dx (exd dx [(f, y)])) a (exo a C (some dx))) s1 → Q () s1) : wpAny (model X.prog X.w) A (setAttr (.ref a) f u) Q E s := by
  obtain ⟨nm, qn, N, bs, rest, sn, sub, ab, col, dd, a0, a1, a2, a3, a5, look, _, ov⟩ := T.cls
  have isC : PySem.W.clsIn X.K C = some { name := nm, bases := bs, mro := .ref C :: rest, ns := N, qualname := qn, hasDict := true, slotNames := sn, subclasses := sub, abstract := ab, collection := col, hasDel := false } := by
    unfold PySem.W.clsIn
    rw [look] <;> rfl
  obtain ⟨tt, here⟩ := exo_at I.hok e
  cases s with
  | mk h0 g0 d0 t0 o0 =>
  refine PySem.W.set_plain I.kIn (ox := { cls := .ref C, dict := none, data := .fields #[.ref tt, .none, .none, .none, .bool false, .none] }) (od := none) ⟨here, rfl, rfl, trivial⟩ T.setter ?_
  refine LhX.put_first I.kIn here isC ov T.obj rfl no ?_
  intro h1 tk1 dx kept big ne hx hn
  have free : H dx = none := I.hok.fresh big
  have nd : ∀ {b : Addr} {o : Obj}, h0.get? b = some o → b ≠ dx := fun {b o} z => Nat.ne_of_lt (Nat.lt_of_lt_of_le (Heap.lt_size z) big)
  have na : ∀ {b : Addr}, H b = none → b ≠ a := fun {b} n z => by subst z; exact absurd e (by rw [n]; intro q; cases q)
  have stays : ∀ {b : Addr} {o : HO}, H b = some o → (∀ d, o ≠ exo a C d) → (upd (upd H dx (exd dx [(f, y)])) a (exo a C (some dx))) b = some o := fun {b o} hb df => by
    have n1 : b ≠ a := fun z => by subst z; exact df none (Option.some.inj (hb.symm.trans e))
    rw [upd_ne n1, upd_ne (ne_of_none hb free)]
    exact hb
  have un : Un X.fs [] H (upd (upd H dx (exd dx [(f, y)])) a (exo a C (some dx))) h0 h1 := {
    keep := fun b o z n _ _ => kept b o (na n) z
    slot := fun b o z n _ _ => ⟨_, kept b o (na n) z⟩
    free := fun b o z n _ => (upd_ne (na n)).trans ((upd_ne (nd z)).trans n)
    there := fun b o z _ => by
      by_cases c : b = a
      · subst c; exact ⟨_, hx⟩
      · exact ⟨_, kept b o c z⟩
    tups := fun b xs z => stays z fun d => exo_tup.symm
    frzs := fun b o v z => stays z fun d => exo_frz.symm
    tbls := fun b ps z => ⟨#[], by rw [stays z fun d => exo_tbl.symm]; simp⟩ }
  refine back dx _ free ne (I.un (t' := tk1) un fun b o z => ?_)
  by_cases c : b = a
  · subst c
    rw [upd_same] at z
    cases z
    exact exo_ok hx
  rw [upd_ne c] at z
  by_cases c2 : b = dx
  · subst c2
    rw [upd_same] at z
    cases z
    exact exd_ok hn (relO_put (fs := []) ry fun _ => True.intro)
  rw [upd_ne c2] at z
  refine (I.hok b o z).stay (fun b2 v hc k => kept b2 v ?_ k) (fun b2 hc => stays hc fun d => exo_own.symm) (fun b2 xs hc => stays hc fun d => exo_tup.symm)
  rcases hc with rfl | hc
  · exact c
  · exact at_ne e hc exo_own
/-- B.__init__(self, ..) -/
theorem own_start {us : List Value} {Q : Value → Shared → Prop} (T : OvC X.K C B newId initId bm) (I : Inv X pins σ H s) (e : H a = some (exo a C none)) (few : us.length ≤ sizeLine) (back : ∀ s1, Inv X pins σ H s1 → Q .none s1) :
    wpAny (model X.prog X.w) A (call (.builtin initId) (.ref a :: us)) Q E s := by
  obtain ⟨nm, qn, N, bs, rest, sn, sub, ab, col, dd, a0, a1, a2, a3, a5, look, has, _⟩ := T.cls
  obtain ⟨tt, here⟩ := exo_at I.hok e
  cases s with
  | mk h0 g0 d0 t0 o0 =>
  refine wpAny_call (PySem.HandSPX.init_base T.facts has (I.kIn _ _ look) here few ?_)
  intro h1 t1 kept hx
  have J := I.write (t' := t0) (x := a) (e := a) (o := exo a C none) (by rw [e]; exact True.intro) (.inl rfl) kept ⟨_, hx⟩ (exo_ok hx)
  rw [upd_back e] at J
  exact back _ J
end
theorem ty_IndexError : typeOf (.type "IndexError") = pure (.type "type") := by kernel_rfl
theorem ty_RuntimeError : typeOf (.type "RuntimeError") = pure (.type "type") := by kernel_rfl
theorem ty_OverflowError : typeOf (.type "OverflowError") = pure (.type "type") := by kernel_rfl
theorem boot_RuntimeError : bootBuiltins "RuntimeError" = some (.type "RuntimeError") := by decide +kernel
/-- B.__init__(self, ..), B a class of Python's -/
def tBase (K : PySem.W.Frag) (B initId : String) (ta : TA) : TE := fun σ H Q => ta σ H fun vs H1 => ∃ (a C : Addr) (ws : List V), vs = .ref a :: ws ∧ ws.length ≤ 1000 ∧ (∃ newId bm, OvC K C B newId initId bm) ∧ H1 a = some (exo a C none) ∧ Q .non H1
/-- self.f = e, the first of an exception -/
def tPut (K : PySem.W.Frag) (f : Str) (to te : TE) : TS := fun D σ H => te σ H fun y H1 => to σ H1 fun x H2 => ∃ a C : Addr, x = .ref a ∧ (∃ B newId initId bm, OvC K C B newId initId bm) ∧ PySem.W.findIn K (.ref C) f = some none ∧
  H2 a = some (exo a C none) ∧ ∀ dx, H2 dx = none → dx ≠ a → D.nx σ (upd (upd H2 dx (exd dx [(f, y)])) a (exo a C (some dx)))
section
variable {X : Cx} {B newId initId : String} {bm : List Value} {e o : Expr} {es : List Expr} {ta : TA} {to te : TE} {f : Str} {p p' p1 p2 pos : Pos}
theorem pe_base {pl : Sem Bool} (ty : typeOf (.type B) = pure (.type "type")) (boot : bootBuiltins (Str.ofString B) = some (.type B)) (hg : Gl X (Str.ofString B)) (hm : X.mg (Str.ofString B) = none)
    (vI : PySem.W.findCls X.K (.type B) (.type "type") "__init__" = some (.val (.builtin initId))) (ha : PA X (e :: es) ta) (n1 : Str.ofString B ≠ "__name__") (n2 : (Str.ofString B == ("__debug__" : Str)) = false) (st : Manifest.isStub B = false) (hh : PySem.W.handedIn (.builtin initId) = true)
    (call : eval (.Call (.Attribute (.Name (Str.ofString B) p1) "__init__" p2) (e :: es) [] pos) X.env = (do
      let ov ← eval (.Name (Str.ofString B) p1) X.env
      standAt p2.atName
      let (f, first) ← holding [ov] (getMethod ov "__init__" pl)
      callWith pos f first (backTo pos (starEach (e :: es) X.env)) (backToKw pos (keywordEach [] X.env))) := by rfl)
    (each : starEach (e :: es) X.env = (false, eval e X.env) :: starEach es X.env := by rfl) (plain : (backTo pos (starEach es X.env)).any (·.1) = false := by rfl) :
    PE X (.Call (.Attribute (.Name (Str.ofString B) p1) "__init__" p2) (e :: es) [] pos) (tBase X.K B initId ta) := by
  constructor
  intro pins s σ H Q I h
  refine PySem.W.methodCall_KW (ld_blt I hg hm boot ?_ n1 n2) call
  obtain ⟨m, fr⟩ := I.fr
  refine PySem.W.method_type fr I.ok.mod.kin ty st vI hh ?_
  show wpAny _ _ (callWith pos (Value.builtin initId) [] (backTo pos (starEach (e :: es) X.env)) []) _ _ _
  refine PyProof.Rows.callWith_method1 (thn (ha.run pos pins _ σ H _ (I.tok _) h) ?_) each plain
  rintro us s1 ⟨vs, H1, I1, r1, a, C, ws, ev, few, ⟨newId, bm, T⟩, ea, q⟩
  subst ev
  cases r1 with
  | @cons _ u0 _ ur ra rr =>
    cases (show u0 = Value.ref a from ra)
    refine own_start T I1 ea ?_ fun s2 J => ⟨.non, H1, J, rfl, q⟩
    rw [← Paired.length rr]
    exact Nat.le_of_lt (small1000 few)
theorem ps_put (ho : PE X o to) (he : PE X e te) (hs : swapsWith e (some (.Attribute o f p')) pos.line X.env = pure false := by rfl) : PS X (.Assign [.Attribute o f p'] e pos) (tPut X.K f to te) := by
  constructor
  intro pins s σ H D I h
  refine plainObj_wpAny_Assign_Attribute (thn (he.run pins s σ H _ I h) ?_) hs
  rintro v s1 ⟨y, H1, I1, r1, q1⟩
  refine thn (ho.run pins s1 σ H1 _ I1 q1) ?_
  rintro u s2 ⟨x, H2, I2, r2, a, C, rfl, ⟨_, _, _, _, T⟩, no, ea, q⟩
  cases (show u = Value.ref a from r2)
  exact own_put T I2 ea no r1 fun dx s3 n ne J => ⟨σ, _, J, q dx n ne⟩
/-- C(e, ..) of such a class, for a raise -/
theorem pmk_own {CX : CXT} {x : Str} {C fI : Addr} {k : Nat} {fd : FuncData} {ps : List Str} {sp : Sp} {ds : List Value} {dvs : List V} (T : OvC X.K C B newId initId bm) (iC : PySem.W.findIn X.K (.ref C) "__init__" = some (some (.ref fI))) (tI : PySem.W.typeIn X.K (.ref fI) = some (.type "function"))
    (F1 : FnOk X.prog X.w X.K X.mg X.base CX k fI fd ps sp) (hr : Room (k + 1) X.A)
    (hb : Binds X.K fd ps ds) (hd : Vals dvs ds) (hx : Passes CX X (fun _ _ _ => False)) (hg : Gl X x)
    (hm : X.mg x = some (.ref C)) (ha : PA X (e :: es) ta)
    (ndb : (x == ("__debug__" : Str)) = false := by decide) (each : starEach (e :: es) X.env = (false, eval e X.env) :: starEach es X.env := by rfl) (plain : (backTo pos (starEach es X.env)).any (·.1) = false := by rfl) :
    PMk X (.Call (.Name x p) (e :: es) [] pos) (tMkO C sp dvs ta) := by
  intro pins s σ H Q I h
  obtain ⟨nm, qn, N, bs, rest, sn, sub, ab, col, dd, a0, a1, a2, a3, a5, look, has, _⟩ := T.cls
  refine wpAny_Call_Name_kw (ld_glob I hg hm ?_ ndb)
  refine PySem.W.callWith_K (h₀ := X.base) I.ok.mod.kin T.stays (thn (ha.run pos pins s σ H _ I h) ?_) each plain
  rintro us s1 ⟨vs, H1, I1, r1, few, q1⟩
  refine ⟨I1.kIn, ?_⟩
  show wpAny _ _ (call (.ref C) us) _ _ _
  cases s1 with
  | mk h1 g1 d1 t1 o1 =>
  have le1 : h1.objs.size ≤ h1.objs.size + 1 := Nat.le_add_right _ 1
  obtain ⟨a, ea⟩ : ∃ a, h1.objs.size + 1 = a := ⟨_, rfl⟩
  have na : H1 a = none := by rw [← ea]; exact I1.hok.fresh le1
  have spa := q1 a na
  obtain ⟨hN, eN⟩ : ∃ hN, (h1.push (PySem.W.kdv_tup us)).push (PySem.HandSPX.excO C h1.objs.size) = hN := ⟨_, rfl⟩
  have grow : ∀ b o, h1.get? b = some o → hN.get? b = some o := fun b o z => by
    rw [← eN]
    exact Heap.get?_push_of_some _ (Heap.get?_push_of_some _ z)
  have there : hN.get? a = some (PySem.HandSPX.excO C h1.objs.size) := by
    rw [← eN, ← ea]
    heap_get
  have I2 : Inv X pins σ (upd H1 a (exo a C none)) ⟨hN, g1, d1, t1, o1⟩ := I1.laid (t' := t1) (a := a) (o := exo a C none) (h' := hN) grow (by rw [← ea]; exact le1) (exo_ok there)
  have rel : Vals (V.ref a :: (vs ++ dvs)) (Value.ref a :: (us ++ ds)) := .cons rfl (r1.append hd)
  have len : (Value.ref a :: us ++ ds).length = ps.length := (rel.length.symm.trans (F1.len _ _ _ _ spa))
  have fewU : us.length ≤ sizeLine := by
    rw [← Paired.length r1]
    exact Nat.le_of_lt (small1000 few)
  refine wpAny_call (PySem.HandSPX.call_own T.facts has (I1.kIn _ _ look) (PySem.W.looks_findIn I1.kIn iC) (fun self => PySem.W.bind_fn I1.kIn self tI) fewU ?_)
  rw [ea, eN]
  refine codeAny_mono (F1.run _ X.stack _ _ ⟨Value.ref a :: us, []⟩ (Value.ref a :: (us ++ ds)) _ _ (fun _ _ _ => False) (hr.make C us []) (I2.env0.make C us []) (hb _ (Value.ref a :: us) I2.kIn len) rel spa) ?_
  intro r s2 back
  cases r with
  | error er => exact hx pins σ _ _ er s2 I2 back
  | ok fl =>
    cases fl with
    | ret u =>
      obtain ⟨v, H2, os2, bare2, un2, hok2, rv, ev, d, fs, e1, e2, e3, q2⟩ := back
      subst ev
      cases s2 with
      | mk h2 g2 d2 t2 o2 => exact ⟨rv, mk_end (raises_own T.isExc T.itsType) I1 (by rw [← ea]; exact le1) grow un2 hok2 os2 bare2 e1 e2 e3 q2⟩
    | _ => exact False.elim back
end
/-- such an exception's own __init__, that keeps one thing -/
def spInitO (C : Addr) (f : Str) : Sp := spInitF C f
end Lh

namespace Lh
open PySem PySem.Spec PyProof.Rows L2
def topS (i : Nat) : Stmt := PySem.Challenge.pw_lesserhall_k50_house_turns_beats_rests.main.body.getD i (.Pass ⟨0, 0, 0, 0⟩)
abbrev s__wall : Stmt := topS 0
abbrev n__wall : List Str := ["k"]
abbrev p__wall : List Str := ["k"]
theorem sc__wall : FnScope n__wall p__wall (defScope s__wall) := ⟨rfl, rfl, rfl, by decide +kernel, rfl, by decide +kernel, by decide +kernel⟩
abbrev s_is_number : Stmt := topS 2
abbrev n_is_number : List Str := ["thing"]
abbrev p_is_number : List Str := ["thing"]
theorem sc_is_number : FnScope n_is_number p_is_number (defScope s_is_number) := ⟨rfl, rfl, rfl, by decide +kernel, rfl, by decide +kernel, by decide +kernel⟩
abbrev s_is_person : Stmt := topS 3
abbrev n_is_person : List Str := ["many", "thing"]
abbrev p_is_person : List Str := ["many", "thing"]
theorem sc_is_person : FnScope n_is_person p_is_person (defScope s_is_person) := ⟨rfl, rfl, rfl, by decide +kernel, rfl, by decide +kernel, by decide +kernel⟩
abbrev s_are_persons : Stmt := topS 4
abbrev n_are_persons : List Str := ["many", "thing", "one"]
abbrev p_are_persons : List Str := ["many", "thing"]
theorem sc_are_persons : FnScope n_are_persons p_are_persons (defScope s_are_persons) := ⟨rfl, rfl, rfl, by decide +kernel, rfl, by decide +kernel, by decide +kernel⟩
abbrev s_rises : Stmt := topS 5
abbrev n_rises : List Str := ["things", "one", "other"]
abbrev p_rises : List Str := ["things"]
theorem sc_rises : FnScope n_rises p_rises (defScope s_rises) := ⟨rfl, rfl, rfl, by decide +kernel, rfl, by decide +kernel, by decide +kernel⟩
abbrev s_is_rule : Stmt := topS 8
abbrev n_is_rule : List Str := ["many", "thing", "parts", "part", "piece"]
abbrev p_is_rule : List Str := ["many", "thing"]
theorem sc_is_rule : FnScope n_is_rule p_is_rule (defScope s_is_rule) := ⟨rfl, rfl, rfl, by decide +kernel, rfl, by decide +kernel, by decide +kernel⟩
abbrev s_is_part : Stmt := topS 9
abbrev n_is_part : List Str := ["many", "part", "thing"]
abbrev p_is_part : List Str := ["many", "part", "thing"]
theorem sc_is_part : FnScope n_is_part p_is_part (defScope s_is_part) := ⟨rfl, rfl, rfl, by decide +kernel, rfl, by decide +kernel, by decide +kernel⟩
abbrev s_are_ties : Stmt := topS 10
abbrev n_are_ties : List Str := ["many", "thing", "one", "person", "weight"]
abbrev p_are_ties : List Str := ["many", "thing"]
theorem sc_are_ties : FnScope n_are_ties p_are_ties (defScope s_are_ties) := ⟨rfl, rfl, rfl, by decide +kernel, rfl, by decide +kernel, by decide +kernel⟩
abbrev s_is_tie : Stmt := topS 11
abbrev n_is_tie : List Str := ["many", "thing"]
abbrev p_is_tie : List Str := ["many", "thing"]
theorem sc_is_tie : FnScope n_is_tie p_is_tie (defScope s_is_tie) := ⟨rfl, rfl, rfl, by decide +kernel, rfl, by decide +kernel, by decide +kernel⟩
abbrev s_seen_by : Stmt := topS 12
abbrev n_seen_by : List Str := ["rule", "word", "person", "weight"]
abbrev p_seen_by : List Str := ["rule"]
theorem sc_seen_by : FnScope n_seen_by p_seen_by (defScope s_seen_by) := ⟨rfl, rfl, rfl, by decide +kernel, rfl, by decide +kernel, by decide +kernel⟩
abbrev s_told_of : Stmt := topS 13
abbrev n_told_of : List Str := ["rule", "lot", "word", "numbers", "person", "number"]
abbrev p_told_of : List Str := ["rule", "lot"]
theorem sc_told_of : FnScope n_told_of p_told_of (defScope s_told_of) := ⟨rfl, rfl, rfl, by decide +kernel, rfl, by decide +kernel, by decide +kernel⟩
abbrev s_weighed : Stmt := topS 14
abbrev n_weighed : List Str := ["rule", "lot", "weights", "person", "number"]
abbrev p_weighed : List Str := ["rule", "lot"]
theorem sc_weighed : FnScope n_weighed p_weighed (defScope s_weighed) := ⟨rfl, rfl, rfl, by decide +kernel, rfl, by decide +kernel, by decide +kernel⟩
abbrev s_least_free : Stmt := topS 15
abbrev n_least_free : List Str := ["numbers", "least"]
abbrev p_least_free : List Str := ["numbers"]
theorem sc_least_free : FnScope n_least_free p_least_free (defScope s_least_free) := ⟨rfl, rfl, rfl, by decide +kernel, rfl, by decide +kernel, by decide +kernel⟩
abbrev s_lot_below : Stmt := topS 17
abbrev n_lot_below : List Str := ["hall", "standing", "person", "bound", "other"]
abbrev p_lot_below : List Str := ["hall", "standing", "person", "bound"]
theorem sc_lot_below : FnScope n_lot_below p_lot_below (defScope s_lot_below) := ⟨rfl, rfl, rfl, by decide +kernel, rfl, by decide +kernel, by decide +kernel⟩
abbrev s_told_below : Stmt := topS 18
abbrev n_told_below : List Str := ["hall", "standing", "person", "bound"]
abbrev p_told_below : List Str := ["hall", "standing", "person", "bound"]
theorem sc_told_below : FnScope n_told_below p_told_below (defScope s_told_below) := ⟨rfl, rfl, rfl, by decide +kernel, rfl, by decide +kernel, by decide +kernel⟩
abbrev s_told_at : Stmt := topS 19
abbrev n_told_at : List Str := ["hall", "standing", "person"]
abbrev p_told_at : List Str := ["hall", "standing", "person"]
theorem sc_told_at : FnScope n_told_at p_told_at (defScope s_told_at) := ⟨rfl, rfl, rfl, by decide +kernel, rfl, by decide +kernel, by decide +kernel⟩
abbrev s_turned : Stmt := topS 20
abbrev n_turned : List Str := ["hall", "standing", "persons", "shown", "person"]
abbrev p_turned : List Str := ["hall", "standing", "persons"]
theorem sc_turned : FnScope n_turned p_turned (defScope s_turned) := ⟨rfl, rfl, rfl, by decide +kernel, rfl, by decide +kernel, by decide +kernel⟩
abbrev s_beaten : Stmt := topS 22
abbrev n_beaten : List Str := ["hall", "standing"]
abbrev p_beaten : List Str := ["hall", "standing"]
theorem sc_beaten : FnScope n_beaten p_beaten (defScope s_beaten) := ⟨rfl, rfl, rfl, by decide +kernel, rfl, by decide +kernel, by decide +kernel⟩
abbrev s_rest_by_beats : Stmt := topS 23
abbrev n_rest_by_beats : List Str := ["hall", "standing", "beats", "here", "behind"]
abbrev p_rest_by_beats : List Str := ["hall", "standing"]
theorem sc_rest_by_beats : FnScope n_rest_by_beats p_rest_by_beats (defScope s_rest_by_beats) := ⟨rfl, rfl, rfl, by decide +kernel, rfl, by decide +kernel, by decide +kernel⟩
abbrev s_NoPerson_init : Stmt := inClass (topS 27) 0
abbrev n_NoPerson_init : List Str := ["self", "person"]
abbrev p_NoPerson_init : List Str := ["self", "person"]
theorem sc_NoPerson_init : FnScope n_NoPerson_init p_NoPerson_init (defScope s_NoPerson_init) := ⟨rfl, rfl, rfl, by decide +kernel, rfl, by decide +kernel, by decide +kernel⟩
abbrev s_Hall_init : Stmt := inClass (topS 29) 0
abbrev n_Hall_init : List Str := ["self", "rules", "person", "rule"]
abbrev p_Hall_init : List Str := ["self", "rules"]
theorem sc_Hall_init : FnScope n_Hall_init p_Hall_init (defScope s_Hall_init) := ⟨rfl, rfl, rfl, by decide +kernel, rfl, by decide +kernel, by decide +kernel⟩
abbrev s_Hall_must_have : Stmt := inClass (topS 29) 1
abbrev n_Hall_must_have : List Str := ["self", "person"]
abbrev p_Hall_must_have : List Str := ["self", "person"]
theorem sc_Hall_must_have : FnScope n_Hall_must_have p_Hall_must_have (defScope s_Hall_must_have) := ⟨rfl, rfl, rfl, by decide +kernel, rfl, by decide +kernel, by decide +kernel⟩
abbrev s_Hall_rules : Stmt := inClass (topS 29) 2
abbrev n_Hall_rules : List Str := ["self"]
abbrev p_Hall_rules : List Str := ["self"]
theorem sc_Hall_rules : FnScope n_Hall_rules p_Hall_rules (defScope s_Hall_rules) := ⟨rfl, rfl, rfl, by decide +kernel, rfl, by decide +kernel, by decide +kernel⟩
abbrev s_Hall_rule : Stmt := inClass (topS 29) 3
abbrev n_Hall_rule : List Str := ["self", "person"]
abbrev p_Hall_rule : List Str := ["self", "person"]
theorem sc_Hall_rule : FnScope n_Hall_rule p_Hall_rule (defScope s_Hall_rule) := ⟨rfl, rfl, rfl, by decide +kernel, rfl, by decide +kernel, by decide +kernel⟩
abbrev s_Hall_sees : Stmt := inClass (topS 29) 4
abbrev n_Hall_sees : List Str := ["self", "person"]
abbrev p_Hall_sees : List Str := ["self", "person"]
theorem sc_Hall_sees : FnScope n_Hall_sees p_Hall_sees (defScope s_Hall_sees) := ⟨rfl, rfl, rfl, by decide +kernel, rfl, by decide +kernel, by decide +kernel⟩
abbrev s_Hall_seers : Stmt := inClass (topS 29) 5
abbrev n_Hall_seers : List Str := ["self", "person"]
abbrev p_Hall_seers : List Str := ["self", "person"]
theorem sc_Hall_seers : FnScope n_Hall_seers p_Hall_seers (defScope s_Hall_seers) := ⟨rfl, rfl, rfl, by decide +kernel, rfl, by decide +kernel, by decide +kernel⟩
abbrev s_Hall_eq : Stmt := inClass (topS 29) 6
abbrev n_Hall_eq : List Str := ["self", "other"]
abbrev p_Hall_eq : List Str := ["self", "other"]
theorem sc_Hall_eq : FnScope n_Hall_eq p_Hall_eq (defScope s_Hall_eq) := ⟨rfl, rfl, rfl, by decide +kernel, rfl, by decide +kernel, by decide +kernel⟩
abbrev s_Hall_len : Stmt := inClass (topS 29) 7
abbrev n_Hall_len : List Str := ["self"]
abbrev p_Hall_len : List Str := ["self"]
theorem sc_Hall_len : FnScope n_Hall_len p_Hall_len (defScope s_Hall_len) := ⟨rfl, rfl, rfl, by decide +kernel, rfl, by decide +kernel, by decide +kernel⟩
abbrev s_Hall_repr : Stmt := inClass (topS 29) 8
abbrev n_Hall_repr : List Str := ["self"]
abbrev p_Hall_repr : List Str := ["self"]
theorem sc_Hall_repr : FnScope n_Hall_repr p_Hall_repr (defScope s_Hall_repr) := ⟨rfl, rfl, rfl, by decide +kernel, rfl, by decide +kernel, by decide +kernel⟩
abbrev s_with_rule : Stmt := topS 31
abbrev n_with_rule : List Str := ["hall", "person", "rule", "rules"]
abbrev p_with_rule : List Str := ["hall", "person", "rule"]
theorem sc_with_rule : FnScope n_with_rule p_with_rule (defScope s_with_rule) := ⟨rfl, rfl, rfl, by decide +kernel, rfl, by decide +kernel, by decide +kernel⟩
abbrev s_shown_by : Stmt := topS 33
abbrev n_shown_by : List Str := ["standing", "person", "number"]
abbrev p_shown_by : List Str := ["standing", "person", "number"]
theorem sc_shown_by : FnScope n_shown_by p_shown_by (defScope s_shown_by) := ⟨rfl, rfl, rfl, by decide +kernel, rfl, by decide +kernel, by decide +kernel⟩
abbrev s_House_init : Stmt := inClass (topS 35) 0
abbrev n_House_init : List Str := ["self", "hall", "standing"]
abbrev p_House_init : List Str := ["self", "hall", "standing"]
theorem sc_House_init : FnScope n_House_init p_House_init (defScope s_House_init) := ⟨rfl, rfl, rfl, by decide +kernel, rfl, by decide +kernel, by decide +kernel⟩
abbrev s_House_state : Stmt := inClass (topS 35) 1
abbrev n_House_state : List Str := ["self"]
abbrev p_House_state : List Str := ["self"]
theorem sc_House_state : FnScope n_House_state p_House_state (defScope s_House_state) := ⟨rfl, rfl, rfl, by decide +kernel, rfl, by decide +kernel, by decide +kernel⟩
abbrev s_House_remember : Stmt := inClass (topS 35) 2
abbrev n_House_remember : List Str := ["self"]
abbrev p_House_remember : List Str := ["self"]
theorem sc_House_remember : FnScope n_House_remember p_House_remember (defScope s_House_remember) := ⟨rfl, rfl, rfl, by decide +kernel, rfl, by decide +kernel, by decide +kernel⟩
abbrev s_House_move : Stmt := inClass (topS 35) 3
abbrev n_House_move : List Str := ["self", "behind", "changed", "person", "shown"]
abbrev p_House_move : List Str := ["self", "behind"]
theorem sc_House_move : FnScope n_House_move p_House_move (defScope s_House_move) := ⟨rfl, rfl, rfl, by decide +kernel, rfl, by decide +kernel, by decide +kernel⟩
abbrev s_House_turn : Stmt := inClass (topS 35) 4
abbrev n_House_turn : List Str := ["self", "persons", "person"]
abbrev p_House_turn : List Str := ["self", "persons"]
theorem sc_House_turn : FnScope n_House_turn p_House_turn (defScope s_House_turn) := ⟨rfl, rfl, rfl, by decide +kernel, rfl, by decide +kernel, by decide +kernel⟩
abbrev s_House_beat : Stmt := inClass (topS 35) 5
abbrev n_House_beat : List Str := ["self", "many", "hall", "step"]
abbrev p_House_beat : List Str := ["self", "many"]
theorem sc_House_beat : FnScope n_House_beat p_House_beat (defScope s_House_beat) := ⟨rfl, rfl, rfl, by decide +kernel, rfl, by decide +kernel, by decide +kernel⟩
abbrev s_House_rest : Stmt := inClass (topS 35) 6
abbrev n_House_rest : List Str := ["self", "hall", "beats"]
abbrev p_House_rest : List Str := ["self"]
theorem sc_House_rest : FnScope n_House_rest p_House_rest (defScope s_House_rest) := ⟨rfl, rfl, rfl, by decide +kernel, rfl, by decide +kernel, by decide +kernel⟩
abbrev s_House_show : Stmt := inClass (topS 35) 7
abbrev n_House_show : List Str := ["self", "person", "number"]
abbrev p_House_show : List Str := ["self", "person", "number"]
theorem sc_House_show : FnScope n_House_show p_House_show (defScope s_House_show) := ⟨rfl, rfl, rfl, by decide +kernel, rfl, by decide +kernel, by decide +kernel⟩
abbrev s_House_hold : Stmt := inClass (topS 35) 8
abbrev n_House_hold : List Str := ["self", "person"]
abbrev p_House_hold : List Str := ["self", "person"]
theorem sc_House_hold : FnScope n_House_hold p_House_hold (defScope s_House_hold) := ⟨rfl, rfl, rfl, by decide +kernel, rfl, by decide +kernel, by decide +kernel⟩
abbrev s_House_loose : Stmt := inClass (topS 35) 9
abbrev n_House_loose : List Str := ["self", "person"]
abbrev p_House_loose : List Str := ["self", "person"]
theorem sc_House_loose : FnScope n_House_loose p_House_loose (defScope s_House_loose) := ⟨rfl, rfl, rfl, by decide +kernel, rfl, by decide +kernel, by decide +kernel⟩
abbrev s_House_rule : Stmt := inClass (topS 35) 10
abbrev n_House_rule : List Str := ["self", "person", "rule"]
abbrev p_House_rule : List Str := ["self", "person", "rule"]
theorem sc_House_rule : FnScope n_House_rule p_House_rule (defScope s_House_rule) := ⟨rfl, rfl, rfl, by decide +kernel, rfl, by decide +kernel, by decide +kernel⟩
abbrev s_House_undo : Stmt := inClass (topS 35) 11
abbrev n_House_undo : List Str := ["self"]
abbrev p_House_undo : List Str := ["self"]
theorem sc_House_undo : FnScope n_House_undo p_House_undo (defScope s_House_undo) := ⟨rfl, rfl, rfl, by decide +kernel, rfl, by decide +kernel, by decide +kernel⟩
abbrev s_House_done : Stmt := inClass (topS 35) 12
abbrev n_House_done : List Str := ["self", "deed"]
abbrev p_House_done : List Str := ["self", "deed"]
theorem sc_House_done : FnScope n_House_done p_House_done (defScope s_House_done) := ⟨rfl, rfl, rfl, by decide +kernel, rfl, by decide +kernel, by decide +kernel⟩
abbrev s_House_take_over : Stmt := inClass (topS 35) 14
abbrev n_House_take_over : List Str := ["self", "other"]
abbrev p_House_take_over : List Str := ["self", "other"]
theorem sc_House_take_over : FnScope n_House_take_over p_House_take_over (defScope s_House_take_over) := ⟨rfl, rfl, rfl, by decide +kernel, rfl, by decide +kernel, by decide +kernel⟩
abbrev s_House_hall : Stmt := inClass (topS 35) 15
abbrev n_House_hall : List Str := ["self", "rules", "person", "number"]
abbrev p_House_hall : List Str := ["self"]
theorem sc_House_hall : FnScope n_House_hall p_House_hall (defScope s_House_hall) := ⟨rfl, rfl, rfl, by decide +kernel, rfl, by decide +kernel, by decide +kernel⟩
abbrev s_House_standing : Stmt := inClass (topS 35) 16
abbrev n_House_standing : List Str := ["self"]
abbrev p_House_standing : List Str := ["self"]
theorem sc_House_standing : FnScope n_House_standing p_House_standing (defScope s_House_standing) := ⟨rfl, rfl, rfl, by decide +kernel, rfl, by decide +kernel, by decide +kernel⟩
abbrev s_House_held : Stmt := inClass (topS 35) 17
abbrev n_House_held : List Str := ["self", "person", "number"]
abbrev p_House_held : List Str := ["self"]
theorem sc_House_held : FnScope n_House_held p_House_held (defScope s_House_held) := ⟨rfl, rfl, rfl, by decide +kernel, rfl, by decide +kernel, by decide +kernel⟩
abbrev s_House_turns : Stmt := inClass (topS 35) 18
abbrev n_House_turns : List Str := ["self"]
abbrev p_House_turns : List Str := ["self"]
theorem sc_House_turns : FnScope n_House_turns p_House_turns (defScope s_House_turns) := ⟨rfl, rfl, rfl, by decide +kernel, rfl, by decide +kernel, by decide +kernel⟩
abbrev s_House_firm : Stmt := inClass (topS 35) 19
abbrev n_House_firm : List Str := ["self"]
abbrev p_House_firm : List Str := ["self"]
theorem sc_House_firm : FnScope n_House_firm p_House_firm (defScope s_House_firm) := ⟨rfl, rfl, rfl, by decide +kernel, rfl, by decide +kernel, by decide +kernel⟩
abbrev s_House_line : Stmt := inClass (topS 35) 20
abbrev n_House_line : List Str := ["self"]
abbrev p_House_line : List Str := ["self"]
theorem sc_House_line : FnScope n_House_line p_House_line (defScope s_House_line) := ⟨rfl, rfl, rfl, by decide +kernel, rfl, by decide +kernel, by decide +kernel⟩
abbrev s_House_deeds : Stmt := inClass (topS 35) 21
abbrev n_House_deeds : List Str := ["self"]
abbrev p_House_deeds : List Str := ["self"]
theorem sc_House_deeds : FnScope n_House_deeds p_House_deeds (defScope s_House_deeds) := ⟨rfl, rfl, rfl, by decide +kernel, rfl, by decide +kernel, by decide +kernel⟩
abbrev s_House_log : Stmt := inClass (topS 35) 22
abbrev n_House_log : List Str := ["self"]
abbrev p_House_log : List Str := ["self"]
theorem sc_House_log : FnScope n_House_log p_House_log (defScope s_House_log) := ⟨rfl, rfl, rfl, by decide +kernel, rfl, by decide +kernel, by decide +kernel⟩
abbrev s_House_twin : Stmt := inClass (topS 35) 23
abbrev n_House_twin : List Str := ["self"]
abbrev p_House_twin : List Str := ["self"]
theorem sc_House_twin : FnScope n_House_twin p_House_twin (defScope s_House_twin) := ⟨rfl, rfl, rfl, by decide +kernel, rfl, by decide +kernel, by decide +kernel⟩
abbrev s_House_eq : Stmt := inClass (topS 35) 24
abbrev n_House_eq : List Str := ["self", "other"]
abbrev p_House_eq : List Str := ["self", "other"]
theorem sc_House_eq : FnScope n_House_eq p_House_eq (defScope s_House_eq) := ⟨rfl, rfl, rfl, by decide +kernel, rfl, by decide +kernel, by decide +kernel⟩
abbrev s_House_len : Stmt := inClass (topS 35) 25
abbrev n_House_len : List Str := ["self"]
abbrev p_House_len : List Str := ["self"]
theorem sc_House_len : FnScope n_House_len p_House_len (defScope s_House_len) := ⟨rfl, rfl, rfl, by decide +kernel, rfl, by decide +kernel, by decide +kernel⟩
abbrev s_dip : Stmt := topS 37
abbrev n_dip : List Str := ["_law_script", "_law_k", "_law_cell"]
abbrev p_dip : List Str := ["_law_script", "_law_k"]
theorem sc_dip : FnScope n_dip p_dip (defScope s_dip) := ⟨rfl, rfl, rfl, by decide +kernel, rfl, by decide +kernel, by decide +kernel⟩
abbrev s_take : Stmt := topS 38
abbrev n_take : List Str := ["_law_box", "_law_many", "_law_found", "_law_once", "_law_pair"]
abbrev p_take : List Str := ["_law_box", "_law_many"]
theorem sc_take : FnScope n_take p_take (defScope s_take) := ⟨rfl, rfl, rfl, by decide +kernel, rfl, by decide +kernel, by decide +kernel⟩
abbrev s_folded : Stmt := topS 39
abbrev n_folded : List Str := ["_law_script", "_law_many", "_law_cells", "_law_k", "_law_cell"]
abbrev p_folded : List Str := ["_law_script", "_law_many"]
theorem sc_folded : FnScope n_folded p_folded (defScope s_folded) := ⟨rfl, rfl, rfl, by decide +kernel, rfl, by decide +kernel, by decide +kernel⟩
abbrev s_strewn : Stmt := topS 40
abbrev n_strewn : List Str := ["_law_box", "_law_pool", "_law_found", "_law_one"]
abbrev p_strewn : List Str := ["_law_box", "_law_pool"]
theorem sc_strewn : FnScope n_strewn p_strewn (defScope s_strewn) := ⟨rfl, rfl, rfl, by decide +kernel, rfl, by decide +kernel, by decide +kernel⟩
abbrev s_same : Stmt := topS 41
abbrev n_same : List Str := ["_law_found", "_law_due", "_law_one", "_law_two"]
abbrev p_same : List Str := ["_law_found", "_law_due"]
theorem sc_same : FnScope n_same p_same (defScope s_same) := ⟨rfl, rfl, rfl, by decide +kernel, rfl, by decide +kernel, by decide +kernel⟩
abbrev s_some : Stmt := topS 42
abbrev n_some : List Str := ["_law_box", "_law_pool", "_law_odds", "_law_one"]
abbrev p_some : List Str := ["_law_box", "_law_pool", "_law_odds"]
theorem sc_some : FnScope n_some p_some (defScope s_some) := ⟨rfl, rfl, rfl, by decide +kernel, rfl, by decide +kernel, by decide +kernel⟩
abbrev s_sum_rule : Stmt := topS 43
abbrev n_sum_rule : List Str := ["_law_box", "_law_seen_here", "_law_far", "_law_own", "_law_ties", "_law_one"]
abbrev p_sum_rule : List Str := ["_law_box", "_law_seen_here", "_law_far"]
theorem sc_sum_rule : FnScope n_sum_rule p_sum_rule (defScope s_sum_rule) := ⟨rfl, rfl, rfl, by decide +kernel, rfl, by decide +kernel, by decide +kernel⟩
abbrev s_rule : Stmt := topS 44
abbrev n_rule : List Str := ["_law_box", "_law_many", "_law_pool", "_law_far", "_law_seen_here", "_law_way"]
abbrev p_rule : List Str := ["_law_box", "_law_many", "_law_pool", "_law_far"]
theorem sc_rule : FnScope n_rule p_rule (defScope s_rule) := ⟨rfl, rfl, rfl, by decide +kernel, rfl, by decide +kernel, by decide +kernel⟩
abbrev s_hall : Stmt := topS 45
abbrev n_hall : List Str := ["_law_box", "_law_many", "_law_rules", "_law_one", "_law_seen_here", "_law_other"]
abbrev p_hall : List Str := ["_law_box"]
theorem sc_hall : FnScope n_hall p_hall (defScope s_hall) := ⟨rfl, rfl, rfl, by decide +kernel, rfl, by decide +kernel, by decide +kernel⟩
abbrev s_flat : Stmt := topS 46
abbrev n_flat : List Str := ["_law_box", "_law_most", "_law_many", "_law_order", "_law_rules", "_law_k", "_law_one"]
abbrev p_flat : List Str := ["_law_box", "_law_most"]
theorem sc_flat : FnScope n_flat p_flat (defScope s_flat) := ⟨rfl, rfl, rfl, by decide +kernel, rfl, by decide +kernel, by decide +kernel⟩
abbrev s_shown : Stmt := topS 47
abbrev n_shown : List Str := ["_law_box", "_law_rules", "_law_way", "_law_found", "_law_rule_here"]
abbrev p_shown : List Str := ["_law_box", "_law_rules"]
theorem sc_shown : FnScope n_shown p_shown (defScope s_shown) := ⟨rfl, rfl, rfl, by decide +kernel, rfl, by decide +kernel, by decide +kernel⟩
abbrev s_seen : Stmt := topS 48
abbrev n_seen : List Str := ["_law_rule_here", "_law_one"]
abbrev p_seen : List Str := ["_law_rule_here"]
theorem sc_seen : FnScope n_seen p_seen (defScope s_seen) := ⟨rfl, rfl, rfl, by decide +kernel, rfl, by decide +kernel, by decide +kernel⟩
abbrev s_lot : Stmt := topS 49
abbrev n_lot : List Str := ["_law_rules", "_law_shown_here", "_law_one", "_law_other", "_law_weight"]
abbrev p_lot : List Str := ["_law_rules", "_law_shown_here", "_law_one"]
theorem sc_lot : FnScope n_lot p_lot (defScope s_lot) := ⟨rfl, rfl, rfl, by decide +kernel, rfl, by decide +kernel, by decide +kernel⟩
abbrev s_tells : Stmt := topS 50
abbrev n_tells : List Str := ["_law_rule_here", "_law_lot_here", "_law_word", "_law_numbers", "_law_other", "_law_number", "_law_k", "_law_weights", "_law_there", "_law_total"]
abbrev p_tells : List Str := ["_law_rule_here", "_law_lot_here"]
theorem sc_tells : FnScope n_tells p_tells (defScope s_tells) := ⟨rfl, rfl, rfl, by decide +kernel, rfl, by decide +kernel, by decide +kernel⟩
abbrev s_law_turned : Stmt := topS 51
abbrev n_law_turned : List Str := ["_law_rules", "_law_shown_here", "_law_persons", "_law_told", "_law_one", "_law_number"]
abbrev p_law_turned : List Str := ["_law_rules", "_law_shown_here", "_law_persons"]
theorem sc_law_turned : FnScope n_law_turned p_law_turned (defScope s_law_turned) := ⟨rfl, rfl, rfl, by decide +kernel, rfl, by decide +kernel, by decide +kernel⟩
abbrev s_restless : Stmt := topS 52
abbrev n_restless : List Str := ["_law_rules", "_law_shown_here", "_law_later", "_law_one", "_law_number"]
abbrev p_restless : List Str := ["_law_rules", "_law_shown_here"]
theorem sc_restless : FnScope n_restless p_restless (defScope s_restless) := ⟨rfl, rfl, rfl, by decide +kernel, rfl, by decide +kernel, by decide +kernel⟩
abbrev s_law_beaten : Stmt := topS 53
abbrev n_law_beaten : List Str := ["_law_rules", "_law_shown_here"]
abbrev p_law_beaten : List Str := ["_law_rules", "_law_shown_here"]
theorem sc_law_beaten : FnScope n_law_beaten p_law_beaten (defScope s_law_beaten) := ⟨rfl, rfl, rfl, by decide +kernel, rfl, by decide +kernel, by decide +kernel⟩
abbrev s_refused : Stmt := topS 54
abbrev n_refused : List Str := ["_law_house", "_law_persons", "_law_caught", "error"]
abbrev p_refused : List Str := ["_law_house", "_law_persons"]
theorem sc_refused : FnScope n_refused p_refused (defScope s_refused) := ⟨rfl, rfl, rfl, by decide +kernel, rfl, by decide +kernel, by decide +kernel⟩
abbrev s_gone : Stmt := topS 55
abbrev n_gone : List Str := ["_law_rules", "_law_shown_here", "_law_beats", "_law_changes", "_law_many", "_law_found"]
abbrev p_gone : List Str := ["_law_rules", "_law_shown_here", "_law_beats"]
theorem sc_gone : FnScope n_gone p_gone (defScope s_gone) := ⟨rfl, rfl, rfl, by decide +kernel, rfl, by decide +kernel, by decide +kernel⟩
abbrev s_step_right : Stmt := topS 56
abbrev n_step_right : List Str := ["_law_box", "_law_house", "_law_now", "_law_rules", "_law_shown_here", "_law_way", "_law_beats", "_law_some_here", "_law_later", "_law_due", "_law_one", "_law_number", "_law_found", "_law_more", "_law_fine"]
abbrev p_step_right : List Str := ["_law_box", "_law_house", "_law_now", "_law_rules"]
theorem sc_step_right : FnScope n_step_right p_step_right (defScope s_step_right) := ⟨rfl, rfl, rfl, by decide +kernel, rfl, by decide +kernel, by decide +kernel⟩
abbrev s_right : Stmt := topS 57
abbrev n_right : List Str := ["_law_box", "_law_rules", "_law_now", "_law_house", "_law_turn", "_law_told", "_law_far", "_law_due"]
abbrev p_right : List Str := ["_law_box"]
theorem sc_right : FnScope n_right p_right (defScope s_right) := ⟨rfl, rfl, rfl, by decide +kernel, rfl, by decide +kernel, by decide +kernel⟩
abbrev s_law : Stmt := topS 58
abbrev n_law : List Str := ["_law_script", "_law_cells", "_law_k"]
abbrev p_law : List Str := ["_law_script"]
theorem sc_law : FnScope n_law p_law (defScope s_law) := ⟨rfl, rfl, rfl, by decide +kernel, rfl, by decide +kernel, by decide +kernel⟩
structure FnT (K : PySem.W.Frag) (nm qual : Str) (st : Stmt) (ps : List Str) where
  f : Addr
  fd : FuncData
  F : Fun K nm qual st f fd
  b : Binds K fd ps []
structure FnDT (K : PySem.W.Frag) (nm qual : Str) (st : Stmt) (ps : List Str) (dvs : List V) where
  f : Addr
  fd : FuncData
  F : FunD K nm qual (defArgs st) (defBody st) (defScope st) dvs [] f fd
  b : Binds K fd ps []
  b1 : ∃ ds, Vals dvs ds ∧ Binds K fd ps ds
structure Txt (K : PySem.W.Frag) (mg : Str → Option Value) (w : World) where
  t__wall : FnT K "_wall" "_wall" s__wall p__wall
  g__wall : mg "_wall" = some (.ref t__wall.f)
  t_is_number : FnT K "is_number" "is_number" s_is_number p_is_number
  g_is_number : mg "is_number" = some (.ref t_is_number.f)
  t_is_person : FnT K "is_person" "is_person" s_is_person p_is_person
  g_is_person : mg "is_person" = some (.ref t_is_person.f)
  t_are_persons : FnT K "are_persons" "are_persons" s_are_persons p_are_persons
  g_are_persons : mg "are_persons" = some (.ref t_are_persons.f)
  t_rises : FnT K "rises" "rises" s_rises p_rises
  g_rises : mg "rises" = some (.ref t_rises.f)
  t_is_rule : FnT K "is_rule" "is_rule" s_is_rule p_is_rule
  g_is_rule : mg "is_rule" = some (.ref t_is_rule.f)
  t_is_part : FnT K "is_part" "is_part" s_is_part p_is_part
  g_is_part : mg "is_part" = some (.ref t_is_part.f)
  t_are_ties : FnT K "are_ties" "are_ties" s_are_ties p_are_ties
  g_are_ties : mg "are_ties" = some (.ref t_are_ties.f)
  t_is_tie : FnT K "is_tie" "is_tie" s_is_tie p_is_tie
  g_is_tie : mg "is_tie" = some (.ref t_is_tie.f)
  t_seen_by : FnT K "seen_by" "seen_by" s_seen_by p_seen_by
  g_seen_by : mg "seen_by" = some (.ref t_seen_by.f)
  t_told_of : FnT K "told_of" "told_of" s_told_of p_told_of
  g_told_of : mg "told_of" = some (.ref t_told_of.f)
  t_weighed : FnT K "weighed" "weighed" s_weighed p_weighed
  g_weighed : mg "weighed" = some (.ref t_weighed.f)
  t_least_free : FnT K "least_free" "least_free" s_least_free p_least_free
  g_least_free : mg "least_free" = some (.ref t_least_free.f)
  t_lot_below : FnT K "lot_below" "lot_below" s_lot_below p_lot_below
  g_lot_below : mg "lot_below" = some (.ref t_lot_below.f)
  t_told_below : FnT K "told_below" "told_below" s_told_below p_told_below
  g_told_below : mg "told_below" = some (.ref t_told_below.f)
  t_told_at : FnT K "told_at" "told_at" s_told_at p_told_at
  g_told_at : mg "told_at" = some (.ref t_told_at.f)
  t_turned : FnT K "turned" "turned" s_turned p_turned
  g_turned : mg "turned" = some (.ref t_turned.f)
  t_beaten : FnT K "beaten" "beaten" s_beaten p_beaten
  g_beaten : mg "beaten" = some (.ref t_beaten.f)
  t_rest_by_beats : FnT K "rest_by_beats" "rest_by_beats" s_rest_by_beats p_rest_by_beats
  g_rest_by_beats : mg "rest_by_beats" = some (.ref t_rest_by_beats.f)
  t_NoPerson_init : FnT K "__init__" "NoPerson.__init__" s_NoPerson_init p_NoPerson_init
  t_Hall_init : FnT K "__init__" "Hall.__init__" s_Hall_init p_Hall_init
  t_Hall_must_have : FnT K "must_have" "Hall.must_have" s_Hall_must_have p_Hall_must_have
  t_Hall_rules : FnT K "rules" "Hall.rules" s_Hall_rules p_Hall_rules
  t_Hall_rule : FnT K "rule" "Hall.rule" s_Hall_rule p_Hall_rule
  t_Hall_sees : FnT K "sees" "Hall.sees" s_Hall_sees p_Hall_sees
  t_Hall_seers : FnT K "seers" "Hall.seers" s_Hall_seers p_Hall_seers
  t_Hall_eq : FnT K "__eq__" "Hall.__eq__" s_Hall_eq p_Hall_eq
  t_Hall_len : FnT K "__len__" "Hall.__len__" s_Hall_len p_Hall_len
  t_Hall_repr : FnT K "__repr__" "Hall.__repr__" s_Hall_repr p_Hall_repr
  t_with_rule : FnT K "with_rule" "with_rule" s_with_rule p_with_rule
  g_with_rule : mg "with_rule" = some (.ref t_with_rule.f)
  t_shown_by : FnT K "shown_by" "shown_by" s_shown_by p_shown_by
  g_shown_by : mg "shown_by" = some (.ref t_shown_by.f)
  t_House_init : FnT K "__init__" "House.__init__" s_House_init p_House_init
  t_House_state : FnT K "state" "House.state" s_House_state p_House_state
  t_House_remember : FnT K "remember" "House.remember" s_House_remember p_House_remember
  t_House_move : FnT K "move" "House.move" s_House_move p_House_move
  t_House_turn : FnT K "turn" "House.turn" s_House_turn p_House_turn
  t_House_beat : FnDT K "beat" "House.beat" s_House_beat p_House_beat [.int 1]
  t_House_rest : FnT K "rest" "House.rest" s_House_rest p_House_rest
  t_House_show : FnT K "show" "House.show" s_House_show p_House_show
  t_House_hold : FnT K "hold" "House.hold" s_House_hold p_House_hold
  t_House_loose : FnT K "loose" "House.loose" s_House_loose p_House_loose
  t_House_rule : FnT K "rule" "House.rule" s_House_rule p_House_rule
  t_House_undo : FnT K "undo" "House.undo" s_House_undo p_House_undo
  t_House_done : FnT K "done" "House.done" s_House_done p_House_done
  t_House_take_over : FnT K "take_over" "House.take_over" s_House_take_over p_House_take_over
  t_House_hall : FnT K "hall" "House.hall" s_House_hall p_House_hall
  t_House_standing : FnT K "standing" "House.standing" s_House_standing p_House_standing
  t_House_held : FnT K "held" "House.held" s_House_held p_House_held
  t_House_turns : FnT K "turns" "House.turns" s_House_turns p_House_turns
  t_House_firm : FnT K "firm" "House.firm" s_House_firm p_House_firm
  t_House_line : FnT K "line" "House.line" s_House_line p_House_line
  t_House_deeds : FnT K "deeds" "House.deeds" s_House_deeds p_House_deeds
  t_House_log : FnT K "log" "House.log" s_House_log p_House_log
  t_House_twin : FnT K "twin" "House.twin" s_House_twin p_House_twin
  t_House_eq : FnT K "__eq__" "House.__eq__" s_House_eq p_House_eq
  t_House_len : FnT K "__len__" "House.__len__" s_House_len p_House_len
  t_dip : FnT K "_law_dip" "_law_dip" s_dip p_dip
  g_dip : mg "_law_dip" = some (.ref t_dip.f)
  t_take : FnT K "_law_take" "_law_take" s_take p_take
  g_take : mg "_law_take" = some (.ref t_take.f)
  t_folded : FnT K "_law_folded" "_law_folded" s_folded p_folded
  g_folded : mg "_law_folded" = some (.ref t_folded.f)
  t_strewn : FnT K "_law_strewn" "_law_strewn" s_strewn p_strewn
  g_strewn : mg "_law_strewn" = some (.ref t_strewn.f)
  t_same : FnT K "_law_same" "_law_same" s_same p_same
  g_same : mg "_law_same" = some (.ref t_same.f)
  t_some : FnT K "_law_some" "_law_some" s_some p_some
  g_some : mg "_law_some" = some (.ref t_some.f)
  t_sum_rule : FnT K "_law_sum_rule" "_law_sum_rule" s_sum_rule p_sum_rule
  g_sum_rule : mg "_law_sum_rule" = some (.ref t_sum_rule.f)
  t_rule : FnT K "_law_rule" "_law_rule" s_rule p_rule
  g_rule : mg "_law_rule" = some (.ref t_rule.f)
  t_hall : FnT K "_law_hall" "_law_hall" s_hall p_hall
  g_hall : mg "_law_hall" = some (.ref t_hall.f)
  t_flat : FnT K "_law_flat" "_law_flat" s_flat p_flat
  g_flat : mg "_law_flat" = some (.ref t_flat.f)
  t_shown : FnT K "_law_shown" "_law_shown" s_shown p_shown
  g_shown : mg "_law_shown" = some (.ref t_shown.f)
  t_seen : FnT K "_law_seen" "_law_seen" s_seen p_seen
  g_seen : mg "_law_seen" = some (.ref t_seen.f)
  t_lot : FnT K "_law_lot" "_law_lot" s_lot p_lot
  g_lot : mg "_law_lot" = some (.ref t_lot.f)
  t_tells : FnT K "_law_tells" "_law_tells" s_tells p_tells
  g_tells : mg "_law_tells" = some (.ref t_tells.f)
  t_law_turned : FnT K "_law_turned" "_law_turned" s_law_turned p_law_turned
  g_law_turned : mg "_law_turned" = some (.ref t_law_turned.f)
  t_restless : FnT K "_law_restless" "_law_restless" s_restless p_restless
  g_restless : mg "_law_restless" = some (.ref t_restless.f)
  t_law_beaten : FnT K "_law_beaten" "_law_beaten" s_law_beaten p_law_beaten
  g_law_beaten : mg "_law_beaten" = some (.ref t_law_beaten.f)
  t_refused : FnT K "_law_refused" "_law_refused" s_refused p_refused
  g_refused : mg "_law_refused" = some (.ref t_refused.f)
  t_gone : FnT K "_law_gone" "_law_gone" s_gone p_gone
  g_gone : mg "_law_gone" = some (.ref t_gone.f)
  t_step_right : FnT K "_law_step_right" "_law_step_right" s_step_right p_step_right
  g_step_right : mg "_law_step_right" = some (.ref t_step_right.f)
  t_right : FnT K "_law_right" "_law_right" s_right p_right
  g_right : mg "_law_right" = some (.ref t_right.f)
  t_law : FnT K "law" "law" s_law p_law
  g_law : mg "law" = some (.ref t_law.f)
  C_Hall : Addr
  g_Hall : mg "Hall" = some (.ref C_Hall)
  cl_Hall : Cls K C_Hall
  mk_Hall : Mk K C_Hall t_Hall_init.f
  me_Hall_init : Meth K C_Hall "__init__" t_Hall_init.f
  me_Hall_must_have : Meth K C_Hall "must_have" t_Hall_must_have.f
  me_Hall_rules : Meth K C_Hall "rules" t_Hall_rules.f
  me_Hall_rule : Meth K C_Hall "rule" t_Hall_rule.f
  me_Hall_sees : Meth K C_Hall "sees" t_Hall_sees.f
  me_Hall_seers : Meth K C_Hall "seers" t_Hall_seers.f
  me_Hall_eq : Meth K C_Hall "__eq__" t_Hall_eq.f
  me_Hall_len : Meth K C_Hall "__len__" t_Hall_len.f
  me_Hall_repr : Meth K C_Hall "__repr__" t_Hall_repr.f
  na_Hall_kept : NoAttr K C_Hall "kept"
  ne_Hall : PySem.W.findIn K (.ref C_Hall) "__ne__" = some (some (.builtin "object.__ne__"))
  is_Hall : C8.InsC K C_Hall
  C_House : Addr
  g_House : mg "House" = some (.ref C_House)
  cl_House : Cls K C_House
  mk_House : Mk K C_House t_House_init.f
  me_House_init : Meth K C_House "__init__" t_House_init.f
  me_House_state : Meth K C_House "state" t_House_state.f
  me_House_remember : Meth K C_House "remember" t_House_remember.f
  me_House_move : Meth K C_House "move" t_House_move.f
  me_House_turn : Meth K C_House "turn" t_House_turn.f
  me_House_beat : Meth K C_House "beat" t_House_beat.f
  me_House_rest : Meth K C_House "rest" t_House_rest.f
  me_House_show : Meth K C_House "show" t_House_show.f
  me_House_hold : Meth K C_House "hold" t_House_hold.f
  me_House_loose : Meth K C_House "loose" t_House_loose.f
  me_House_rule : Meth K C_House "rule" t_House_rule.f
  me_House_undo : Meth K C_House "undo" t_House_undo.f
  me_House_done : Meth K C_House "done" t_House_done.f
  me_House_take_over : Meth K C_House "take_over" t_House_take_over.f
  me_House_hall : Meth K C_House "hall" t_House_hall.f
  me_House_standing : Meth K C_House "standing" t_House_standing.f
  me_House_held : Meth K C_House "held" t_House_held.f
  me_House_turns : Meth K C_House "turns" t_House_turns.f
  me_House_firm : Meth K C_House "firm" t_House_firm.f
  me_House_line : Meth K C_House "line" t_House_line.f
  me_House_deeds : Meth K C_House "deeds" t_House_deeds.f
  me_House_log : Meth K C_House "log" t_House_log.f
  me_House_twin : Meth K C_House "twin" t_House_twin.f
  me_House_eq : Meth K C_House "__eq__" t_House_eq.f
  me_House_len : Meth K C_House "__len__" t_House_len.f
  na_House_changes : NoAttr K C_House "changes"
  na_House_entries : NoAttr K C_House "entries"
  na_House_own : NoAttr K C_House "own"
  na_House_past : NoAttr K C_House "past"
  na_House_pins : NoAttr K C_House "pins"
  na_House_shown : NoAttr K C_House "shown"
  C_BadHall : Addr
  g_BadHall : mg "BadHall" = some (.ref C_BadHall)
  C_BadRule : Addr
  g_BadRule : mg "BadRule" = some (.ref C_BadRule)
  C_NoPerson : Addr
  g_NoPerson : mg "NoPerson" = some (.ref C_NoPerson)
  ox_NoPerson : OvC K C_NoPerson "IndexError" "IndexError.__new__" "IndexError.__init__" [.type "IndexError", .type "LookupError", .type "Exception", .type "BaseException", .type "object"]
  me_NoPerson_init : Meth K C_NoPerson "__init__" t_NoPerson_init.f
  ti_NoPerson : PySem.W.typeIn K (.ref t_NoPerson_init.f) = some (.type "function")
  na_NoPerson_person : PySem.W.findIn K (.ref C_NoPerson) "person" = some none
  xf_NoPerson : XfC K C_NoPerson
  xc_NoPerson : ExcC K C_NoPerson
  em_NoPerson_BadRule : PySem.W.exmOne K (.ref C_NoPerson) (.ref C_BadRule) = some false
  em_NoPerson_NoPerson : PySem.W.exmOne K (.ref C_NoPerson) (.ref C_NoPerson) = some true
  ki_NoPerson_NoPerson : PySem.W.kitOne K (.ref C_NoPerson) (.ref C_NoPerson) = some true
  ki_NoPerson_IndexError : PySem.W.kitOne K (.ref C_NoPerson) (.type "IndexError") = some true
  vi_IndexError : PySem.W.findCls K (.type "IndexError") (.type "type") "__init__" = some (.val (.builtin "IndexError.__init__"))
  D_PARTS : Addr
  g_PARTS : mg "PARTS" = some (.ref D_PARTS)
  es_PARTS : Array DictEntry
  en_PARTS : Nat
  kd_PARTS : KDict K w D_PARTS es_PARTS en_PARTS
  t_PARTS_held : Addr
  dk_PARTS_held : PySem.W.nsIn K D_PARTS "held" = some (some (.ref t_PARTS_held))
  sq_PARTS_held : ∀ H, SqT K H t_PARTS_held [.str "number"]
  t_PARTS_sum : Addr
  dk_PARTS_sum : PySem.W.nsIn K D_PARTS "sum" = some (some (.ref t_PARTS_sum))
  sq_PARTS_sum : ∀ H, SqT K H t_PARTS_sum [.str "number", .str "ties"]
  t_PARTS_cap : Addr
  dk_PARTS_cap : PySem.W.nsIn K D_PARTS "cap" = some (some (.ref t_PARTS_cap))
  sq_PARTS_cap : ∀ H, SqT K H t_PARTS_cap [.str "number", .str "ties", .str "number"]
  t_PARTS_kinds : Addr
  dk_PARTS_kinds : PySem.W.nsIn K D_PARTS "kinds" = some (some (.ref t_PARTS_kinds))
  sq_PARTS_kinds : ∀ H, SqT K H t_PARTS_kinds [.str "number", .str "seen"]
  t_PARTS_next : Addr
  dk_PARTS_next : PySem.W.nsIn K D_PARTS "next" = some (some (.ref t_PARTS_next))
  sq_PARTS_next : ∀ H, SqT K H t_PARTS_next [.str "seen"]
  t_PARTS_free : Addr
  dk_PARTS_free : PySem.W.nsIn K D_PARTS "free" = some (some (.ref t_PARTS_free))
  sq_PARTS_free : ∀ H, SqT K H t_PARTS_free [.str "seen"]
  m_IndexError : mg "IndexError" = none
  m_abs : mg "abs" = none
  m_all : mg "all" = none
  m_bool : mg "bool" = none
  m_dict : mg "dict" = none
  m_enumerate : mg "enumerate" = none
  m_int : mg "int" = none
  m_isinstance : mg "isinstance" = none
  m_len : mg "len" = none
  m_list : mg "list" = none
  m_max : mg "max" = none
  m_min : mg "min" = none
  m_range : mg "range" = none
  m_set : mg "set" = none
  m_sorted : mg "sorted" = none
  m_str : mg "str" = none
  m_sum : mg "sum" = none
  m_tuple : mg "tuple" = none
  m_zip : mg "zip" = none
abbrev Txt.f__wall {K : PySem.W.Frag} {mg : Str → Option Value} {w : World} (T : Txt K mg w) : Addr := T.t__wall.f
abbrev Txt.fd__wall {K : PySem.W.Frag} {mg : Str → Option Value} {w : World} (T : Txt K mg w) : FuncData := T.t__wall.fd
theorem Txt.F__wall {K : PySem.W.Frag} {mg : Str → Option Value} {w : World} (T : Txt K mg w) : Fun K "_wall" "_wall" s__wall T.f__wall T.fd__wall := T.t__wall.F
theorem Txt.b__wall {K : PySem.W.Frag} {mg : Str → Option Value} {w : World} (T : Txt K mg w) : Binds K T.fd__wall p__wall [] := T.t__wall.b
abbrev Txt.f_is_number {K : PySem.W.Frag} {mg : Str → Option Value} {w : World} (T : Txt K mg w) : Addr := T.t_is_number.f
abbrev Txt.fd_is_number {K : PySem.W.Frag} {mg : Str → Option Value} {w : World} (T : Txt K mg w) : FuncData := T.t_is_number.fd
theorem Txt.F_is_number {K : PySem.W.Frag} {mg : Str → Option Value} {w : World} (T : Txt K mg w) : Fun K "is_number" "is_number" s_is_number T.f_is_number T.fd_is_number := T.t_is_number.F
theorem Txt.b_is_number {K : PySem.W.Frag} {mg : Str → Option Value} {w : World} (T : Txt K mg w) : Binds K T.fd_is_number p_is_number [] := T.t_is_number.b
abbrev Txt.f_is_person {K : PySem.W.Frag} {mg : Str → Option Value} {w : World} (T : Txt K mg w) : Addr := T.t_is_person.f
abbrev Txt.fd_is_person {K : PySem.W.Frag} {mg : Str → Option Value} {w : World} (T : Txt K mg w) : FuncData := T.t_is_person.fd
theorem Txt.F_is_person {K : PySem.W.Frag} {mg : Str → Option Value} {w : World} (T : Txt K mg w) : Fun K "is_person" "is_person" s_is_person T.f_is_person T.fd_is_person := T.t_is_person.F
theorem Txt.b_is_person {K : PySem.W.Frag} {mg : Str → Option Value} {w : World} (T : Txt K mg w) : Binds K T.fd_is_person p_is_person [] := T.t_is_person.b
abbrev Txt.f_are_persons {K : PySem.W.Frag} {mg : Str → Option Value} {w : World} (T : Txt K mg w) : Addr := T.t_are_persons.f
abbrev Txt.fd_are_persons {K : PySem.W.Frag} {mg : Str → Option Value} {w : World} (T : Txt K mg w) : FuncData := T.t_are_persons.fd
theorem Txt.F_are_persons {K : PySem.W.Frag} {mg : Str → Option Value} {w : World} (T : Txt K mg w) : Fun K "are_persons" "are_persons" s_are_persons T.f_are_persons T.fd_are_persons := T.t_are_persons.F
theorem Txt.b_are_persons {K : PySem.W.Frag} {mg : Str → Option Value} {w : World} (T : Txt K mg w) : Binds K T.fd_are_persons p_are_persons [] := T.t_are_persons.b
abbrev Txt.f_rises {K : PySem.W.Frag} {mg : Str → Option Value} {w : World} (T : Txt K mg w) : Addr := T.t_rises.f
abbrev Txt.fd_rises {K : PySem.W.Frag} {mg : Str → Option Value} {w : World} (T : Txt K mg w) : FuncData := T.t_rises.fd
theorem Txt.F_rises {K : PySem.W.Frag} {mg : Str → Option Value} {w : World} (T : Txt K mg w) : Fun K "rises" "rises" s_rises T.f_rises T.fd_rises := T.t_rises.F
theorem Txt.b_rises {K : PySem.W.Frag} {mg : Str → Option Value} {w : World} (T : Txt K mg w) : Binds K T.fd_rises p_rises [] := T.t_rises.b
abbrev Txt.f_is_rule {K : PySem.W.Frag} {mg : Str → Option Value} {w : World} (T : Txt K mg w) : Addr := T.t_is_rule.f
abbrev Txt.fd_is_rule {K : PySem.W.Frag} {mg : Str → Option Value} {w : World} (T : Txt K mg w) : FuncData := T.t_is_rule.fd
theorem Txt.F_is_rule {K : PySem.W.Frag} {mg : Str → Option Value} {w : World} (T : Txt K mg w) : Fun K "is_rule" "is_rule" s_is_rule T.f_is_rule T.fd_is_rule := T.t_is_rule.F
theorem Txt.b_is_rule {K : PySem.W.Frag} {mg : Str → Option Value} {w : World} (T : Txt K mg w) : Binds K T.fd_is_rule p_is_rule [] := T.t_is_rule.b
abbrev Txt.f_is_part {K : PySem.W.Frag} {mg : Str → Option Value} {w : World} (T : Txt K mg w) : Addr := T.t_is_part.f
abbrev Txt.fd_is_part {K : PySem.W.Frag} {mg : Str → Option Value} {w : World} (T : Txt K mg w) : FuncData := T.t_is_part.fd
theorem Txt.F_is_part {K : PySem.W.Frag} {mg : Str → Option Value} {w : World} (T : Txt K mg w) : Fun K "is_part" "is_part" s_is_part T.f_is_part T.fd_is_part := T.t_is_part.F
theorem Txt.b_is_part {K : PySem.W.Frag} {mg : Str → Option Value} {w : World} (T : Txt K mg w) : Binds K T.fd_is_part p_is_part [] := T.t_is_part.b
abbrev Txt.f_are_ties {K : PySem.W.Frag} {mg : Str → Option Value} {w : World} (T : Txt K mg w) : Addr := T.t_are_ties.f
abbrev Txt.fd_are_ties {K : PySem.W.Frag} {mg : Str → Option Value} {w : World} (T : Txt K mg w) : FuncData := T.t_are_ties.fd
theorem Txt.F_are_ties {K : PySem.W.Frag} {mg : Str → Option Value} {w : World} (T : Txt K mg w) : Fun K "are_ties" "are_ties" s_are_ties T.f_are_ties T.fd_are_ties := T.t_are_ties.F
theorem Txt.b_are_ties {K : PySem.W.Frag} {mg : Str → Option Value} {w : World} (T : Txt K mg w) : Binds K T.fd_are_ties p_are_ties [] := T.t_are_ties.b
abbrev Txt.f_is_tie {K : PySem.W.Frag} {mg : Str → Option Value} {w : World} (T : Txt K mg w) : Addr := T.t_is_tie.f
abbrev Txt.fd_is_tie {K : PySem.W.Frag} {mg : Str → Option Value} {w : World} (T : Txt K mg w) : FuncData := T.t_is_tie.fd
theorem Txt.F_is_tie {K : PySem.W.Frag} {mg : Str → Option Value} {w : World} (T : Txt K mg w) : Fun K "is_tie" "is_tie" s_is_tie T.f_is_tie T.fd_is_tie := T.t_is_tie.F
theorem Txt.b_is_tie {K : PySem.W.Frag} {mg : Str → Option Value} {w : World} (T : Txt K mg w) : Binds K T.fd_is_tie p_is_tie [] := T.t_is_tie.b
abbrev Txt.f_seen_by {K : PySem.W.Frag} {mg : Str → Option Value} {w : World} (T : Txt K mg w) : Addr := T.t_seen_by.f
abbrev Txt.fd_seen_by {K : PySem.W.Frag} {mg : Str → Option Value} {w : World} (T : Txt K mg w) : FuncData := T.t_seen_by.fd
theorem Txt.F_seen_by {K : PySem.W.Frag} {mg : Str → Option Value} {w : World} (T : Txt K mg w) : Fun K "seen_by" "seen_by" s_seen_by T.f_seen_by T.fd_seen_by := T.t_seen_by.F
theorem Txt.b_seen_by {K : PySem.W.Frag} {mg : Str → Option Value} {w : World} (T : Txt K mg w) : Binds K T.fd_seen_by p_seen_by [] := T.t_seen_by.b
abbrev Txt.f_told_of {K : PySem.W.Frag} {mg : Str → Option Value} {w : World} (T : Txt K mg w) : Addr := T.t_told_of.f
abbrev Txt.fd_told_of {K : PySem.W.Frag} {mg : Str → Option Value} {w : World} (T : Txt K mg w) : FuncData := T.t_told_of.fd
theorem Txt.F_told_of {K : PySem.W.Frag} {mg : Str → Option Value} {w : World} (T : Txt K mg w) : Fun K "told_of" "told_of" s_told_of T.f_told_of T.fd_told_of := T.t_told_of.F
theorem Txt.b_told_of {K : PySem.W.Frag} {mg : Str → Option Value} {w : World} (T : Txt K mg w) : Binds K T.fd_told_of p_told_of [] := T.t_told_of.b
abbrev Txt.f_weighed {K : PySem.W.Frag} {mg : Str → Option Value} {w : World} (T : Txt K mg w) : Addr := T.t_weighed.f
abbrev Txt.fd_weighed {K : PySem.W.Frag} {mg : Str → Option Value} {w : World} (T : Txt K mg w) : FuncData := T.t_weighed.fd
theorem Txt.F_weighed {K : PySem.W.Frag} {mg : Str → Option Value} {w : World} (T : Txt K mg w) : Fun K "weighed" "weighed" s_weighed T.f_weighed T.fd_weighed := T.t_weighed.F
theorem Txt.b_weighed {K : PySem.W.Frag} {mg : Str → Option Value} {w : World} (T : Txt K mg w) : Binds K T.fd_weighed p_weighed [] := T.t_weighed.b
abbrev Txt.f_least_free {K : PySem.W.Frag} {mg : Str → Option Value} {w : World} (T : Txt K mg w) : Addr := T.t_least_free.f
abbrev Txt.fd_least_free {K : PySem.W.Frag} {mg : Str → Option Value} {w : World} (T : Txt K mg w) : FuncData := T.t_least_free.fd
theorem Txt.F_least_free {K : PySem.W.Frag} {mg : Str → Option Value} {w : World} (T : Txt K mg w) : Fun K "least_free" "least_free" s_least_free T.f_least_free T.fd_least_free := T.t_least_free.F
theorem Txt.b_least_free {K : PySem.W.Frag} {mg : Str → Option Value} {w : World} (T : Txt K mg w) : Binds K T.fd_least_free p_least_free [] := T.t_least_free.b
abbrev Txt.f_lot_below {K : PySem.W.Frag} {mg : Str → Option Value} {w : World} (T : Txt K mg w) : Addr := T.t_lot_below.f
abbrev Txt.fd_lot_below {K : PySem.W.Frag} {mg : Str → Option Value} {w : World} (T : Txt K mg w) : FuncData := T.t_lot_below.fd
theorem Txt.F_lot_below {K : PySem.W.Frag} {mg : Str → Option Value} {w : World} (T : Txt K mg w) : Fun K "lot_below" "lot_below" s_lot_below T.f_lot_below T.fd_lot_below := T.t_lot_below.F
theorem Txt.b_lot_below {K : PySem.W.Frag} {mg : Str → Option Value} {w : World} (T : Txt K mg w) : Binds K T.fd_lot_below p_lot_below [] := T.t_lot_below.b
abbrev Txt.f_told_below {K : PySem.W.Frag} {mg : Str → Option Value} {w : World} (T : Txt K mg w) : Addr := T.t_told_below.f
abbrev Txt.fd_told_below {K : PySem.W.Frag} {mg : Str → Option Value} {w : World} (T : Txt K mg w) : FuncData := T.t_told_below.fd
theorem Txt.F_told_below {K : PySem.W.Frag} {mg : Str → Option Value} {w : World} (T : Txt K mg w) : Fun K "told_below" "told_below" s_told_below T.f_told_below T.fd_told_below := T.t_told_below.F
theorem Txt.b_told_below {K : PySem.W.Frag} {mg : Str → Option Value} {w : World} (T : Txt K mg w) : Binds K T.fd_told_below p_told_below [] := T.t_told_below.b
abbrev Txt.f_told_at {K : PySem.W.Frag} {mg : Str → Option Value} {w : World} (T : Txt K mg w) : Addr := T.t_told_at.f
abbrev Txt.fd_told_at {K : PySem.W.Frag} {mg : Str → Option Value} {w : World} (T : Txt K mg w) : FuncData := T.t_told_at.fd
theorem Txt.F_told_at {K : PySem.W.Frag} {mg : Str → Option Value} {w : World} (T : Txt K mg w) : Fun K "told_at" "told_at" s_told_at T.f_told_at T.fd_told_at := T.t_told_at.F
theorem Txt.b_told_at {K : PySem.W.Frag} {mg : Str → Option Value} {w : World} (T : Txt K mg w) : Binds K T.fd_told_at p_told_at [] := T.t_told_at.b
abbrev Txt.f_turned {K : PySem.W.Frag} {mg : Str → Option Value} {w : World} (T : Txt K mg w) : Addr := T.t_turned.f
abbrev Txt.fd_turned {K : PySem.W.Frag} {mg : Str → Option Value} {w : World} (T : Txt K mg w) : FuncData := T.t_turned.fd
theorem Txt.F_turned {K : PySem.W.Frag} {mg : Str → Option Value} {w : World} (T : Txt K mg w) : Fun K "turned" "turned" s_turned T.f_turned T.fd_turned := T.t_turned.F
theorem Txt.b_turned {K : PySem.W.Frag} {mg : Str → Option Value} {w : World} (T : Txt K mg w) : Binds K T.fd_turned p_turned [] := T.t_turned.b
abbrev Txt.f_beaten {K : PySem.W.Frag} {mg : Str → Option Value} {w : World} (T : Txt K mg w) : Addr := T.t_beaten.f
abbrev Txt.fd_beaten {K : PySem.W.Frag} {mg : Str → Option Value} {w : World} (T : Txt K mg w) : FuncData := T.t_beaten.fd
theorem Txt.F_beaten {K : PySem.W.Frag} {mg : Str → Option Value} {w : World} (T : Txt K mg w) : Fun K "beaten" "beaten" s_beaten T.f_beaten T.fd_beaten := T.t_beaten.F
theorem Txt.b_beaten {K : PySem.W.Frag} {mg : Str → Option Value} {w : World} (T : Txt K mg w) : Binds K T.fd_beaten p_beaten [] := T.t_beaten.b
abbrev Txt.f_rest_by_beats {K : PySem.W.Frag} {mg : Str → Option Value} {w : World} (T : Txt K mg w) : Addr := T.t_rest_by_beats.f
abbrev Txt.fd_rest_by_beats {K : PySem.W.Frag} {mg : Str → Option Value} {w : World} (T : Txt K mg w) : FuncData := T.t_rest_by_beats.fd
theorem Txt.F_rest_by_beats {K : PySem.W.Frag} {mg : Str → Option Value} {w : World} (T : Txt K mg w) : Fun K "rest_by_beats" "rest_by_beats" s_rest_by_beats T.f_rest_by_beats T.fd_rest_by_beats := T.t_rest_by_beats.F
theorem Txt.b_rest_by_beats {K : PySem.W.Frag} {mg : Str → Option Value} {w : World} (T : Txt K mg w) : Binds K T.fd_rest_by_beats p_rest_by_beats [] := T.t_rest_by_beats.b
abbrev Txt.f_NoPerson_init {K : PySem.W.Frag} {mg : Str → Option Value} {w : World} (T : Txt K mg w) : Addr := T.t_NoPerson_init.f
abbrev Txt.fd_NoPerson_init {K : PySem.W.Frag} {mg : Str → Option Value} {w : World} (T : Txt K mg w) : FuncData := T.t_NoPerson_init.fd
theorem Txt.F_NoPerson_init {K : PySem.W.Frag} {mg : Str → Option Value} {w : World} (T : Txt K mg w) : Fun K "__init__" "NoPerson.__init__" s_NoPerson_init T.f_NoPerson_init T.fd_NoPerson_init := T.t_NoPerson_init.F
theorem Txt.b_NoPerson_init {K : PySem.W.Frag} {mg : Str → Option Value} {w : World} (T : Txt K mg w) : Binds K T.fd_NoPerson_init p_NoPerson_init [] := T.t_NoPerson_init.b
abbrev Txt.f_Hall_init {K : PySem.W.Frag} {mg : Str → Option Value} {w : World} (T : Txt K mg w) : Addr := T.t_Hall_init.f
abbrev Txt.fd_Hall_init {K : PySem.W.Frag} {mg : Str → Option Value} {w : World} (T : Txt K mg w) : FuncData := T.t_Hall_init.fd
theorem Txt.F_Hall_init {K : PySem.W.Frag} {mg : Str → Option Value} {w : World} (T : Txt K mg w) : Fun K "__init__" "Hall.__init__" s_Hall_init T.f_Hall_init T.fd_Hall_init := T.t_Hall_init.F
theorem Txt.b_Hall_init {K : PySem.W.Frag} {mg : Str → Option Value} {w : World} (T : Txt K mg w) : Binds K T.fd_Hall_init p_Hall_init [] := T.t_Hall_init.b
abbrev Txt.f_Hall_must_have {K : PySem.W.Frag} {mg : Str → Option Value} {w : World} (T : Txt K mg w) : Addr := T.t_Hall_must_have.f
abbrev Txt.fd_Hall_must_have {K : PySem.W.Frag} {mg : Str → Option Value} {w : World} (T : Txt K mg w) : FuncData := T.t_Hall_must_have.fd
theorem Txt.F_Hall_must_have {K : PySem.W.Frag} {mg : Str → Option Value} {w : World} (T : Txt K mg w) : Fun K "must_have" "Hall.must_have" s_Hall_must_have T.f_Hall_must_have T.fd_Hall_must_have := T.t_Hall_must_have.F
theorem Txt.b_Hall_must_have {K : PySem.W.Frag} {mg : Str → Option Value} {w : World} (T : Txt K mg w) : Binds K T.fd_Hall_must_have p_Hall_must_have [] := T.t_Hall_must_have.b
abbrev Txt.f_Hall_rules {K : PySem.W.Frag} {mg : Str → Option Value} {w : World} (T : Txt K mg w) : Addr := T.t_Hall_rules.f
abbrev Txt.fd_Hall_rules {K : PySem.W.Frag} {mg : Str → Option Value} {w : World} (T : Txt K mg w) : FuncData := T.t_Hall_rules.fd
theorem Txt.F_Hall_rules {K : PySem.W.Frag} {mg : Str → Option Value} {w : World} (T : Txt K mg w) : Fun K "rules" "Hall.rules" s_Hall_rules T.f_Hall_rules T.fd_Hall_rules := T.t_Hall_rules.F
theorem Txt.b_Hall_rules {K : PySem.W.Frag} {mg : Str → Option Value} {w : World} (T : Txt K mg w) : Binds K T.fd_Hall_rules p_Hall_rules [] := T.t_Hall_rules.b
abbrev Txt.f_Hall_rule {K : PySem.W.Frag} {mg : Str → Option Value} {w : World} (T : Txt K mg w) : Addr := T.t_Hall_rule.f
abbrev Txt.fd_Hall_rule {K : PySem.W.Frag} {mg : Str → Option Value} {w : World} (T : Txt K mg w) : FuncData := T.t_Hall_rule.fd
theorem Txt.F_Hall_rule {K : PySem.W.Frag} {mg : Str → Option Value} {w : World} (T : Txt K mg w) : Fun K "rule" "Hall.rule" s_Hall_rule T.f_Hall_rule T.fd_Hall_rule := T.t_Hall_rule.F
theorem Txt.b_Hall_rule {K : PySem.W.Frag} {mg : Str → Option Value} {w : World} (T : Txt K mg w) : Binds K T.fd_Hall_rule p_Hall_rule [] := T.t_Hall_rule.b
abbrev Txt.f_Hall_sees {K : PySem.W.Frag} {mg : Str → Option Value} {w : World} (T : Txt K mg w) : Addr := T.t_Hall_sees.f
abbrev Txt.fd_Hall_sees {K : PySem.W.Frag} {mg : Str → Option Value} {w : World} (T : Txt K mg w) : FuncData := T.t_Hall_sees.fd
theorem Txt.F_Hall_sees {K : PySem.W.Frag} {mg : Str → Option Value} {w : World} (T : Txt K mg w) : Fun K "sees" "Hall.sees" s_Hall_sees T.f_Hall_sees T.fd_Hall_sees := T.t_Hall_sees.F
theorem Txt.b_Hall_sees {K : PySem.W.Frag} {mg : Str → Option Value} {w : World} (T : Txt K mg w) : Binds K T.fd_Hall_sees p_Hall_sees [] := T.t_Hall_sees.b
abbrev Txt.f_Hall_seers {K : PySem.W.Frag} {mg : Str → Option Value} {w : World} (T : Txt K mg w) : Addr := T.t_Hall_seers.f
abbrev Txt.fd_Hall_seers {K : PySem.W.Frag} {mg : Str → Option Value} {w : World} (T : Txt K mg w) : FuncData := T.t_Hall_seers.fd
theorem Txt.F_Hall_seers {K : PySem.W.Frag} {mg : Str → Option Value} {w : World} (T : Txt K mg w) : Fun K "seers" "Hall.seers" s_Hall_seers T.f_Hall_seers T.fd_Hall_seers := T.t_Hall_seers.F
theorem Txt.b_Hall_seers {K : PySem.W.Frag} {mg : Str → Option Value} {w : World} (T : Txt K mg w) : Binds K T.fd_Hall_seers p_Hall_seers [] := T.t_Hall_seers.b
abbrev Txt.f_Hall_eq {K : PySem.W.Frag} {mg : Str → Option Value} {w : World} (T : Txt K mg w) : Addr := T.t_Hall_eq.f
abbrev Txt.fd_Hall_eq {K : PySem.W.Frag} {mg : Str → Option Value} {w : World} (T : Txt K mg w) : FuncData := T.t_Hall_eq.fd
theorem Txt.F_Hall_eq {K : PySem.W.Frag} {mg : Str → Option Value} {w : World} (T : Txt K mg w) : Fun K "__eq__" "Hall.__eq__" s_Hall_eq T.f_Hall_eq T.fd_Hall_eq := T.t_Hall_eq.F
theorem Txt.b_Hall_eq {K : PySem.W.Frag} {mg : Str → Option Value} {w : World} (T : Txt K mg w) : Binds K T.fd_Hall_eq p_Hall_eq [] := T.t_Hall_eq.b
abbrev Txt.f_Hall_len {K : PySem.W.Frag} {mg : Str → Option Value} {w : World} (T : Txt K mg w) : Addr := T.t_Hall_len.f
abbrev Txt.fd_Hall_len {K : PySem.W.Frag} {mg : Str → Option Value} {w : World} (T : Txt K mg w) : FuncData := T.t_Hall_len.fd
theorem Txt.F_Hall_len {K : PySem.W.Frag} {mg : Str → Option Value} {w : World} (T : Txt K mg w) : Fun K "__len__" "Hall.__len__" s_Hall_len T.f_Hall_len T.fd_Hall_len := T.t_Hall_len.F
theorem Txt.b_Hall_len {K : PySem.W.Frag} {mg : Str → Option Value} {w : World} (T : Txt K mg w) : Binds K T.fd_Hall_len p_Hall_len [] := T.t_Hall_len.b
abbrev Txt.f_Hall_repr {K : PySem.W.Frag} {mg : Str → Option Value} {w : World} (T : Txt K mg w) : Addr := T.t_Hall_repr.f
abbrev Txt.fd_Hall_repr {K : PySem.W.Frag} {mg : Str → Option Value} {w : World} (T : Txt K mg w) : FuncData := T.t_Hall_repr.fd
theorem Txt.F_Hall_repr {K : PySem.W.Frag} {mg : Str → Option Value} {w : World} (T : Txt K mg w) : Fun K "__repr__" "Hall.__repr__" s_Hall_repr T.f_Hall_repr T.fd_Hall_repr := T.t_Hall_repr.F
theorem Txt.b_Hall_repr {K : PySem.W.Frag} {mg : Str → Option Value} {w : World} (T : Txt K mg w) : Binds K T.fd_Hall_repr p_Hall_repr [] := T.t_Hall_repr.b
abbrev Txt.f_with_rule {K : PySem.W.Frag} {mg : Str → Option Value} {w : World} (T : Txt K mg w) : Addr := T.t_with_rule.f
abbrev Txt.fd_with_rule {K : PySem.W.Frag} {mg : Str → Option Value} {w : World} (T : Txt K mg w) : FuncData := T.t_with_rule.fd
theorem Txt.F_with_rule {K : PySem.W.Frag} {mg : Str → Option Value} {w : World} (T : Txt K mg w) : Fun K "with_rule" "with_rule" s_with_rule T.f_with_rule T.fd_with_rule := T.t_with_rule.F
theorem Txt.b_with_rule {K : PySem.W.Frag} {mg : Str → Option Value} {w : World} (T : Txt K mg w) : Binds K T.fd_with_rule p_with_rule [] := T.t_with_rule.b
abbrev Txt.f_shown_by {K : PySem.W.Frag} {mg : Str → Option Value} {w : World} (T : Txt K mg w) : Addr := T.t_shown_by.f
abbrev Txt.fd_shown_by {K : PySem.W.Frag} {mg : Str → Option Value} {w : World} (T : Txt K mg w) : FuncData := T.t_shown_by.fd
theorem Txt.F_shown_by {K : PySem.W.Frag} {mg : Str → Option Value} {w : World} (T : Txt K mg w) : Fun K "shown_by" "shown_by" s_shown_by T.f_shown_by T.fd_shown_by := T.t_shown_by.F
theorem Txt.b_shown_by {K : PySem.W.Frag} {mg : Str → Option Value} {w : World} (T : Txt K mg w) : Binds K T.fd_shown_by p_shown_by [] := T.t_shown_by.b
abbrev Txt.f_House_init {K : PySem.W.Frag} {mg : Str → Option Value} {w : World} (T : Txt K mg w) : Addr := T.t_House_init.f
abbrev Txt.fd_House_init {K : PySem.W.Frag} {mg : Str → Option Value} {w : World} (T : Txt K mg w) : FuncData := T.t_House_init.fd
theorem Txt.F_House_init {K : PySem.W.Frag} {mg : Str → Option Value} {w : World} (T : Txt K mg w) : Fun K "__init__" "House.__init__" s_House_init T.f_House_init T.fd_House_init := T.t_House_init.F
theorem Txt.b_House_init {K : PySem.W.Frag} {mg : Str → Option Value} {w : World} (T : Txt K mg w) : Binds K T.fd_House_init p_House_init [] := T.t_House_init.b
abbrev Txt.f_House_state {K : PySem.W.Frag} {mg : Str → Option Value} {w : World} (T : Txt K mg w) : Addr := T.t_House_state.f
abbrev Txt.fd_House_state {K : PySem.W.Frag} {mg : Str → Option Value} {w : World} (T : Txt K mg w) : FuncData := T.t_House_state.fd
theorem Txt.F_House_state {K : PySem.W.Frag} {mg : Str → Option Value} {w : World} (T : Txt K mg w) : Fun K "state" "House.state" s_House_state T.f_House_state T.fd_House_state := T.t_House_state.F
theorem Txt.b_House_state {K : PySem.W.Frag} {mg : Str → Option Value} {w : World} (T : Txt K mg w) : Binds K T.fd_House_state p_House_state [] := T.t_House_state.b
abbrev Txt.f_House_remember {K : PySem.W.Frag} {mg : Str → Option Value} {w : World} (T : Txt K mg w) : Addr := T.t_House_remember.f
abbrev Txt.fd_House_remember {K : PySem.W.Frag} {mg : Str → Option Value} {w : World} (T : Txt K mg w) : FuncData := T.t_House_remember.fd
theorem Txt.F_House_remember {K : PySem.W.Frag} {mg : Str → Option Value} {w : World} (T : Txt K mg w) : Fun K "remember" "House.remember" s_House_remember T.f_House_remember T.fd_House_remember := T.t_House_remember.F
theorem Txt.b_House_remember {K : PySem.W.Frag} {mg : Str → Option Value} {w : World} (T : Txt K mg w) : Binds K T.fd_House_remember p_House_remember [] := T.t_House_remember.b
abbrev Txt.f_House_move {K : PySem.W.Frag} {mg : Str → Option Value} {w : World} (T : Txt K mg w) : Addr := T.t_House_move.f
abbrev Txt.fd_House_move {K : PySem.W.Frag} {mg : Str → Option Value} {w : World} (T : Txt K mg w) : FuncData := T.t_House_move.fd
theorem Txt.F_House_move {K : PySem.W.Frag} {mg : Str → Option Value} {w : World} (T : Txt K mg w) : Fun K "move" "House.move" s_House_move T.f_House_move T.fd_House_move := T.t_House_move.F
theorem Txt.b_House_move {K : PySem.W.Frag} {mg : Str → Option Value} {w : World} (T : Txt K mg w) : Binds K T.fd_House_move p_House_move [] := T.t_House_move.b
abbrev Txt.f_House_turn {K : PySem.W.Frag} {mg : Str → Option Value} {w : World} (T : Txt K mg w) : Addr := T.t_House_turn.f
abbrev Txt.fd_House_turn {K : PySem.W.Frag} {mg : Str → Option Value} {w : World} (T : Txt K mg w) : FuncData := T.t_House_turn.fd
theorem Txt.F_House_turn {K : PySem.W.Frag} {mg : Str → Option Value} {w : World} (T : Txt K mg w) : Fun K "turn" "House.turn" s_House_turn T.f_House_turn T.fd_House_turn := T.t_House_turn.F
theorem Txt.b_House_turn {K : PySem.W.Frag} {mg : Str → Option Value} {w : World} (T : Txt K mg w) : Binds K T.fd_House_turn p_House_turn [] := T.t_House_turn.b
abbrev Txt.f_House_beat {K : PySem.W.Frag} {mg : Str → Option Value} {w : World} (T : Txt K mg w) : Addr := T.t_House_beat.f
abbrev Txt.fd_House_beat {K : PySem.W.Frag} {mg : Str → Option Value} {w : World} (T : Txt K mg w) : FuncData := T.t_House_beat.fd
theorem Txt.F_House_beat {K : PySem.W.Frag} {mg : Str → Option Value} {w : World} (T : Txt K mg w) : FunD K "beat" "House.beat" (defArgs s_House_beat) (defBody s_House_beat) (defScope s_House_beat) [.int 1] [] T.f_House_beat T.fd_House_beat := T.t_House_beat.F
theorem Txt.b_House_beat {K : PySem.W.Frag} {mg : Str → Option Value} {w : World} (T : Txt K mg w) : Binds K T.fd_House_beat p_House_beat [] := T.t_House_beat.b
theorem Txt.b1_House_beat {K : PySem.W.Frag} {mg : Str → Option Value} {w : World} (T : Txt K mg w) : ∃ ds, Vals [.int 1] ds ∧ Binds K T.fd_House_beat p_House_beat ds := T.t_House_beat.b1
abbrev Txt.f_House_rest {K : PySem.W.Frag} {mg : Str → Option Value} {w : World} (T : Txt K mg w) : Addr := T.t_House_rest.f
abbrev Txt.fd_House_rest {K : PySem.W.Frag} {mg : Str → Option Value} {w : World} (T : Txt K mg w) : FuncData := T.t_House_rest.fd
theorem Txt.F_House_rest {K : PySem.W.Frag} {mg : Str → Option Value} {w : World} (T : Txt K mg w) : Fun K "rest" "House.rest" s_House_rest T.f_House_rest T.fd_House_rest := T.t_House_rest.F
theorem Txt.b_House_rest {K : PySem.W.Frag} {mg : Str → Option Value} {w : World} (T : Txt K mg w) : Binds K T.fd_House_rest p_House_rest [] := T.t_House_rest.b
abbrev Txt.f_House_show {K : PySem.W.Frag} {mg : Str → Option Value} {w : World} (T : Txt K mg w) : Addr := T.t_House_show.f
abbrev Txt.fd_House_show {K : PySem.W.Frag} {mg : Str → Option Value} {w : World} (T : Txt K mg w) : FuncData := T.t_House_show.fd
theorem Txt.F_House_show {K : PySem.W.Frag} {mg : Str → Option Value} {w : World} (T : Txt K mg w) : Fun K "show" "House.show" s_House_show T.f_House_show T.fd_House_show := T.t_House_show.F
theorem Txt.b_House_show {K : PySem.W.Frag} {mg : Str → Option Value} {w : World} (T : Txt K mg w) : Binds K T.fd_House_show p_House_show [] := T.t_House_show.b
abbrev Txt.f_House_hold {K : PySem.W.Frag} {mg : Str → Option Value} {w : World} (T : Txt K mg w) : Addr := T.t_House_hold.f
abbrev Txt.fd_House_hold {K : PySem.W.Frag} {mg : Str → Option Value} {w : World} (T : Txt K mg w) : FuncData := T.t_House_hold.fd
theorem Txt.F_House_hold {K : PySem.W.Frag} {mg : Str → Option Value} {w : World} (T : Txt K mg w) : Fun K "hold" "House.hold" s_House_hold T.f_House_hold T.fd_House_hold := T.t_House_hold.F
theorem Txt.b_House_hold {K : PySem.W.Frag} {mg : Str → Option Value} {w : World} (T : Txt K mg w) : Binds K T.fd_House_hold p_House_hold [] := T.t_House_hold.b
abbrev Txt.f_House_loose {K : PySem.W.Frag} {mg : Str → Option Value} {w : World} (T : Txt K mg w) : Addr := T.t_House_loose.f
abbrev Txt.fd_House_loose {K : PySem.W.Frag} {mg : Str → Option Value} {w : World} (T : Txt K mg w) : FuncData := T.t_House_loose.fd
theorem Txt.F_House_loose {K : PySem.W.Frag} {mg : Str → Option Value} {w : World} (T : Txt K mg w) : Fun K "loose" "House.loose" s_House_loose T.f_House_loose T.fd_House_loose := T.t_House_loose.F
theorem Txt.b_House_loose {K : PySem.W.Frag} {mg : Str → Option Value} {w : World} (T : Txt K mg w) : Binds K T.fd_House_loose p_House_loose [] := T.t_House_loose.b
abbrev Txt.f_House_rule {K : PySem.W.Frag} {mg : Str → Option Value} {w : World} (T : Txt K mg w) : Addr := T.t_House_rule.f
abbrev Txt.fd_House_rule {K : PySem.W.Frag} {mg : Str → Option Value} {w : World} (T : Txt K mg w) : FuncData := T.t_House_rule.fd
theorem Txt.F_House_rule {K : PySem.W.Frag} {mg : Str → Option Value} {w : World} (T : Txt K mg w) : Fun K "rule" "House.rule" s_House_rule T.f_House_rule T.fd_House_rule := T.t_House_rule.F
theorem Txt.b_House_rule {K : PySem.W.Frag} {mg : Str → Option Value} {w : World} (T : Txt K mg w) : Binds K T.fd_House_rule p_House_rule [] := T.t_House_rule.b
abbrev Txt.f_House_undo {K : PySem.W.Frag} {mg : Str → Option Value} {w : World} (T : Txt K mg w) : Addr := T.t_House_undo.f
abbrev Txt.fd_House_undo {K : PySem.W.Frag} {mg : Str → Option Value} {w : World} (T : Txt K mg w) : FuncData := T.t_House_undo.fd
theorem Txt.F_House_undo {K : PySem.W.Frag} {mg : Str → Option Value} {w : World} (T : Txt K mg w) : Fun K "undo" "House.undo" s_House_undo T.f_House_undo T.fd_House_undo := T.t_House_undo.F
theorem Txt.b_House_undo {K : PySem.W.Frag} {mg : Str → Option Value} {w : World} (T : Txt K mg w) : Binds K T.fd_House_undo p_House_undo [] := T.t_House_undo.b
abbrev Txt.f_House_done {K : PySem.W.Frag} {mg : Str → Option Value} {w : World} (T : Txt K mg w) : Addr := T.t_House_done.f
abbrev Txt.fd_House_done {K : PySem.W.Frag} {mg : Str → Option Value} {w : World} (T : Txt K mg w) : FuncData := T.t_House_done.fd
theorem Txt.F_House_done {K : PySem.W.Frag} {mg : Str → Option Value} {w : World} (T : Txt K mg w) : Fun K "done" "House.done" s_House_done T.f_House_done T.fd_House_done := T.t_House_done.F
theorem Txt.b_House_done {K : PySem.W.Frag} {mg : Str → Option Value} {w : World} (T : Txt K mg w) : Binds K T.fd_House_done p_House_done [] := T.t_House_done.b
abbrev Txt.f_House_take_over {K : PySem.W.Frag} {mg : Str → Option Value} {w : World} (T : Txt K mg w) : Addr := T.t_House_take_over.f
abbrev Txt.fd_House_take_over {K : PySem.W.Frag} {mg : Str → Option Value} {w : World} (T : Txt K mg w) : FuncData := T.t_House_take_over.fd
theorem Txt.F_House_take_over {K : PySem.W.Frag} {mg : Str → Option Value} {w : World} (T : Txt K mg w) : Fun K "take_over" "House.take_over" s_House_take_over T.f_House_take_over T.fd_House_take_over := T.t_House_take_over.F
theorem Txt.b_House_take_over {K : PySem.W.Frag} {mg : Str → Option Value} {w : World} (T : Txt K mg w) : Binds K T.fd_House_take_over p_House_take_over [] := T.t_House_take_over.b
abbrev Txt.f_House_hall {K : PySem.W.Frag} {mg : Str → Option Value} {w : World} (T : Txt K mg w) : Addr := T.t_House_hall.f
abbrev Txt.fd_House_hall {K : PySem.W.Frag} {mg : Str → Option Value} {w : World} (T : Txt K mg w) : FuncData := T.t_House_hall.fd
theorem Txt.F_House_hall {K : PySem.W.Frag} {mg : Str → Option Value} {w : World} (T : Txt K mg w) : Fun K "hall" "House.hall" s_House_hall T.f_House_hall T.fd_House_hall := T.t_House_hall.F
theorem Txt.b_House_hall {K : PySem.W.Frag} {mg : Str → Option Value} {w : World} (T : Txt K mg w) : Binds K T.fd_House_hall p_House_hall [] := T.t_House_hall.b
abbrev Txt.f_House_standing {K : PySem.W.Frag} {mg : Str → Option Value} {w : World} (T : Txt K mg w) : Addr := T.t_House_standing.f
abbrev Txt.fd_House_standing {K : PySem.W.Frag} {mg : Str → Option Value} {w : World} (T : Txt K mg w) : FuncData := T.t_House_standing.fd
theorem Txt.F_House_standing {K : PySem.W.Frag} {mg : Str → Option Value} {w : World} (T : Txt K mg w) : Fun K "standing" "House.standing" s_House_standing T.f_House_standing T.fd_House_standing := T.t_House_standing.F
theorem Txt.b_House_standing {K : PySem.W.Frag} {mg : Str → Option Value} {w : World} (T : Txt K mg w) : Binds K T.fd_House_standing p_House_standing [] := T.t_House_standing.b
abbrev Txt.f_House_held {K : PySem.W.Frag} {mg : Str → Option Value} {w : World} (T : Txt K mg w) : Addr := T.t_House_held.f
abbrev Txt.fd_House_held {K : PySem.W.Frag} {mg : Str → Option Value} {w : World} (T : Txt K mg w) : FuncData := T.t_House_held.fd
theorem Txt.F_House_held {K : PySem.W.Frag} {mg : Str → Option Value} {w : World} (T : Txt K mg w) : Fun K "held" "House.held" s_House_held T.f_House_held T.fd_House_held := T.t_House_held.F
theorem Txt.b_House_held {K : PySem.W.Frag} {mg : Str → Option Value} {w : World} (T : Txt K mg w) : Binds K T.fd_House_held p_House_held [] := T.t_House_held.b
abbrev Txt.f_House_turns {K : PySem.W.Frag} {mg : Str → Option Value} {w : World} (T : Txt K mg w) : Addr := T.t_House_turns.f
abbrev Txt.fd_House_turns {K : PySem.W.Frag} {mg : Str → Option Value} {w : World} (T : Txt K mg w) : FuncData := T.t_House_turns.fd
theorem Txt.F_House_turns {K : PySem.W.Frag} {mg : Str → Option Value} {w : World} (T : Txt K mg w) : Fun K "turns" "House.turns" s_House_turns T.f_House_turns T.fd_House_turns := T.t_House_turns.F
theorem Txt.b_House_turns {K : PySem.W.Frag} {mg : Str → Option Value} {w : World} (T : Txt K mg w) : Binds K T.fd_House_turns p_House_turns [] := T.t_House_turns.b
abbrev Txt.f_House_firm {K : PySem.W.Frag} {mg : Str → Option Value} {w : World} (T : Txt K mg w) : Addr := T.t_House_firm.f
abbrev Txt.fd_House_firm {K : PySem.W.Frag} {mg : Str → Option Value} {w : World} (T : Txt K mg w) : FuncData := T.t_House_firm.fd
theorem Txt.F_House_firm {K : PySem.W.Frag} {mg : Str → Option Value} {w : World} (T : Txt K mg w) : Fun K "firm" "House.firm" s_House_firm T.f_House_firm T.fd_House_firm := T.t_House_firm.F
theorem Txt.b_House_firm {K : PySem.W.Frag} {mg : Str → Option Value} {w : World} (T : Txt K mg w) : Binds K T.fd_House_firm p_House_firm [] := T.t_House_firm.b
abbrev Txt.f_House_line {K : PySem.W.Frag} {mg : Str → Option Value} {w : World} (T : Txt K mg w) : Addr := T.t_House_line.f
abbrev Txt.fd_House_line {K : PySem.W.Frag} {mg : Str → Option Value} {w : World} (T : Txt K mg w) : FuncData := T.t_House_line.fd
theorem Txt.F_House_line {K : PySem.W.Frag} {mg : Str → Option Value} {w : World} (T : Txt K mg w) : Fun K "line" "House.line" s_House_line T.f_House_line T.fd_House_line := T.t_House_line.F
theorem Txt.b_House_line {K : PySem.W.Frag} {mg : Str → Option Value} {w : World} (T : Txt K mg w) : Binds K T.fd_House_line p_House_line [] := T.t_House_line.b
abbrev Txt.f_House_deeds {K : PySem.W.Frag} {mg : Str → Option Value} {w : World} (T : Txt K mg w) : Addr := T.t_House_deeds.f
abbrev Txt.fd_House_deeds {K : PySem.W.Frag} {mg : Str → Option Value} {w : World} (T : Txt K mg w) : FuncData := T.t_House_deeds.fd
theorem Txt.F_House_deeds {K : PySem.W.Frag} {mg : Str → Option Value} {w : World} (T : Txt K mg w) : Fun K "deeds" "House.deeds" s_House_deeds T.f_House_deeds T.fd_House_deeds := T.t_House_deeds.F
theorem Txt.b_House_deeds {K : PySem.W.Frag} {mg : Str → Option Value} {w : World} (T : Txt K mg w) : Binds K T.fd_House_deeds p_House_deeds [] := T.t_House_deeds.b
abbrev Txt.f_House_log {K : PySem.W.Frag} {mg : Str → Option Value} {w : World} (T : Txt K mg w) : Addr := T.t_House_log.f
abbrev Txt.fd_House_log {K : PySem.W.Frag} {mg : Str → Option Value} {w : World} (T : Txt K mg w) : FuncData := T.t_House_log.fd
theorem Txt.F_House_log {K : PySem.W.Frag} {mg : Str → Option Value} {w : World} (T : Txt K mg w) : Fun K "log" "House.log" s_House_log T.f_House_log T.fd_House_log := T.t_House_log.F
theorem Txt.b_House_log {K : PySem.W.Frag} {mg : Str → Option Value} {w : World} (T : Txt K mg w) : Binds K T.fd_House_log p_House_log [] := T.t_House_log.b
abbrev Txt.f_House_twin {K : PySem.W.Frag} {mg : Str → Option Value} {w : World} (T : Txt K mg w) : Addr := T.t_House_twin.f
abbrev Txt.fd_House_twin {K : PySem.W.Frag} {mg : Str → Option Value} {w : World} (T : Txt K mg w) : FuncData := T.t_House_twin.fd
theorem Txt.F_House_twin {K : PySem.W.Frag} {mg : Str → Option Value} {w : World} (T : Txt K mg w) : Fun K "twin" "House.twin" s_House_twin T.f_House_twin T.fd_House_twin := T.t_House_twin.F
theorem Txt.b_House_twin {K : PySem.W.Frag} {mg : Str → Option Value} {w : World} (T : Txt K mg w) : Binds K T.fd_House_twin p_House_twin [] := T.t_House_twin.b
abbrev Txt.f_House_eq {K : PySem.W.Frag} {mg : Str → Option Value} {w : World} (T : Txt K mg w) : Addr := T.t_House_eq.f
abbrev Txt.fd_House_eq {K : PySem.W.Frag} {mg : Str → Option Value} {w : World} (T : Txt K mg w) : FuncData := T.t_House_eq.fd
theorem Txt.F_House_eq {K : PySem.W.Frag} {mg : Str → Option Value} {w : World} (T : Txt K mg w) : Fun K "__eq__" "House.__eq__" s_House_eq T.f_House_eq T.fd_House_eq := T.t_House_eq.F
theorem Txt.b_House_eq {K : PySem.W.Frag} {mg : Str → Option Value} {w : World} (T : Txt K mg w) : Binds K T.fd_House_eq p_House_eq [] := T.t_House_eq.b
abbrev Txt.f_House_len {K : PySem.W.Frag} {mg : Str → Option Value} {w : World} (T : Txt K mg w) : Addr := T.t_House_len.f
abbrev Txt.fd_House_len {K : PySem.W.Frag} {mg : Str → Option Value} {w : World} (T : Txt K mg w) : FuncData := T.t_House_len.fd
theorem Txt.F_House_len {K : PySem.W.Frag} {mg : Str → Option Value} {w : World} (T : Txt K mg w) : Fun K "__len__" "House.__len__" s_House_len T.f_House_len T.fd_House_len := T.t_House_len.F
theorem Txt.b_House_len {K : PySem.W.Frag} {mg : Str → Option Value} {w : World} (T : Txt K mg w) : Binds K T.fd_House_len p_House_len [] := T.t_House_len.b
abbrev Txt.f_dip {K : PySem.W.Frag} {mg : Str → Option Value} {w : World} (T : Txt K mg w) : Addr := T.t_dip.f
abbrev Txt.fd_dip {K : PySem.W.Frag} {mg : Str → Option Value} {w : World} (T : Txt K mg w) : FuncData := T.t_dip.fd
theorem Txt.F_dip {K : PySem.W.Frag} {mg : Str → Option Value} {w : World} (T : Txt K mg w) : Fun K "_law_dip" "_law_dip" s_dip T.f_dip T.fd_dip := T.t_dip.F
theorem Txt.b_dip {K : PySem.W.Frag} {mg : Str → Option Value} {w : World} (T : Txt K mg w) : Binds K T.fd_dip p_dip [] := T.t_dip.b
abbrev Txt.f_take {K : PySem.W.Frag} {mg : Str → Option Value} {w : World} (T : Txt K mg w) : Addr := T.t_take.f
abbrev Txt.fd_take {K : PySem.W.Frag} {mg : Str → Option Value} {w : World} (T : Txt K mg w) : FuncData := T.t_take.fd
theorem Txt.F_take {K : PySem.W.Frag} {mg : Str → Option Value} {w : World} (T : Txt K mg w) : Fun K "_law_take" "_law_take" s_take T.f_take T.fd_take := T.t_take.F
theorem Txt.b_take {K : PySem.W.Frag} {mg : Str → Option Value} {w : World} (T : Txt K mg w) : Binds K T.fd_take p_take [] := T.t_take.b
abbrev Txt.f_folded {K : PySem.W.Frag} {mg : Str → Option Value} {w : World} (T : Txt K mg w) : Addr := T.t_folded.f
abbrev Txt.fd_folded {K : PySem.W.Frag} {mg : Str → Option Value} {w : World} (T : Txt K mg w) : FuncData := T.t_folded.fd
theorem Txt.F_folded {K : PySem.W.Frag} {mg : Str → Option Value} {w : World} (T : Txt K mg w) : Fun K "_law_folded" "_law_folded" s_folded T.f_folded T.fd_folded := T.t_folded.F
theorem Txt.b_folded {K : PySem.W.Frag} {mg : Str → Option Value} {w : World} (T : Txt K mg w) : Binds K T.fd_folded p_folded [] := T.t_folded.b
abbrev Txt.f_strewn {K : PySem.W.Frag} {mg : Str → Option Value} {w : World} (T : Txt K mg w) : Addr := T.t_strewn.f
abbrev Txt.fd_strewn {K : PySem.W.Frag} {mg : Str → Option Value} {w : World} (T : Txt K mg w) : FuncData := T.t_strewn.fd
theorem Txt.F_strewn {K : PySem.W.Frag} {mg : Str → Option Value} {w : World} (T : Txt K mg w) : Fun K "_law_strewn" "_law_strewn" s_strewn T.f_strewn T.fd_strewn := T.t_strewn.F
theorem Txt.b_strewn {K : PySem.W.Frag} {mg : Str → Option Value} {w : World} (T : Txt K mg w) : Binds K T.fd_strewn p_strewn [] := T.t_strewn.b
abbrev Txt.f_same {K : PySem.W.Frag} {mg : Str → Option Value} {w : World} (T : Txt K mg w) : Addr := T.t_same.f
abbrev Txt.fd_same {K : PySem.W.Frag} {mg : Str → Option Value} {w : World} (T : Txt K mg w) : FuncData := T.t_same.fd
theorem Txt.F_same {K : PySem.W.Frag} {mg : Str → Option Value} {w : World} (T : Txt K mg w) : Fun K "_law_same" "_law_same" s_same T.f_same T.fd_same := T.t_same.F
theorem Txt.b_same {K : PySem.W.Frag} {mg : Str → Option Value} {w : World} (T : Txt K mg w) : Binds K T.fd_same p_same [] := T.t_same.b
abbrev Txt.f_some {K : PySem.W.Frag} {mg : Str → Option Value} {w : World} (T : Txt K mg w) : Addr := T.t_some.f
abbrev Txt.fd_some {K : PySem.W.Frag} {mg : Str → Option Value} {w : World} (T : Txt K mg w) : FuncData := T.t_some.fd
theorem Txt.F_some {K : PySem.W.Frag} {mg : Str → Option Value} {w : World} (T : Txt K mg w) : Fun K "_law_some" "_law_some" s_some T.f_some T.fd_some := T.t_some.F
theorem Txt.b_some {K : PySem.W.Frag} {mg : Str → Option Value} {w : World} (T : Txt K mg w) : Binds K T.fd_some p_some [] := T.t_some.b
abbrev Txt.f_sum_rule {K : PySem.W.Frag} {mg : Str → Option Value} {w : World} (T : Txt K mg w) : Addr := T.t_sum_rule.f
abbrev Txt.fd_sum_rule {K : PySem.W.Frag} {mg : Str → Option Value} {w : World} (T : Txt K mg w) : FuncData := T.t_sum_rule.fd
theorem Txt.F_sum_rule {K : PySem.W.Frag} {mg : Str → Option Value} {w : World} (T : Txt K mg w) : Fun K "_law_sum_rule" "_law_sum_rule" s_sum_rule T.f_sum_rule T.fd_sum_rule := T.t_sum_rule.F
theorem Txt.b_sum_rule {K : PySem.W.Frag} {mg : Str → Option Value} {w : World} (T : Txt K mg w) : Binds K T.fd_sum_rule p_sum_rule [] := T.t_sum_rule.b
abbrev Txt.f_rule {K : PySem.W.Frag} {mg : Str → Option Value} {w : World} (T : Txt K mg w) : Addr := T.t_rule.f
abbrev Txt.fd_rule {K : PySem.W.Frag} {mg : Str → Option Value} {w : World} (T : Txt K mg w) : FuncData := T.t_rule.fd
theorem Txt.F_rule {K : PySem.W.Frag} {mg : Str → Option Value} {w : World} (T : Txt K mg w) : Fun K "_law_rule" "_law_rule" s_rule T.f_rule T.fd_rule := T.t_rule.F
theorem Txt.b_rule {K : PySem.W.Frag} {mg : Str → Option Value} {w : World} (T : Txt K mg w) : Binds K T.fd_rule p_rule [] := T.t_rule.b
abbrev Txt.f_hall {K : PySem.W.Frag} {mg : Str → Option Value} {w : World} (T : Txt K mg w) : Addr := T.t_hall.f
abbrev Txt.fd_hall {K : PySem.W.Frag} {mg : Str → Option Value} {w : World} (T : Txt K mg w) : FuncData := T.t_hall.fd
theorem Txt.F_hall {K : PySem.W.Frag} {mg : Str → Option Value} {w : World} (T : Txt K mg w) : Fun K "_law_hall" "_law_hall" s_hall T.f_hall T.fd_hall := T.t_hall.F
theorem Txt.b_hall {K : PySem.W.Frag} {mg : Str → Option Value} {w : World} (T : Txt K mg w) : Binds K T.fd_hall p_hall [] := T.t_hall.b
abbrev Txt.f_flat {K : PySem.W.Frag} {mg : Str → Option Value} {w : World} (T : Txt K mg w) : Addr := T.t_flat.f
abbrev Txt.fd_flat {K : PySem.W.Frag} {mg : Str → Option Value} {w : World} (T : Txt K mg w) : FuncData := T.t_flat.fd
theorem Txt.F_flat {K : PySem.W.Frag} {mg : Str → Option Value} {w : World} (T : Txt K mg w) : Fun K "_law_flat" "_law_flat" s_flat T.f_flat T.fd_flat := T.t_flat.F
theorem Txt.b_flat {K : PySem.W.Frag} {mg : Str → Option Value} {w : World} (T : Txt K mg w) : Binds K T.fd_flat p_flat [] := T.t_flat.b
abbrev Txt.f_shown {K : PySem.W.Frag} {mg : Str → Option Value} {w : World} (T : Txt K mg w) : Addr := T.t_shown.f
abbrev Txt.fd_shown {K : PySem.W.Frag} {mg : Str → Option Value} {w : World} (T : Txt K mg w) : FuncData := T.t_shown.fd
theorem Txt.F_shown {K : PySem.W.Frag} {mg : Str → Option Value} {w : World} (T : Txt K mg w) : Fun K "_law_shown" "_law_shown" s_shown T.f_shown T.fd_shown := T.t_shown.F
theorem Txt.b_shown {K : PySem.W.Frag} {mg : Str → Option Value} {w : World} (T : Txt K mg w) : Binds K T.fd_shown p_shown [] := T.t_shown.b
abbrev Txt.f_seen {K : PySem.W.Frag} {mg : Str → Option Value} {w : World} (T : Txt K mg w) : Addr := T.t_seen.f
abbrev Txt.fd_seen {K : PySem.W.Frag} {mg : Str → Option Value} {w : World} (T : Txt K mg w) : FuncData := T.t_seen.fd
theorem Txt.F_seen {K : PySem.W.Frag} {mg : Str → Option Value} {w : World} (T : Txt K mg w) : Fun K "_law_seen" "_law_seen" s_seen T.f_seen T.fd_seen := T.t_seen.F
theorem Txt.b_seen {K : PySem.W.Frag} {mg : Str → Option Value} {w : World} (T : Txt K mg w) : Binds K T.fd_seen p_seen [] := T.t_seen.b
abbrev Txt.f_lot {K : PySem.W.Frag} {mg : Str → Option Value} {w : World} (T : Txt K mg w) : Addr := T.t_lot.f
abbrev Txt.fd_lot {K : PySem.W.Frag} {mg : Str → Option Value} {w : World} (T : Txt K mg w) : FuncData := T.t_lot.fd
theorem Txt.F_lot {K : PySem.W.Frag} {mg : Str → Option Value} {w : World} (T : Txt K mg w) : Fun K "_law_lot" "_law_lot" s_lot T.f_lot T.fd_lot := T.t_lot.F
theorem Txt.b_lot {K : PySem.W.Frag} {mg : Str → Option Value} {w : World} (T : Txt K mg w) : Binds K T.fd_lot p_lot [] := T.t_lot.b
abbrev Txt.f_tells {K : PySem.W.Frag} {mg : Str → Option Value} {w : World} (T : Txt K mg w) : Addr := T.t_tells.f
abbrev Txt.fd_tells {K : PySem.W.Frag} {mg : Str → Option Value} {w : World} (T : Txt K mg w) : FuncData := T.t_tells.fd
theorem Txt.F_tells {K : PySem.W.Frag} {mg : Str → Option Value} {w : World} (T : Txt K mg w) : Fun K "_law_tells" "_law_tells" s_tells T.f_tells T.fd_tells := T.t_tells.F
theorem Txt.b_tells {K : PySem.W.Frag} {mg : Str → Option Value} {w : World} (T : Txt K mg w) : Binds K T.fd_tells p_tells [] := T.t_tells.b
abbrev Txt.f_law_turned {K : PySem.W.Frag} {mg : Str → Option Value} {w : World} (T : Txt K mg w) : Addr := T.t_law_turned.f
abbrev Txt.fd_law_turned {K : PySem.W.Frag} {mg : Str → Option Value} {w : World} (T : Txt K mg w) : FuncData := T.t_law_turned.fd
theorem Txt.F_law_turned {K : PySem.W.Frag} {mg : Str → Option Value} {w : World} (T : Txt K mg w) : Fun K "_law_turned" "_law_turned" s_law_turned T.f_law_turned T.fd_law_turned := T.t_law_turned.F
theorem Txt.b_law_turned {K : PySem.W.Frag} {mg : Str → Option Value} {w : World} (T : Txt K mg w) : Binds K T.fd_law_turned p_law_turned [] := T.t_law_turned.b
abbrev Txt.f_restless {K : PySem.W.Frag} {mg : Str → Option Value} {w : World} (T : Txt K mg w) : Addr := T.t_restless.f
abbrev Txt.fd_restless {K : PySem.W.Frag} {mg : Str → Option Value} {w : World} (T : Txt K mg w) : FuncData := T.t_restless.fd
theorem Txt.F_restless {K : PySem.W.Frag} {mg : Str → Option Value} {w : World} (T : Txt K mg w) : Fun K "_law_restless" "_law_restless" s_restless T.f_restless T.fd_restless := T.t_restless.F
theorem Txt.b_restless {K : PySem.W.Frag} {mg : Str → Option Value} {w : World} (T : Txt K mg w) : Binds K T.fd_restless p_restless [] := T.t_restless.b
abbrev Txt.f_law_beaten {K : PySem.W.Frag} {mg : Str → Option Value} {w : World} (T : Txt K mg w) : Addr := T.t_law_beaten.f
abbrev Txt.fd_law_beaten {K : PySem.W.Frag} {mg : Str → Option Value} {w : World} (T : Txt K mg w) : FuncData := T.t_law_beaten.fd
theorem Txt.F_law_beaten {K : PySem.W.Frag} {mg : Str → Option Value} {w : World} (T : Txt K mg w) : Fun K "_law_beaten" "_law_beaten" s_law_beaten T.f_law_beaten T.fd_law_beaten := T.t_law_beaten.F
theorem Txt.b_law_beaten {K : PySem.W.Frag} {mg : Str → Option Value} {w : World} (T : Txt K mg w) : Binds K T.fd_law_beaten p_law_beaten [] := T.t_law_beaten.b
abbrev Txt.f_refused {K : PySem.W.Frag} {mg : Str → Option Value} {w : World} (T : Txt K mg w) : Addr := T.t_refused.f
abbrev Txt.fd_refused {K : PySem.W.Frag} {mg : Str → Option Value} {w : World} (T : Txt K mg w) : FuncData := T.t_refused.fd
theorem Txt.F_refused {K : PySem.W.Frag} {mg : Str → Option Value} {w : World} (T : Txt K mg w) : Fun K "_law_refused" "_law_refused" s_refused T.f_refused T.fd_refused := T.t_refused.F
theorem Txt.b_refused {K : PySem.W.Frag} {mg : Str → Option Value} {w : World} (T : Txt K mg w) : Binds K T.fd_refused p_refused [] := T.t_refused.b
abbrev Txt.f_gone {K : PySem.W.Frag} {mg : Str → Option Value} {w : World} (T : Txt K mg w) : Addr := T.t_gone.f
abbrev Txt.fd_gone {K : PySem.W.Frag} {mg : Str → Option Value} {w : World} (T : Txt K mg w) : FuncData := T.t_gone.fd
theorem Txt.F_gone {K : PySem.W.Frag} {mg : Str → Option Value} {w : World} (T : Txt K mg w) : Fun K "_law_gone" "_law_gone" s_gone T.f_gone T.fd_gone := T.t_gone.F
theorem Txt.b_gone {K : PySem.W.Frag} {mg : Str → Option Value} {w : World} (T : Txt K mg w) : Binds K T.fd_gone p_gone [] := T.t_gone.b
abbrev Txt.f_step_right {K : PySem.W.Frag} {mg : Str → Option Value} {w : World} (T : Txt K mg w) : Addr := T.t_step_right.f
abbrev Txt.fd_step_right {K : PySem.W.Frag} {mg : Str → Option Value} {w : World} (T : Txt K mg w) : FuncData := T.t_step_right.fd
theorem Txt.F_step_right {K : PySem.W.Frag} {mg : Str → Option Value} {w : World} (T : Txt K mg w) : Fun K "_law_step_right" "_law_step_right" s_step_right T.f_step_right T.fd_step_right := T.t_step_right.F
theorem Txt.b_step_right {K : PySem.W.Frag} {mg : Str → Option Value} {w : World} (T : Txt K mg w) : Binds K T.fd_step_right p_step_right [] := T.t_step_right.b
abbrev Txt.f_right {K : PySem.W.Frag} {mg : Str → Option Value} {w : World} (T : Txt K mg w) : Addr := T.t_right.f
abbrev Txt.fd_right {K : PySem.W.Frag} {mg : Str → Option Value} {w : World} (T : Txt K mg w) : FuncData := T.t_right.fd
theorem Txt.F_right {K : PySem.W.Frag} {mg : Str → Option Value} {w : World} (T : Txt K mg w) : Fun K "_law_right" "_law_right" s_right T.f_right T.fd_right := T.t_right.F
theorem Txt.b_right {K : PySem.W.Frag} {mg : Str → Option Value} {w : World} (T : Txt K mg w) : Binds K T.fd_right p_right [] := T.t_right.b
abbrev Txt.f_law {K : PySem.W.Frag} {mg : Str → Option Value} {w : World} (T : Txt K mg w) : Addr := T.t_law.f
abbrev Txt.fd_law {K : PySem.W.Frag} {mg : Str → Option Value} {w : World} (T : Txt K mg w) : FuncData := T.t_law.fd
theorem Txt.F_law {K : PySem.W.Frag} {mg : Str → Option Value} {w : World} (T : Txt K mg w) : Fun K "law" "law" s_law T.f_law T.fd_law := T.t_law.F
theorem Txt.b_law {K : PySem.W.Frag} {mg : Str → Option Value} {w : World} (T : Txt K mg w) : Binds K T.fd_law p_law [] := T.t_law.b
end Lh

namespace Lh
open PySem PySem.Spec PyProof.Rows L2
section
variable {P : Program} {w : World} {K : PySem.W.Frag} {mg : Str → Option Value} {base : Heap}
/-- what an expression comes to, then what follows -/
theorem use {te : TE} {σ : L2.St} {H : Hp} {Q : VK} (R : V → Hp → Prop) (h : ∀ Q' : VK, (∀ v H', R v H' → Q' v H') → te σ H Q') (hq : ∀ v H', R v H' → Q v H') : te σ H Q := h Q hq
/-! ### the draws -/
def spTake : Sp := fun vs H Q _ => ∃ (bx : Addr) (c m : Int), vs = [.ref bx, .int m] ∧ 0 < m ∧ m ≤ 1000000 ∧ c ≤ 1000000000 ∧ Box bx c H ∧
  ∀ (r : Int) (H' : Hp), 0 ≤ r → r < m → Ext bx H H' → Box bx (c + 1) H' → Q (.int r) H'
theorem ok_take (T : Txt K mg w) : FnOk P w K mg base CX0 1 T.f_take T.fd_take p_take spTake := by
  refine T.F_take.ok sc_take (fun vs H Q E h => ?_) (fun cdv A outer s H vs Q E hr h => ?_)
  · obtain ⟨bx, c, m, rfl, _⟩ := h
    rfl
  · obtain ⟨bx, c, m, rfl, m0, m1, c1, ⟨a, b, n, hb, a0, b0, b1, n0, n1⟩, q⟩ := h
    refine ⟨_, (pss_cons (ps_if (pt_cmpR op_gt (pe_ix ix_list (pv 0) pe_int (fun _ _ => rfl)) pe_int (nomark _))
        (pss_cons (ps_set (i := 2) sc_take.nd rfl (.inl rfl) (pe_op op_mod (pe_ix ix_list (pv 0) pe_int (fun _ _ => rfl)) (pv 1)))
        (pss_cons (ps_asg (pe_op op_fdiv (pe_ix ix_list (pv 0) pe_int (fun _ _ => rfl)) (pv 1)) (pg_sub (pv 0) pe_int set_list))
        (pss_one (ps_ret (pv 2)))))
        pss_nil)
      (pss_cons (ps_asg (pe_op op_add (pe_ix ix_list (pv 0) pe_int (fun _ _ => rfl)) pe_int) (pg_sub (pv 0) pe_int set_list))
      (pss_cons (ps_set (i := 3) sc_take.nd rfl (.inl rfl) (pe_op op_mod (pe_op op_pow (pe_op op_add (pe_ix ix_list (pv 0) pe_int (fun _ _ => rfl)) (pe_op op_mul pe_int (pe_ix ix_list (pv 0) pe_int (fun _ _ => rfl)))) pe_int) pe_int))
      (pss_cons (ps_set (i := 4) sc_take.nd rfl (.inl rfl) (pe_op op_mod (pe_op op_mul (pe_op op_add (pe_op op_add (pv 3) (pe_ix ix_list (pv 0) pe_int (fun _ _ => rfl))) (pe_op op_fdiv (pe_ix ix_list (pv 0) pe_int (fun _ _ => rfl)) pe_int)) (pe_op op_add (pe_op op_add (pe_op op_mod (pv 3) pe_int) pe_int) (pe_ix ix_list (pv 0) pe_int (fun _ _ => rfl)))) pe_int))
      (pss_one (ps_ret (pe_op op_mod (pe_op op_fdiv (pe_op op_mod (pe_op op_add (pe_op op_mul (pv 4) pe_int) (pv 3)) pe_int) pe_int) (pv 1)))))))), ?_⟩
    have i0 : ∀ x y z : V, atI [x, y, z] 0 = some x := fun _ _ _ => rfl
    have i1 : ∀ x y z : V, atI [x, y, z] 1 = some y := fun _ _ _ => rfl
    have i2 : ∀ x y z : V, atI [x, y, z] 2 = some z := fun _ _ _ => rfl
    have hS : SqL K H bx [.int a, .int b, .int n] := .inl (.inl hb)
    refine ⟨.ref bx, rfl, bx, _, 0, _, rfl, rfl, hS, i0 _ _ _, a, 0, rfl, rfl, _, rfl, ite2 (fun e => ?_) (fun e => ?_)⟩
    · refine ⟨.ref bx, rfl, bx, _, 0, _, rfl, rfl, hS, i0 _ _ _, .int m, rfl, a, m, rfl, rfl, m0, ?_⟩
      refine ⟨.ref bx, rfl, bx, _, 0, _, rfl, rfl, hS, i0 _ _ _, .int m, rfl, a, m, rfl, rfl, ⟨m0, by omega⟩, ?_⟩
      refine ⟨.ref bx, rfl, bx, _, 0, 0, rfl, rfl, hb, rfl, ?_⟩
      refine ⟨.int (a % m), rfl, q _ _ (Int.emod_nonneg _ (by omega)) (Int.emod_lt_of_pos _ m0) (Ext.refl _).box ⟨a / m, b, n, upd_same, Int.ediv_nonneg a0 (by omega), b0, b1, n0, by omega⟩⟩
    · have n2 : n + 1 ≤ 1000000001 := by omega
      refine ⟨.ref bx, rfl, bx, _, 2, _, rfl, rfl, hS, i2 _ _ _, n, 1, rfl, rfl, .ref bx, rfl, bx, _, 2, 2, rfl, rfl, hb, rfl, ?_⟩
      generalize hH1 : upd H bx (.lst (List.set [V.int a, .int b, .int n] 2 (.int (n + 1)))) = H1
      have hb1 : H1 bx = some (.lst [.int a, .int b, .int (n + 1)]) := by rw [← hH1]; exact upd_same
      have hS1 : SqL K H1 bx [.int a, .int b, .int (n + 1)] := .inl (.inl hb1)
      have bB : Box bx (c + 1) H1 := ⟨a, b, n + 1, hb1, a0, b0, b1, by omega, by omega⟩
      have eE : Ext bx H H1 := by rw [← hH1]; exact (Ext.refl _).box
      refine ⟨.ref bx, rfl, bx, _, 1, _, rfl, rfl, hS1, i1 _ _ _, .ref bx, rfl, bx, _, 2, _, rfl, rfl, hS1, i2 _ _ _, 39373, n + 1, rfl, rfl, .inl ⟨by decide, by decide⟩, b, _, rfl, rfl, _, 5, rfl, rfl, ⟨by decide, by decide, ?_⟩, _, 2147483647, rfl, rfl, by show (0 : Int) < 2147483647; decide, ?_⟩
      · omega
      dsimp only
      generalize hx : (b + 39373 * (n + 1)) ^ (5 : Int).toNat % 2147483647 = x
      have x0 : 0 ≤ x := by rw [← hx]; exact Int.emod_nonneg _ (by decide)
      have x1 : x < 2147483647 := by rw [← hx]; exact Int.emod_lt_of_pos _ (by decide)
      have d0 : 0 ≤ b / 1000003 := Int.ediv_nonneg b0 (by decide)
      have d1 : b / 1000003 ≤ b := Int.ediv_le_self _ b0
      have e0 : 0 ≤ x % 40009 := Int.emod_nonneg _ (by decide)
      have e1 : x % 40009 < 40009 := Int.emod_lt_of_pos _ (by decide)
      refine ⟨.int x, rfl, .ref bx, rfl, bx, _, 2, _, rfl, rfl, hS1, i2 _ _ _, x, n + 1, rfl, rfl, .ref bx, rfl, bx, _, 1, _, rfl, rfl, hS1, i1 _ _ _, b, 1000003, rfl, rfl, ⟨by decide, by decide⟩, _, _, rfl, rfl,
        .int x, rfl, x, 40009, rfl, rfl, by show (0 : Int) < 40009; decide, _, 7, rfl, rfl, .ref bx, rfl, bx, _, 2, _, rfl, rfl, hS1, i2 _ _ _, _, n + 1, rfl, rfl, _, _, rfl, rfl, .inr ⟨?_, ?_⟩, _, 2147483629, rfl, rfl, by show (0 : Int) < 2147483629; decide, ?_⟩
      · omega
      · omega
      dsimp only
      generalize hy : (x + (n + 1) + b / 1000003) * (x % 40009 + 7 + (n + 1)) % 2147483629 = y
      have y0 : 0 ≤ y := by rw [← hy]; exact Int.emod_nonneg _ (by decide)
      have y1 : y < 2147483629 := by rw [← hy]; exact Int.emod_lt_of_pos _ (by decide)
      refine ⟨.int y, rfl, y, 48271, rfl, rfl, .inr ⟨by decide, by decide⟩, .int x, rfl, _, x, rfl, rfl, _, 2147483587, rfl, rfl, by show (0 : Int) < 2147483587; decide, _, 64, rfl, rfl, ⟨by decide, by decide⟩, .int m, rfl, _, m, rfl, rfl, m0, ?_⟩
      exact q _ _ (Int.emod_nonneg _ (by omega)) (Int.emod_lt_of_pos _ m0) eE bB
def spDip (K : PySem.W.Frag) : Sp := fun vs H Q _ => ∃ (a : Addr) (ns : List Int) (k : Nat), vs = [.ref a, .int k] ∧ SqL K H a (ns.map V.int) ∧ k ≤ 1000 ∧
  ∀ (bx : Addr) (H' : Hp), Same H H' → H bx = none → Box bx 0 H' → Q (.ref bx) H'
theorem ok_dip (T : Txt K mg w) : FnOk P w K mg base CX0 1 T.f_dip T.fd_dip p_dip (spDip K) := by
  refine T.F_dip.ok sc_dip (fun vs H Q E h => ?_) (fun cdv A outer s H vs Q E hr h => ?_)
  · obtain ⟨a, ns, k, rfl, _⟩ := h
    rfl
  · obtain ⟨a, ns, k, rfl, hS, hk, q⟩ := h
    refine ⟨_, (pss_cons (ps_set (i := 2) sc_dip.nd rfl (.inl rfl) (pe_ifExp (pt_cmpR op_lt (pv 1) (pe_callB call_len_seq (by rfl) T.m_len (by decide +kernel) (pa_cons (pv 0) pa_nil)) (nomark _)) (pe_ix ix_list (pv 0) (pv 1) (fun _ _ => rfl)) pe_int))
      (pss_one (ps_ret (pe_lst (pa_cons (pe_op op_mul (pe_callB call_abs (by rfl) T.m_abs (by decide +kernel) (pa_cons (pv 2) pa_nil)) (pe_callTy call_int1 (by rfl) T.m_int (by decide +kernel) (pa_cons (pe_cmpR op_ge (pe_callB call_abs (by rfl) T.m_abs (by decide +kernel) (pa_cons (pv 2) pa_nil)) (pe_op op_pow pe_int pe_int) (nomark _)) pa_nil))) (pa_cons (pe_op op_add (pe_op op_add (pe_op op_mod (pv 2) pe_int) (pe_op op_mul pe_int (pv 1))) pe_int) (pa_cons pe_int pa_nil))))))), ?_⟩
    show tIf _ _ _ _ _ _
    refine use (fun v H' => ∃ x : Int, v = .int x ∧ H' = H) (fun Q' hQ => ?_) ?_
    · refine ⟨.int k, rfl, .ref a, rfl, a, _, rfl, .inl hS, k, _, rfl, rfl, _, rfl, ite2 (fun e => ?_) (fun e => ?_)⟩
      · have hk2 : k < ns.length := by
          have := of_decide_eq_true e
          rw [List.length_map] at this
          omega
        exact ⟨.ref a, rfl, .int k, rfl, a, _, k, .int ns[k], rfl, rfl, hS, atI_nat (by rw [List.getElem?_map, List.getElem?_eq_getElem hk2]; rfl), hQ _ _ ⟨_, rfl, rfl⟩⟩
      · exact hQ _ _ ⟨0, rfl, rfl⟩
    · rintro v H' ⟨x, rfl, rfl⟩
      have m0 : 0 ≤ x % 2305843009213693951 := Int.emod_nonneg _ (by decide)
      have m1 : x % 2305843009213693951 < 2305843009213693951 := Int.emod_lt_of_pos _ (by decide)
      refine ⟨.int x, rfl, x, rfl, .int x, rfl, x, rfl, 10, 18, rfl, rfl, ⟨by decide, by decide, by decide⟩, _, _, rfl, rfl, .inr ⟨_, rfl, ?_⟩⟩
      have bnd : ∀ b : Bool, (0 : Int) ≤ (if b then 1 else 0) ∧ (if b then (1 : Int) else 0) ≤ 1 := fun b => by cases b <;> decide
      refine ⟨_, _, rfl, rfl, .inr ⟨Int.lt_of_lt_of_le (by decide) (bnd _).1, Int.lt_of_le_of_lt (bnd _).2 (by decide)⟩, .int x, rfl, x, 2305843009213693951, rfl, rfl, by show (0 : Int) < 2305843009213693951; decide, .int k, rfl, 39373, k, rfl, rfl, .inl ⟨by decide, by decide⟩, _, _, rfl, rfl, _, 17, rfl, rfl, by show 3 ≤ sizeLine; decide, fun p hp => ?_⟩
      refine q p _ (same_upd hp) hp ⟨_, _, 0, upd_same, ?_, ?_, ?_, by decide, by decide⟩
      · refine Int.mul_nonneg ?_ (bnd _).1
        split <;> omega
      · show 0 ≤ x % 2305843009213693951 + 39373 * (k : Int) + 17
        omega
      · show x % 2305843009213693951 + 39373 * (k : Int) + 17 < 2 ^ 62
        omega
end
end Lh

namespace Lh
open PySem PySem.Spec PyProof.Rows L2
def cutI {α : Type} (xs : List α) (lo hi : Option Int) : List α := (xs.drop (HT.sIx xs.length 0 lo)).take (HT.sIx xs.length xs.length hi - HT.sIx xs.length 0 lo)
theorem cut_map {α : Type} (f : α → V) (xs : List α) (lo hi : Option Int) : cutV (xs.map f) lo hi = (cutI xs lo hi).map f := by
  unfold cutV cutI
  rw [List.length_map, List.map_take, List.map_drop]
theorem cutI_head {α : Type} (xs : List α) : (cutI xs none (some 3)).length = min 3 xs.length := by
  unfold cutI
  rw [HT.sIx_none, show HT.sIx xs.length xs.length (some 3) = min 3 xs.length from HT.sIx_nat xs.length _ 3, List.length_take, List.length_drop]
  omega
theorem cutI_tail {α : Type} (xs : List α) (h : xs.length ≤ 3) : (cutI xs (some 3) (some 63)).length = 0 := by
  unfold cutI
  rw [show HT.sIx xs.length 0 (some 3) = min 3 xs.length from HT.sIx_nat xs.length _ 3, List.length_take, List.length_drop]
  omega
section
variable {P : Program} {w : World} {K : PySem.W.Frag} {mg : Str → Option Value} {base : Heap}
def spFolded (K : PySem.W.Frag) : Sp := fun vs H Q _ => ∃ (a : Addr) (ns : List Int), vs = [.ref a, .int 3] ∧ SqL K H a (ns.map V.int) ∧ ns.length ≤ 63 ∧
  ∀ (p : Addr) (ms : List Int) (H' : Hp), Same H H' → H p = none → H' p = some (.lst (ms.map V.int)) → ms.length ≤ 3 → Q (.ref p) H'
theorem ok_folded (T : Txt K mg w) : FnOk P w K mg base CX0 1 T.f_folded T.fd_folded p_folded (spFolded K) := by
  refine T.F_folded.ok sc_folded (fun vs H Q E h => ?_) (fun cdv A outer s H vs Q E hr h => ?_)
  · obtain ⟨a, ns, rfl, _⟩ := h
    rfl
  · obtain ⟨a, ns, rfl, hS, hl, q⟩ := h
    refine ⟨_, (pss_cons (ps_set (i := 2) sc_folded.nd rfl (.inl rfl) (pe_callTy call_list_of (by rfl) T.m_list (by decide +kernel) (pa_cons (pe_slice sl_list (pv 0) po_none (po_some (pv 1))) pa_nil)))
      (pss_cons (ps_for PassesOwn.never rfl (pi_enum (by rfl) T.m_enumerate (pa_cons (pe_slice sl_list (pv 0) (po_some (pv 1)) (po_some pe_int)) pa_nil)) (pg_tup rfl (pgs_cons (pg_name (i := 3) sc_folded.nd rfl (.inl rfl)) (pgs_cons (pg_name (i := 4) sc_folded.nd rfl (.inl rfl)) pgs_nil)))
        (pss_one (ps_asg (pe_op op_add (pe_ix ix_list (pv 2) (pe_op op_mod (pv 3) (pv 1)) (fun _ _ => rfl)) (pe_op op_mul (pv 4) (pe_op op_add (pv 3) pe_int))) (pg_sub (pv 2) (pe_op op_mod (pv 3) (pv 1)) set_list))))
      (pss_one (ps_ret (pv 2))))), ?_⟩
    -- the cells
    refine ⟨.ref a, rfl, .int 3, rfl, 3, rfl, a, _, rfl, hS, fun c nc => ?_⟩
    have s1 := same_upd (o := .lst (cutV (ns.map V.int) none (some 3))) nc
    refine ⟨c, _, rfl, .inl (.inl (.inl upd_same)), fun l nl => ?_⟩
    have s2 := s1.trans (same_upd (o := .lst (cutV (ns.map V.int) none (some 3))) nl)
    have nlH : H l = none := s1.free nl
    -- the rest of the script
    refine ⟨.ref a, rfl, .int 3, rfl, 3, rfl, 63, rfl, a, _, rfl, s2.seq hS, fun d nd => ?_⟩
    have s3 := s2.trans (same_upd (o := .lst (cutV (ns.map V.int) (some 3) (some 63))) nd)
    have nld : l ≠ d := ne_of_none upd_same nd
    refine ⟨d, _, rfl, .inl (.inl upd_same), ?_⟩
    rw [cut_map V.int, cut_map V.int] at *
    refine for_it (walk_enum (xs := (cutI ns (some 3) (some 63)).map V.int)) (fun i σ H3 => ∃ (y3 y4 : Option V) (ms : List Int), σ = [some (.ref a), some (.int 3), some (.ref l), y3, y4] ∧ Same H H3 ∧ H3 d = some (.lst ((cutI ns (some 3) (some 63)).map V.int)) ∧ H3 l = some (.lst (ms.map V.int)) ∧ ms.length = min 3 ns.length) ?_ ?_ ?_ ?_
    · refine ⟨none, none, cutI ns none (some 3), rfl, s3, upd_same, ?_, cutI_head ns⟩
      rw [upd_ne nld, upd_same]
    · rintro i σ H3 _ ⟨y3, y4, ms, rfl, _, hd, _⟩
      exact .inl (.inl hd)
    · rintro i x σ H3 H4 hi ⟨y3, y4, ms, rfl, sm, hd, hl3, hm⟩ ⟨t, x1, x2, rfl, nt, rfl, e1, e2⟩
      rw [List.length_map] at hi
      have e1' : V.int (i : Nat) = x1 := Option.some.inj e1
      subst e1'
      have e2' : x2 = .int (cutI ns (some 3) (some 63))[i] := by
        have : ((cutI ns (some 3) (some 63)).map V.int)[i]? = some x2 := e2
        rw [List.getElem?_map, List.getElem?_eq_getElem hi] at this
        exact (Option.some.inj this).symm
      subst e2'
      have h3 : ms.length = 3 := by
        by_cases hc : ns.length ≤ 3
        · rw [cutI_tail ns hc] at hi; omega
        · omega
      have nlt : l ≠ t := ne_of_none hl3 nt
      have hl4 : (upd H3 t (.tup [.int (i : Nat), .int (cutI ns (some 3) (some 63))[i]])) l = some (.lst (ms.map V.int)) := by rw [upd_ne nlt]; exact hl3
      have hlt : ((i : Int) % 3).toNat < ms.length := by omega
      refine ⟨t, _, rfl, .inl (.inl upd_same), rfl, _, _, rfl, _, _, rfl, rfl, ?_⟩
      refine ⟨.ref l, rfl, .int i, rfl, .int 3, rfl, i, 3, rfl, rfl, by show (0 : Int) < 3; decide, l, _, _, .int ms[((i : Int) % 3).toNat], rfl, rfl, .inl (.inl hl4), ?_, ?_⟩
      · refine at_of (j := ((i : Int) % 3).toNat) (by omega) ?_
        rw [List.getElem?_map, List.getElem?_eq_getElem hlt]; rfl
      refine ⟨_, rfl, .int i, rfl, i, 2, rfl, rfl, _, _, rfl, rfl, .inr ⟨by omega, ?_⟩, _, _, rfl, rfl, .ref l, rfl, .int i, rfl, .int 3, rfl, i, 3, rfl, rfl, by show (0 : Int) < 3; decide, l, _, _, ((i : Int) % 3).toNat, rfl, rfl, hl4, ?_, ?_⟩
      · have : (cutI ns (some 3) (some 63)).length ≤ ns.length := by
          unfold cutI; rw [List.length_take, List.length_drop]; omega
        omega
      · show ixN (ms.map V.int).length ((i : Int) % 3) = some _
        unfold ixN
        rw [List.length_map, if_pos (by omega), if_pos (by omega)]
      · refine ⟨_, _, ms.set ((i : Int) % 3).toNat (ms[((i : Int) % 3).toNat] + (cutI ns (some 3) (some 63))[i] * ((i : Int) + 2)), rfl, ?_, ?_, ?_, ?_⟩
        · exact fun b o e => by
            rw [upd_ne (ne_of_none e nlH), upd_ne (ne_of_none (sm b o e) nt)]
            exact sm b o e
        · rw [upd_ne nld.symm, upd_ne (ne_of_none hd nt)]
          exact hd
        · rw [upd_same, List.map_set]
        · rw [List.length_set]; exact hm
    · rintro σ H3 ⟨y3, y4, ms, rfl, sm, hd, hl3, hm⟩
      exact ⟨.ref l, rfl, q l ms H3 sm nlH hl3 (by omega)⟩
end
end Lh

namespace Lh
open PySem PySem.Spec PyProof.Rows L2
/-- data of at most n levels, no level longer than 1000 -/
def okD : Nat → PyData → Prop
  | _, .none => True
  | _, .bool _ => True
  | _, .int _ => True
  | _, .str _ => True
  | n + 1, .list ds => ds.length ≤ 8388608 ∧ ∀ d ∈ ds, okD n d
  | n + 1, .tuple ds => ds.length ≤ 8388608 ∧ ∀ d ∈ ds, okD n d
  | _, _ => False
def tyD : PyData → String
  | .none => "NoneType"
  | .bool _ => "bool"
  | .int _ => "int"
  | .str _ => "str"
  | .list _ => "list"
  | .tuple _ => "tuple"
  | .dict _ => "dict"
theorem Rp.ty {bx : Addr} {K : PySem.W.Frag} {H : Hp} {v : V} {d : PyData} (h : Rp bx H v d) : TyX K H v (.type (tyD d)) := by
  cases h with
  | non => exact .base .non
  | bl b => exact .base (.bl b)
  | int i => exact .base (.int i)
  | str x => exact .base (.str x)
  | lst h _ _ => exact .base (.lst h)
  | tup h _ _ => exact h.ty
theorem iteP {A B : Prop} {c : Bool} (h : c = true) (a : A) : if c = true then A else B := by rw [if_pos h]; exact a
theorem iteN {A B : Prop} {c : Bool} (h : c = false) (b : B) : if c = true then A else B := by rw [h, if_neg Bool.false_ne_true]; exact b
theorem yes {σ : L2.St} {H : Hp} {Q : Bool → Hp → Prop} (h : Q true H) : tYes σ H Q := h
theorem blC {Q : VK} {c d : Bool} {H : Hp} (h : c = d) (q : Q (.bl d) H) : Q (.bl c) H := by rw [h]; exact q
theorem blT {Q : VK} {c : Bool} {H : Hp} (h : c = true) (q : Q (.bl true) H) : Q (.bl c) H := by rw [h]; exact q
/-- isinstance(name, T) -/
theorem rd_isi {K : PySem.W.Frag} {σ : L2.St} {H : Hp} {Q : VK} {i : Nat} {x : V} {T c : String} {b : Bool} (hs : σ[i]? = some (some x)) (ty : TyX K H x (.type T)) (h : kitB T c = some b) (q : Q (.bl b) H) :
    tCB (rIsi K) (tCons (tVar i) (tCons (tC (.ty c)) tNil)) σ H Q := ⟨x, hs, x, .ty c, .type T, .type c, b, rfl, .ty c, ty, kit_ty h, q⟩
/-- isinstance(name, (T, U)) -/
theorem rd_isi2 {K : PySem.W.Frag} {σ : L2.St} {H : Hp} {Q : VK} {i : Nat} {x : V} {T c e : String} {b b2 : Bool} (hs : σ[i]? = some (some x)) (ty : TyX K H x (.type T)) (h : kitB T c = some b) (h2 : kitB T e = some b2)
    (q : ∀ p, H p = none → Q (.bl (b || b2)) (upd H p (.tup [.ty c, .ty e]))) (ty2 : ∀ p, H p = none → TyX K (upd H p (.tup [.ty c, .ty e])) x (.type T)) :
    tCB (rIsiT K) (tCons (tVar i) (tCons (tTup (tCons (tC (.ty c)) (tCons (tC (.ty e)) tNil))) tNil)) σ H Q :=
  ⟨x, hs, by show 2 ≤ sizeLine; decide, fun p hp => ⟨x, p, _, .type T, [.type c, .type e], b || b2, rfl, upd_same, .cons (.ty c) (.cons (.ty e) .nil), ty2 p hp, kitAny_cons (kit_ty h) (fun z => kitAny_cons (kit_ty h2) (fun z2 => by rw [z, z2]; rfl) (fun z2 => by rw [z2, Bool.or_true])) (fun z => by rw [z, Bool.true_or]), q p hp⟩⟩
theorem walk_zipT {K : PySem.W.Frag} {a b : Addr} {xs ys : List V} {n : Nat} (h1 : xs.length = n) (h2 : ys.length = n) : Walk (RZ.ItzT K a b) n (fun H => SqT K H a xs ∧ SqT K H b ys) (YPair (fun i => xs[i]?) (fun i => ys[i]?)) := by
  refine ⟨fun i _ hi q => ⟨xs, ys, xs[i], ys[i], q.1, q.2, by simp [h1, hi], by simp [h2, hi]⟩, fun _ q => ⟨xs, ys, q.1, q.2, .inl (by omega)⟩, ?_⟩
  rintro i H v H' _ q ⟨T, x, z, h1, h2, h3, h4, h5⟩
  exact ⟨T, x, z, h1, h2, h3, h4 xs q.1, h5 ys q.2⟩
def lcSc : Expr → Scope
  | .ListComp _ _ sc _ => sc
  | _ => { kind := .function, names := [], isGenerator := false, isCoroutine := false }
def retE : List Stmt → Expr
  | [.Return (some e) _] => e
  | _ => .Constant .none 0 ⟨0, 0, 0, 0⟩
def argE : Expr → Expr
  | .Call _ (e :: _) _ _ => e
  | e => e
def isCell (osc : Scope) (k : NameKind) (n : Str) : Bool := k == .free && osc.kind == .function && osc.names.lookup n == some .cell
/-- the names of an inner scope, as the outer one has them -/
def relS (sc osc : Scope) : Scope := { sc with names := sc.names.map fun z => if isCell osc z.2 z.1 = true then (z.1, .cell) else (z.1, z.2) }
def rTupN (K : PySem.W.Frag) : List V → Hp → VK → Prop := fun xs H Q => ∃ p ys, xs = [.ref p] ∧ SqL K H p ys ∧ ∀ l (o : Obj), H l = none → o.dict = none → Q (.ref l) (upd H l (.frz o (.tup ys)))
theorem blkOk_sc {N : List Str} {sc sc2 scope : Scope} {own : List (Str × Nat)} (e : sc = sc2) (h : blkC N sc2 scope own = true) : BlkOk N sc scope own := by
  subst e
  exact blkOk_by h
def asgE : Stmt → Expr
  | .Assign _ e _ => e
  | _ => .Constant .none 0 ⟨0, 0, 0, 0⟩
def forB : Stmt → List Stmt
  | .For _ _ b _ _ => b
  | _ => []
def noS : Stmt := .Pass ⟨0, 0, 0, 0⟩
def rLenQ (K : PySem.W.Frag) : List V → Hp → VK → Prop := fun xs H Q => ∃ p ys, xs = [.ref p] ∧ (SqL K H p ys ∨ SqT K H p ys) ∧ Q (.int ys.length) H
section
variable {P : Program} {w : World} {K : PySem.W.Frag} {mg : Str → Option Value} {base : Heap}
end
end Lh

namespace Lh
open PySem PySem.Spec PyProof.Rows L2
/-! ### rules -/
inductive Rule where
  | held (n : Int)
  | sum (own : Int) (ties : List (Int × Int))
  | cap (own : Int) (ties : List (Int × Int)) (most : Int)
  | kinds (own : Int) (seen : List Int)
  | next (seen : List Int)
  | free (seen : List Int)
/-- tuples stay -/
structure Keep (H H' : Hp) : Prop where
  tup : ∀ a xs, H a = some (.tup xs) → H' a = some (.tup xs)
  frz : ∀ a o u, H a = some (.frz o u) → H' a = some (.frz o u)
theorem Keep.refl (H : Hp) : Keep H H := ⟨fun _ _ h => h, fun _ _ _ h => h⟩
theorem Keep.trans {H H1 H2 : Hp} (a : Keep H H1) (b : Keep H1 H2) : Keep H H2 := ⟨fun x y h => b.tup x y (a.tup x y h), fun x y z h => b.frz x y z (a.frz x y z h)⟩
theorem Keep.same {H H' : Hp} (e : Same H H') : Keep H H' := ⟨fun a xs h => e a _ h, fun a o u h => e a _ h⟩
theorem Keep.ext {bx : Addr} {c : Int} {H H' : Hp} (e : Ext bx H H') (b : Box bx c H) : Keep H H' := by
  obtain ⟨x, y, z, hb, _⟩ := b
  exact ⟨fun a xs h => e a _ (ne_of h hb (by intro z; cases z)) h, fun a o u h => e a _ (ne_of h hb (by intro z; cases z)) h⟩
theorem TupAt.keep {H H' : Hp} {a : Addr} {xs : List V} (k : Keep H H') (h : TupAt H a xs) : TupAt H' a xs := by
  rcases h with h | ⟨o, d, h⟩
  · exact .inl (k.tup _ _ h)
  · exact .inr ⟨o, d, k.frz _ _ _ h⟩
def PairAtH (H : Hp) (p : Addr) (q : Int × Int) : Prop := H p = some (.tup [.int q.1, .int q.2])
def TiesAt (H : Hp) (t : Addr) (ties : List (Int × Int)) : Prop := ∃ (o : Obj) (ps : List Addr), o.dict = none ∧ H t = some (.frz o (.tup (ps.map V.ref))) ∧ Paired (PairAtH H) ps ties
def SeenAt (H : Hp) (t : Addr) (seen : List Int) : Prop := TupAt H t (seen.map V.int)
def RuleAt (H : Hp) (v : V) : Rule → Prop
  | .held n => ∃ a, v = .ref a ∧ H a = some (.tup [.str "held", .int n])
  | .sum own ties => ∃ a t, v = .ref a ∧ H a = some (.tup [.str "sum", .int own, .ref t]) ∧ TiesAt H t ties
  | .cap own ties most => ∃ a t, v = .ref a ∧ H a = some (.tup [.str "cap", .int own, .ref t, .int most]) ∧ TiesAt H t ties
  | .kinds own seen => ∃ a t, v = .ref a ∧ H a = some (.tup [.str "kinds", .int own, .ref t]) ∧ SeenAt H t seen
  | .next seen => ∃ a t, v = .ref a ∧ H a = some (.tup [.str "next", .ref t]) ∧ SeenAt H t seen
  | .free seen => ∃ a t, v = .ref a ∧ H a = some (.tup [.str "free", .ref t]) ∧ SeenAt H t seen
theorem pairs_keep {H H' : Hp} (k : Keep H H') : ∀ {ps : List Addr} {ties : List (Int × Int)}, Paired (PairAtH H) ps ties → Paired (PairAtH H') ps ties
  | _, _, .nil => .nil
  | _, _, .cons h r => .cons (k.tup _ _ h) (pairs_keep k r)
theorem TiesAt.keep {H H' : Hp} {t : Addr} {ties : List (Int × Int)} (k : Keep H H') (h : TiesAt H t ties) : TiesAt H' t ties := by
  obtain ⟨o, ps, h1, h2, h3⟩ := h
  exact ⟨o, ps, h1, k.frz _ _ _ h2, pairs_keep k h3⟩
theorem SeenAt.keep {H H' : Hp} {t : Addr} {seen : List Int} (k : Keep H H') (h : SeenAt H t seen) : SeenAt H' t seen := TupAt.keep k h
theorem RuleAt.keep {H H' : Hp} {v : V} (k : Keep H H') : ∀ {r : Rule}, RuleAt H v r → RuleAt H' v r
  | .held n, ⟨a, e, h⟩ => ⟨a, e, k.tup _ _ h⟩
  | .sum _ _, ⟨a, t, e, h, q⟩ => ⟨a, t, e, k.tup _ _ h, q.keep k⟩
  | .cap _ _ _, ⟨a, t, e, h, q⟩ => ⟨a, t, e, k.tup _ _ h, q.keep k⟩
  | .kinds _ _, ⟨a, t, e, h, q⟩ => ⟨a, t, e, k.tup _ _ h, q.keep k⟩
  | .next _, ⟨a, t, e, h, q⟩ => ⟨a, t, e, k.tup _ _ h, q.keep k⟩
  | .free _, ⟨a, t, e, h, q⟩ => ⟨a, t, e, k.tup _ _ h, q.keep k⟩
def smallI (i : Int) : Prop := 0 ≤ i ∧ i ≤ 1000
/-- rising persons below many -/
def Rising (many : Int) (ns : List Int) : Prop := ns.Pairwise (· < ·) ∧ ∀ n ∈ ns, 0 ≤ n ∧ n < many
def Rule.Wf (many : Int) : Rule → Prop
  | .held n => 0 ≤ n ∧ n ≤ 1000000
  | .sum own ties => smallI own ∧ Rising many (ties.map (·.1)) ∧ ∀ q ∈ ties, 1 ≤ q.2 ∧ q.2 ≤ 1000
  | .cap own ties most => smallI own ∧ Rising many (ties.map (·.1)) ∧ (∀ q ∈ ties, 1 ≤ q.2 ∧ q.2 ≤ 1000) ∧ smallI most
  | .kinds own seen => smallI own ∧ Rising many seen
  | .next seen => Rising many seen
  | .free seen => Rising many seen
def Rule.persons : Rule → List Int
  | .held _ => []
  | .sum _ ties => ties.map (·.1)
  | .cap _ ties _ => ties.map (·.1)
  | .kinds _ seen => seen
  | .next seen => seen
  | .free seen => seen
theorem Rising.sub {many : Int} {ns ms : List Int} (s : ms.Sublist ns) (h : Rising many ns) : Rising many ms := ⟨h.1.sublist s, fun n hn => h.2 n (s.subset hn)⟩
/-- an item of a written list -/
theorem pick {xs : List V} {i : Int} (h0 : 0 ≤ i) (h1 : i < xs.length) : ∃ v, v ∈ xs ∧ atI xs i = some v := by
  have hj : i.toNat < xs.length := by omega
  exact ⟨xs[i.toNat], List.getElem_mem hj, at_of (by omega) (List.getElem?_eq_getElem hj)⟩
section
variable {P : Program} {w : World} {K : PySem.W.Frag} {mg : Str → Option Value} {base : Heap}
def spSome : Sp := fun vs H Q _ => ∃ (bx p : Addr) (c m : Int) (ns : List Int), vs = [.ref bx, .ref p, .int m] ∧ 0 < m ∧ m ≤ 1000000 ∧ c + ns.length ≤ 1000000000 ∧ ns.length ≤ 1000 ∧ Box bx c H ∧ H p = some (.lst (ns.map V.int)) ∧ p ≠ bx ∧
  ∀ (q : Addr) (ms : List Int) (H' : Hp), Ext bx H H' → Box bx (c + ns.length) H' → H q = none → H' q = some (.lst (ms.map V.int)) → ms.Sublist ns → Q (.ref q) H'
theorem ok_some (T : Txt K mg w) : FnOk P w K mg base CX0 2 T.f_some T.fd_some p_some spSome := by
  have G_take := ok_take (P := P) (w := w) (base := base) T
  refine T.F_some.ok sc_some (fun vs H Q E h => ?_) (fun cdv A outer s H vs Q E hr h => ?_)
  · obtain ⟨bx, p, c, m, ns, rfl, _⟩ := h
    rfl
  · obtain ⟨bx, p, c, m, ns, rfl, m0, m1, c1, hl, hB, hp, np, q⟩ := h
    refine ⟨_, (pss_one (ps_ret (pe_lc (own := [("_law_one", 3)]) (g := gName 3) (by rfl) sc_some.nd (pi_list (pv 1)) (blkOk_by (own := [("_law_one", 3)]) (N := n_some) (sc := defScope s_some) (by decide +kernel)) (fun _ _ _ _ _ => (pg_name (i := 3) sc_some.nd rfl (.inl rfl) (.inr rfl))) (fun _ _ _ _ _ => (pts_one (pt_cmpR op_eq (pe_call G_take (hr.mono (by decide)) (by rfl) T.g_take T.F_take.kp T.b_take .nil pass0 (pa_cons (pv 0) (pa_cons (pv 2) pa_nil))) pe_int (nomark _)))) (fun _ _ _ _ _ => (pv 3))))), ?_⟩
    refine ⟨.ref p, rfl, p, rfl, ⟨_, .inl (.inl hp)⟩, fun D hD => ?_⟩
    have nD : D ≠ bx := hB.ne hD
    refine lc_it (walk_list (xs := ns.map V.int)) (fun i H3 => ∃ ms : List Int, Ext bx H H3 ∧ Box bx (c + i) H3 ∧ H3 D = some (.lst (ms.map V.int)) ∧ ms.Sublist (ns.take i)) ⟨[], (Ext.refl _).new hD, by simpa using hB.new hD, upd_same, List.nil_sublist _⟩ ?_ ?_ ?_
    · rintro i H3 _ ⟨ms, e, _⟩
      exact .inl (.inl (e _ _ np hp))
    · rintro i x H3 H4 hi ⟨ms, e, hb, hD3, sub⟩ ⟨rfl, hx⟩
      rw [List.length_map] at hi
      rw [List.getElem?_map, List.getElem?_eq_getElem hi] at hx
      have ex : x = .int ns[i] := (Option.some.inj hx).symm
      subst ex
      have tk : ns.take (i + 1) = ns.take i ++ [ns[i]] := by rw [List.take_add_one, List.getElem?_eq_getElem hi]; rfl
      have ml : ms.length ≤ i := Nat.le_trans sub.length_le (by rw [List.length_take]; omega)
      refine ⟨rfl, ?_⟩
      refine ⟨.ref bx, rfl, .int m, rfl, bx, c + i, m, rfl, m0, m1, by omega, hb, fun r H5 r0 r1 e5 b5 => ?_⟩
      have hD5 := e5 _ _ nD hD3
      have b6 : Box bx (c + (i + 1 : Nat)) H5 := b5.mono (by omega)
      refine ⟨rfl, _, rfl, ite2 (fun z => ?_) (fun z => ?_)⟩
      · refine ⟨.int ns[i], rfl, _, hD5, by rw [List.length_map]; exact small1000 (by omega), ms ++ [ns[i]], (e.trans e5).new hD, b6.at nD, ?_, ?_⟩
        · rw [upd_same, List.map_append]; rfl
        · rw [tk]; exact sub.append (List.Sublist.refl _)
      · refine ⟨ms, e.trans e5, b6, hD5, ?_⟩
        rw [tk]; exact sub.trans (List.sublist_append_left _ _)
    · rintro H3 ⟨ms, e, hb, hD3, sub⟩
      rw [List.length_map] at hb sub
      rw [List.take_length] at sub
      exact q D ms H3 e hb hD hD3 sub
end
end Lh

namespace Lh
open PySem PySem.Spec PyProof.Rows L2
section
variable {P : Program} {w : World} {K : PySem.W.Frag} {mg : Str → Option Value} {base : Heap}
theorem Paired.snoc {α β : Type} {R : α → β → Prop} {x : α} {y : β} (r : R x y) : ∀ {xs : List α} {ys : List β}, Paired R xs ys → Paired R (xs ++ [x]) (ys ++ [y])
  | _, _, .nil => .cons r .nil
  | _, _, .cons h t => .cons h (Paired.snoc r t)
def spSumRule : Sp := fun vs H Q _ => ∃ (bx p : Addr) (c far many : Int) (ns : List Int), vs = [.ref bx, .ref p, .int far] ∧ 0 < far ∧ far ≤ 999 ∧ c + 2 * ns.length + 4 ≤ 1000000000 ∧ ns.length ≤ 1000 ∧ Box bx c H ∧ H p = some (.lst (ns.map V.int)) ∧ p ≠ bx ∧ Rising many ns ∧
  ∀ (v : V) (r : Rule) (H' : Hp), Ext bx H H' → Box bx (c + 2 * ns.length + 4) H' → RuleAt H' v r → r.Wf many → r.persons = ns → Q v H'
theorem ok_sum_rule (T : Txt K mg w) : FnOk P w K mg base CX0 2 T.f_sum_rule T.fd_sum_rule p_sum_rule spSumRule := by
  have G_take := ok_take (P := P) (w := w) (base := base) T
  refine T.F_sum_rule.ok sc_sum_rule (fun vs H Q E h => ?_) (fun cdv A outer s H vs Q E hr h => ?_)
  · obtain ⟨bx, p, c, far, many, ns, rfl, _⟩ := h
    rfl
  · obtain ⟨bx, p, c, far, many, ns, rfl, f0, f1, c1, hl, hB, hp, np, rs, q⟩ := h
    refine ⟨_, (pss_cons (ps_set (i := 3) sc_sum_rule.nd rfl (.inl rfl) (pe_ix ix_list (pe_lst (pa_cons pe_int (pa_cons pe_int (pa_cons pe_int (pa_cons (pe_call G_take (hr.mono (by decide)) (by rfl) T.g_take T.F_take.kp T.b_take .nil pass0 (pa_cons (pv 0) (pa_cons pe_int pa_nil))) pa_nil))))) (pe_call G_take (hr.mono (by decide)) (by rfl) T.g_take T.F_take.kp T.b_take .nil pass0 (pa_cons (pv 0) (pa_cons pe_int pa_nil))) (fun _ _ => rfl)))
      (pss_cons (ps_set (i := 4) sc_sum_rule.nd rfl (.inl rfl) (pe_callTy call_tupleF (by rfl) T.m_tuple (by decide +kernel) (pa_cons (pe_lc (own := [("_law_one", 5)]) (g := gName 5) (by rfl) sc_sum_rule.nd (pi_list (pv 1)) (blkOk_by (own := [("_law_one", 5)]) (N := n_sum_rule) (sc := defScope s_sum_rule) (by decide +kernel)) (fun _ _ _ _ _ => (pg_name (i := 5) sc_sum_rule.nd rfl (.inl rfl) (.inr rfl))) (fun _ _ _ _ _ => pts_nil) (fun _ _ _ _ _ => (pe_tup (pa_cons (pv 5) (pa_cons (pe_ix (r := rIxL K) ix_list (pe_lst (pa_cons pe_int (pa_cons pe_int (pa_cons pe_int (pa_cons (pe_op op_add pe_int (pe_call G_take (hr.mono (by decide)) (by rfl) T.g_take T.F_take.kp T.b_take .nil pass0 (pa_cons (pv 0) (pa_cons (pv 2) pa_nil)))) pa_nil))))) (pe_call G_take (hr.mono (by decide)) (by rfl) T.g_take T.F_take.kp T.b_take .nil pass0 (pa_cons (pv 0) (pa_cons pe_int pa_nil))) (fun _ _ => rfl)) pa_nil))))) pa_nil)))
      (pss_one (ps_ret (pe_ifExp (pt_cmpR op_gt (pe_call G_take (hr.mono (by decide)) (by rfl) T.g_take T.F_take.kp T.b_take .nil pass0 (pa_cons (pv 0) (pa_cons pe_int pa_nil))) pe_int (nomark _)) (pe_tup (pa_cons pe_str (pa_cons (pv 3) (pa_cons (pv 4) pa_nil)))) (pe_tup (pa_cons pe_str (pa_cons (pv 3) (pa_cons (pv 4) (pa_cons (pe_call G_take (hr.mono (by decide)) (by rfl) T.g_take T.F_take.kp T.b_take .nil pass0 (pa_cons (pv 0) (pa_cons pe_int pa_nil))) pa_nil)))))))))), ?_⟩
    -- the own number
    refine ⟨.ref bx, rfl, bx, c, 4, rfl, by decide, by decide, by omega, hB, fun r1 H1 r10 r11 e1 b1 => ⟨by show 4 ≤ sizeLine; decide, fun l hl1 => ?_⟩⟩
    have nl : l ≠ bx := b1.ne hl1
    refine ⟨.ref bx, rfl, bx, c + 1, 4, rfl, by decide, by decide, by omega, b1.new hl1, fun r2 H2 r20 r21 e2 b2 => ?_⟩
    obtain ⟨v0, m0, a0⟩ := pick (xs := [V.int 0, .int 0, .int 1, .int r1]) r20 (by simpa using r21)
    have hl2 : H2 l = some (.lst [V.int 0, .int 0, .int 1, .int r1]) := e2 _ _ nl upd_same
    refine ⟨l, _, r2, v0, rfl, rfl, .inl (.inl hl2), a0, ?_⟩
    obtain ⟨own, rfl, o1⟩ : ∃ own : Int, v0 = .int own ∧ smallI own := by
      simp only [List.mem_cons, List.not_mem_nil, or_false] at m0
      rcases m0 with rfl | rfl | rfl | rfl
      · exact ⟨0, rfl, by decide, by decide⟩
      · exact ⟨0, rfl, by decide, by decide⟩
      · exact ⟨1, rfl, by decide, by decide⟩
      · exact ⟨r1, rfl, r10, by omega⟩
    have eX : Ext bx H H2 := (e1.trans ((Ext.refl _).new hl1)).trans e2
    have hp2 := eX _ _ np hp
    -- the ties
    refine ⟨.ref p, rfl, p, rfl, ⟨_, .inl (.inl hp2)⟩, fun D hD => ?_⟩
    have nD : D ≠ bx := b2.ne hD
    refine lc_it (walk_list (xs := ns.map V.int)) (fun i H3 => ∃ (ps : List Addr) (ties : List (Int × Int)), Ext bx H2 H3 ∧ Box bx (c + 2 + 2 * i) H3 ∧ H3 D = some (.lst (ps.map V.ref)) ∧ Paired (PairAtH H3) ps ties ∧ ties.map (·.1) = ns.take i ∧ ∀ q ∈ ties, 1 ≤ q.2 ∧ q.2 ≤ 1000)
      ⟨[], [], (Ext.refl _).new hD, (b2.new hD).mono (by omega), upd_same, .nil, rfl, fun q h => absurd h (by simp)⟩ ?_ ?_ ?_
    · rintro i H3 _ ⟨ps, ties, e, _⟩
      exact .inl (.inl (e _ _ np hp2))
    · rintro i x H3 H4 hi ⟨ps, ties, e, hb, hD3, pr, tf, tw⟩ ⟨rfl, hx⟩
      rw [List.length_map] at hi
      rw [List.getElem?_map, List.getElem?_eq_getElem hi] at hx
      have ex : x = .int ns[i] := (Option.some.inj hx).symm
      subst ex
      have tk : ns.take (i + 1) = ns.take i ++ [ns[i]] := by rw [List.take_add_one, List.getElem?_eq_getElem hi]; rfl
      have pl : ps.length = i := by
        have h1 : ps.length = ties.length := pr.length
        have h2 := congrArg List.length tf
        rw [List.length_map, List.length_take] at h2
        omega
      refine ⟨rfl, yes (iteT ?_)⟩
      refine ⟨.int ns[i], rfl, .ref bx, rfl, .int far, rfl, bx, c + 2 + 2 * i, far, rfl, f0, by omega, by omega, hb, fun r5 H5 r50 r51 e5 b5 => ⟨1, r5, rfl, rfl, by show 4 ≤ sizeLine; decide, fun l5 hl5 => ?_⟩⟩
      have nl5 : l5 ≠ bx := b5.ne hl5
      refine ⟨.ref bx, rfl, bx, c + 2 + 2 * i + 1, 4, rfl, by decide, by decide, by omega, b5.new hl5, fun r6 H6 r60 r61 e6 b6 => ?_⟩
      obtain ⟨v6, m6, a6⟩ := pick (xs := [V.int 1, .int 1, .int 2, .int (1 + r5)]) r60 (by simpa using r61)
      have hl6 : H6 l5 = some (.lst [V.int 1, .int 1, .int 2, .int (1 + r5)]) := e6 _ _ nl5 upd_same
      obtain ⟨wt, rfl, w1⟩ : ∃ wt : Int, v6 = .int wt ∧ 1 ≤ wt ∧ wt ≤ 1000 := by
        simp only [List.mem_cons, List.not_mem_nil, or_false] at m6
        rcases m6 with rfl | rfl | rfl | rfl
        · exact ⟨1, rfl, by decide, by decide⟩
        · exact ⟨1, rfl, by decide, by decide⟩
        · exact ⟨2, rfl, by decide, by decide⟩
        · exact ⟨1 + r5, rfl, by omega, by omega⟩
      refine ⟨l5, _, r6, _, rfl, rfl, .inl (.inl hl6), a6, by show 2 ≤ sizeLine; decide, fun t ht => ?_⟩
      have k36 : Keep H4 H6 := (Keep.ext e5 hb).trans ((Keep.same (same_upd hl5)).trans (Keep.ext e6 (b5.new hl5)))
      have e36 : Ext bx H4 H6 := (e5.trans ((Ext.refl _).new hl5)).trans e6
      have hD6 := e36 _ _ nD hD3
      refine ⟨_, by rw [upd_ne (ne_of_none hD6 ht)]; exact hD6, by rw [List.length_map]; exact small1000 (by omega), ps ++ [t], ties ++ [(ns[i], wt)], ?_, ?_, ?_, ?_, ?_, ?_⟩
      · exact ((e.trans e36).trans ((Ext.refl _).new ht)).new hD
      · exact ((b6.new ht).at nD).mono (by omega)
      · rw [upd_same, List.map_append]; rfl
      · have ntD : t ≠ D := (ne_of_none hD6 ht).symm
        have kT : Keep H6 (upd (upd H6 t (.tup [.int ns[i], .int wt])) D (.lst (ps.map V.ref ++ [.ref t]))) := by
          refine ⟨fun a xs h => ?_, fun a o u h => ?_⟩
          · rw [upd_ne (ne_of h hD6 (by intro z; cases z)), upd_ne (ne_of_none h ht)]; exact h
          · rw [upd_ne (ne_of h hD6 (by intro z; cases z)), upd_ne (ne_of_none h ht)]; exact h
        refine Paired.snoc ?_ (pairs_keep (k36.trans kT) pr)
        show upd (upd H6 t _) D _ t = _
        rw [upd_ne ntD, upd_same]
      · rw [List.map_append, tf, tk]; rfl
      · intro q hq
        rcases List.mem_append.mp hq with hq | hq
        · exact tw q hq
        · rw [List.mem_singleton.mp hq]; exact w1
    · rintro H3 ⟨ps, ties, e, hb, hD3, pr, tf, tw⟩
      rw [List.length_map] at hb tf
      rw [List.take_length] at tf
      refine ⟨D, _, rfl, .inl (.inl hD3), fun t o nt od => ?_⟩
      have nt2 : t ≠ bx := hb.ne nt
      have b4 := hb.new (o := .frz o (.tup (ps.map V.ref))) nt
      -- sum or cap
      refine ⟨.ref bx, rfl, bx, _, 4, rfl, by decide, by decide, ?_, b4, fun r5 H5 r50 r51 e5 b5 => ?_⟩
      · omega
      have k5 := Keep.ext e5 b4
      have tA : TiesAt H5 t ties := ⟨o, ps, od, k5.frz _ _ _ upd_same, pairs_keep ((Keep.same (same_upd nt)).trans k5) pr⟩
      have eA : Ext bx H H5 := ((eX.trans e).trans ((Ext.refl _).new nt)).trans e5
      refine ⟨_, 0, rfl, rfl, _, rfl, ite2 (fun z => ?_) (fun z => ?_)⟩
      · refine ⟨.int own, rfl, .ref t, rfl, by show 3 ≤ sizeLine; decide, fun a ha => ?_⟩
        refine q (.ref a) (.sum own ties) _ (eA.trans ((Ext.refl _).new ha)) ((b5.new ha).mono (by omega)) ⟨a, t, rfl, upd_same, tA.keep (Keep.same (same_upd ha))⟩ ⟨o1, by rw [tf]; exact rs, tw⟩ tf
      · refine ⟨.int own, rfl, .ref t, rfl, .ref bx, rfl, bx, _, 6, rfl, by decide, by decide, ?_, b5, fun r6 H6 r60 r61 e6 b6 => ⟨by show 4 ≤ sizeLine; decide, fun a ha => ?_⟩⟩
        · omega
        refine q (.ref a) (.cap own ties r6) _ ((eA.trans e6).trans ((Ext.refl _).new ha)) ((b6.new ha).mono (by omega)) ⟨a, t, rfl, upd_same, (tA.keep (Keep.ext e6 b5)).keep (Keep.same (same_upd ha))⟩ ⟨o1, by rw [tf]; exact rs, tw, r60, by omega⟩ tf
end
end Lh

namespace Lh
open PySem PySem.Spec PyProof.Rows L2
section
variable {P : Program} {w : World} {K : PySem.W.Frag} {mg : Str → Option Value} {base : Heap}
def spRule : Sp := fun vs H Q _ => ∃ (bx p : Addr) (c far many : Int) (m : V) (ns : List Int), vs = [.ref bx, m, .ref p, .int far] ∧ 0 < far ∧ far ≤ 999 ∧ c + 3 * ns.length + 6 ≤ 1000000000 ∧ ns.length ≤ 1000 ∧ Box bx c H ∧ H p = some (.lst (ns.map V.int)) ∧ p ≠ bx ∧ Rising many ns ∧
  ∀ (v : V) (r : Rule) (H' : Hp), Ext bx H H' → Box bx (c + 3 * ns.length + 6) H' → RuleAt H' v r → r.Wf many → r.persons.Sublist ns → Q v H'
theorem ok_rule (T : Txt K mg w) : FnOk P w K mg base CX0 3 T.f_rule T.fd_rule p_rule spRule := by
  have G_take := ok_take (P := P) (w := w) (base := base) T
  have G_some := ok_some (P := P) (w := w) (base := base) T
  have G_sum_rule := ok_sum_rule (P := P) (w := w) (base := base) T
  refine T.F_rule.ok sc_rule (fun vs H Q E h => ?_) (fun cdv A outer s H vs Q E hr h => ?_)
  · obtain ⟨bx, p, c, far, many, m, ns, rfl, _⟩ := h
    rfl
  · obtain ⟨bx, p, c, far, many, m, ns, rfl, f0, f1, c1, hl, hB, hp, np, rs, q⟩ := h
    refine ⟨_, (pss_cons (ps_par (i := 4) (j := 5) (by rfl) sc_rule.nd rfl rfl (by decide) rfl rfl (pa_cons (pe_call G_some (hr.mono (by decide)) (by rfl) T.g_some T.F_some.kp T.b_some .nil pass0 (pa_cons (pv 0) (pa_cons (pv 2) (pa_cons pe_int pa_nil)))) (pa_cons (pe_call G_take (hr.mono (by decide)) (by rfl) T.g_take T.F_take.kp T.b_take .nil pass0 (pa_cons (pv 0) (pa_cons pe_int pa_nil))) pa_nil)) (by rfl))
      (pss_cons (ps_if (pt_cmpR op_eq (pv 5) pe_int (nomark _))
        (pss_one (ps_ret (pe_tup (pa_cons pe_str (pa_cons (pe_call G_take (hr.mono (by decide)) (by rfl) T.g_take T.F_take.kp T.b_take .nil pass0 (pa_cons (pv 0) (pa_cons pe_int pa_nil))) pa_nil)))))
        pss_nil)
      (pss_cons (ps_if (pt_cmpR op_eq (pv 5) pe_int (nomark _))
        (pss_one (ps_ret (pe_tup (pa_cons pe_str (pa_cons (pe_call G_take (hr.mono (by decide)) (by rfl) T.g_take T.F_take.kp T.b_take .nil pass0 (pa_cons (pv 0) (pa_cons pe_int pa_nil))) (pa_cons (pe_callTy call_tupleF (by rfl) T.m_tuple (by decide +kernel) (pa_cons (pv 4) pa_nil)) pa_nil))))))
        pss_nil)
      (pss_cons (ps_if (pt_cmpR op_eq (pv 5) pe_int (nomark _))
        (pss_one (ps_ret (pe_tup (pa_cons pe_str (pa_cons (pe_callTy call_tupleF (by rfl) T.m_tuple (by decide +kernel) (pa_cons (pv 4) pa_nil)) pa_nil)))))
        pss_nil)
      (pss_one (ps_ret (pe_ifExp (pt_cmpR op_eq (pv 5) pe_int (nomark _)) (pe_tup (pa_cons pe_str (pa_cons (pe_callTy call_tupleF (by rfl) T.m_tuple (by decide +kernel) (pa_cons (pv 4) pa_nil)) pa_nil))) (pe_call G_sum_rule (hr.mono (by decide)) (by rfl) T.g_sum_rule T.F_sum_rule.kp T.b_sum_rule .nil pass0 (pa_cons (pv 0) (pa_cons (pv 4) (pa_cons (pv 3) pa_nil))))))))))), ?_⟩
    refine ⟨.ref bx, rfl, .ref p, rfl, bx, p, c, 2, ns, rfl, by decide, by decide, by omega, hl, hB, hp, np, fun z ms H1 e1 b1 nz hz sub => ?_⟩
    have nz2 : z ≠ bx := hB.ne nz
    have ml := sub.length_le
    refine ⟨.ref bx, rfl, bx, _, 10, rfl, by decide, by decide, by omega, b1, fun r2 H2 r20 r21 e2 b2 => ⟨_, _, rfl, ?_⟩⟩
    have hz2 := e2 _ _ nz2 hz
    have eX := e1.trans e2
    refine ⟨.int r2, rfl, rfl, _, rfl, ite2 (fun w0 => ?_) (fun w0 => ?_)⟩
    · refine ⟨.ref bx, rfl, bx, _, 7, rfl, by decide, by decide, by omega, b2, fun r3 H3 r30 r31 e3 b3 => ⟨by show 2 ≤ sizeLine; decide, fun a ha => ?_⟩⟩
      exact q (.ref a) (.held r3) _ ((eX.trans e3).trans ((Ext.refl _).new ha)) ((b3.new ha).mono (by omega)) ⟨a, rfl, upd_same⟩ ⟨r30, by omega⟩ (List.nil_sublist _)
    refine ⟨.int r2, rfl, rfl, _, rfl, ite2 (fun w1 => ?_) (fun w1 => ?_)⟩
    · refine ⟨.ref bx, rfl, bx, _, 3, rfl, by decide, by decide, by omega, b2, fun r3 H3 r30 r31 e3 b3 => ?_⟩
      refine ⟨.ref z, rfl, z, _, rfl, .inl (.inl (e3 _ _ nz2 hz2)), fun t o nt od => ⟨by show 3 ≤ sizeLine; decide, fun a ha => ?_⟩⟩
      exact q (.ref a) (.kinds r3 ms) _ (((eX.trans e3).trans ((Ext.refl _).new nt)).trans ((Ext.refl _).new ha)) (((b3.new nt).new ha).mono (by omega)) ⟨a, t, rfl, upd_same, .inr ⟨o, od, by rw [upd_ne (ne_of_none upd_same ha)]; exact upd_same⟩⟩ ⟨⟨r30, by omega⟩, rs.sub sub⟩ sub
    refine ⟨.int r2, rfl, rfl, _, rfl, ite2 (fun w2 => ?_) (fun w2 => ?_)⟩
    · refine ⟨.ref z, rfl, z, _, rfl, .inl (.inl hz2), fun t o nt od => ⟨by show 2 ≤ sizeLine; decide, fun a ha => ?_⟩⟩
      exact q (.ref a) (.next ms) _ ((eX.trans ((Ext.refl _).new nt)).trans ((Ext.refl _).new ha)) (((b2.new nt).new ha).mono (by omega)) ⟨a, t, rfl, upd_same, .inr ⟨o, od, by rw [upd_ne (ne_of_none upd_same ha)]; exact upd_same⟩⟩ (rs.sub sub) sub
    refine ⟨.int r2, rfl, rfl, _, rfl, ite2 (fun w3 => ?_) (fun w3 => ?_)⟩
    · refine ⟨.ref z, rfl, z, _, rfl, .inl (.inl hz2), fun t o nt od => ⟨by show 2 ≤ sizeLine; decide, fun a ha => ?_⟩⟩
      exact q (.ref a) (.free ms) _ ((eX.trans ((Ext.refl _).new nt)).trans ((Ext.refl _).new ha)) (((b2.new nt).new ha).mono (by omega)) ⟨a, t, rfl, upd_same, .inr ⟨o, od, by rw [upd_ne (ne_of_none upd_same ha)]; exact upd_same⟩⟩ (rs.sub sub) sub
    · refine ⟨.ref bx, rfl, .ref z, rfl, .int far, rfl, bx, z, _, far, many, ms, rfl, f0, f1, ?_, by omega, b2, hz2, nz2, rs.sub sub, fun v r H3 e3 b3 ra wf pe => ?_⟩
      · omega
      · exact q v r H3 (eX.trans e3) (b3.mono (by omega)) ra wf (by rw [pe]; exact sub)
end
end Lh

namespace Lh
open PySem PySem.Spec PyProof.Rows L2
/-! ### what a rule tells -/
theorem nodup_len {α : Type} [DecidableEq α] : ∀ (xs ys : List α), xs.Nodup → (∀ x ∈ xs, x ∈ ys) → xs.length ≤ ys.length
  | [], _, _, _ => Nat.zero_le _
  | x :: t, ys, nd, h => by
    have hx : x ∈ ys := h x List.mem_cons_self
    have nt := List.nodup_cons.mp nd
    have h2 := nodup_len t (ys.erase x) nt.2 (fun y hy => by
      have ne : y ≠ x := fun e => nt.1 (by rw [← e]; exact hy)
      exact (List.mem_erase_of_ne ne).mpr (h y (List.mem_cons_of_mem _ hy)))
    rw [List.length_erase_of_mem hx] at h2
    have : 0 < ys.length := List.length_pos_of_mem hx
    rw [List.length_cons]
    omega
def wgt (ties : List (Int × Int)) (p : Int) : Int := ((ties.find? fun q => decide (q.1 = p)).map (·.2)).getD 0
def IsMex (ns : List Int) (x : Int) : Prop := x ∉ ns ∧ 0 ≤ x ∧ ∀ j, 0 ≤ j → j < x → j ∈ ns
def Tell : Rule → List (Int × Int) → Int → Prop
  | .held n, _, x => x = n
  | .sum own ties, lot, x => x = own + (lot.map fun q => wgt ties q.1).sum
  | .cap own ties most, lot, x => x = min (own + (lot.map fun q => wgt ties q.1).sum) most
  | .kinds own _, lot, x => ∃ ks : List Int, ks.Nodup ∧ (∀ k, k ∈ ks ↔ k ∈ lot.map (·.2)) ∧ x = own + ks.length
  | .next _, lot, x => (lot = [] ∧ x = 0) ∨ (x - 1 ∈ lot.map (·.2) ∧ ∀ y ∈ lot.map (·.2), y ≤ x - 1)
  | .free _, lot, x => IsMex (lot.map (·.2)) x
theorem Tell.unique : ∀ {r : Rule} {lot : List (Int × Int)} {x y : Int}, Tell r lot x → Tell r lot y → x = y
  | .held _, _, _, _, h, k => h.trans k.symm
  | .sum _ _, _, _, _, h, k => h.trans k.symm
  | .cap _ _ _, _, _, _, h, k => h.trans k.symm
  | .kinds _ _, lot, x, y, ⟨a, na, ma, ha⟩, ⟨b, nb, mb, hb⟩ => by
    have h1 := nodup_len a b na (fun z hz => (mb z).mpr ((ma z).mp hz))
    have h2 := nodup_len b a nb (fun z hz => (ma z).mpr ((mb z).mp hz))
    omega
  | .next _, lot, x, y, h, k => by
    rcases h with ⟨h1, h2⟩ | ⟨h1, h2⟩
    · rcases k with ⟨k1, k2⟩ | ⟨k1, k2⟩
      · omega
      · rw [h1] at k1; exact absurd k1 (by simp)
    · rcases k with ⟨k1, k2⟩ | ⟨k1, k2⟩
      · rw [k1] at h1; exact absurd h1 (by simp)
      · have := h2 _ k1; have := k2 _ h1; omega
  | .free _, lot, x, y, ⟨h1, h2, h3⟩, ⟨k1, k2, k3⟩ => by
    rcases Int.lt_trichotomy x y with h | h | h
    · exact absurd (k3 x h2 h) h1
    · exact h
    · exact absurd (h3 y k2 h) k1
/-! ### dicts of ties -/
def kvOf (ties : List (Int × Int)) : List (Key × V) := ties.map fun q => (Sum.inl q.1, V.int q.2)
theorem merge_new : ∀ (more acc : List (Key × V)), ((acc ++ more).map (·.1)).Nodup → mergeK acc more = acc ++ more
  | [], acc, _ => by rw [List.append_nil]; rfl
  | q :: t, acc, nd => by
    have hq : (acc.any fun kv => decide (kv.1 = q.1)) = false := by
      rw [List.any_eq_false]
      intro kv hkv e
      have e' : kv.1 = q.1 := of_decide_eq_true e
      rw [List.map_append, List.nodup_append] at nd
      exact nd.2.2 _ (List.mem_map_of_mem hkv) q.1 (by simp) e'
    have e1 : mergeK acc (q :: t) = mergeK (putK acc q.1 q.2) t := rfl
    have e2 : putK acc q.1 q.2 = acc ++ [q] := by
      unfold putK
      rw [hq, if_neg Bool.false_ne_true]
    rw [e1, e2, merge_new t (acc ++ [q]) (by rw [List.append_assoc]; exact nd), List.append_assoc]
    rfl
theorem kv_nodup {ties : List (Int × Int)} (h : (ties.map (·.1)).Nodup) : ((kvOf ties).map (·.1)).Nodup := by
  unfold kvOf
  rw [List.map_map]
  have e : ((fun q : Key × V => q.1) ∘ fun q : Int × Int => ((Sum.inl q.1 : Key), V.int q.2)) = (fun n : Int => (Sum.inl n : Key)) ∘ (fun q : Int × Int => q.1) := rfl
  rw [e, ← List.map_map, List.nodup_iff_pairwise_ne]
  rw [List.nodup_iff_pairwise_ne] at h
  exact List.Pairwise.map _ (fun a b z q => z (Sum.inl.inj q)) h
theorem kv_get : ∀ {ties : List (Int × Int)} {p : Int}, p ∈ ties.map (·.1) → valV (kvOf ties) (Sum.inl p) = some (.int (wgt ties p))
  | [], p, h => absurd h (by simp)
  | q :: t, p, h => by
    by_cases e : q.1 = p
    · have e1 : valV (kvOf (q :: t)) (Sum.inl p) = some (V.int q.2) := valV_pos (p := ((Sum.inl q.1 : Key), V.int q.2)) (by rw [e])
      rw [e1]
      unfold wgt
      rw [List.find?_cons, decide_eq_true e]
      rfl
    · have e1 : valV (kvOf (q :: t)) (Sum.inl p) = valV (kvOf t) (Sum.inl p) := valV_neg (p := ((Sum.inl q.1 : Key), V.int q.2)) (fun z => e (Sum.inl.inj z))
      have h' : p ∈ t.map (·.1) := by
        rw [List.map_cons, List.mem_cons] at h
        rcases h with h | h
        · exact absurd h.symm e
        · exact h
      rw [e1, kv_get h']
      unfold wgt
      rw [List.find?_cons, decide_eq_false e]
theorem Rising.nodup {many : Int} {ns : List Int} (h : Rising many ns) : ns.Nodup := by
  rw [List.nodup_iff_pairwise_ne]
  exact h.1.imp fun z => by omega
/-! ### a walk over pairs -/
theorem walk_tupR {K : PySem.W.Frag} {t : Addr} (ps : List Addr) : Walk (Itt K t) ps.length (fun H => SqT K H t (ps.map V.ref)) (YAt (ps.map V.ref)) := by
  have h := walk_tup (K := K) (a := t) (xs := ps.map V.ref)
  rw [List.length_map] at h
  exact h
theorem walk_listR {K : PySem.W.Frag} {t : Addr} (ps : List Addr) : Walk (Itl K t) ps.length (fun H => SqL K H t (ps.map V.ref)) (YAt (ps.map V.ref)) := by
  have h := walk_list (K := K) (a := t) (xs := ps.map V.ref)
  rw [List.length_map] at h
  exact h
theorem lc_pairs {K : PySem.W.Frag} {J : It} {G : Hp → Prop} {ps : List Addr} {lot : List (Int × Int)} {H1 : Hp} {D : Addr} {σ : L2.St} {vs : List Nat} {te : TE} {Qd : Hp → Prop} {i j : Nat} (f : Int × Int → Int)
    (wk : Walk J ps.length G (YAt (ps.map V.ref))) (hp : Paired (PairAtH H1) ps lot) (hD : H1 D = none) (hl : ps.length ≤ 1000) (hG : ∀ H3, Same H1 H3 → G H3)
    (hw : ∀ a b, wipe (((wipe σ vs).set i a).set j b) vs = wipe σ vs)
    (he : ∀ q ∈ lot, ∀ H3, Same H1 H3 → ∀ Q : VK, Q (.int (f q)) H3 → te (((wipe σ vs).set i (some (.int q.1))).set j (some (.int q.2))) H3 Q)
    (hq : ∀ H', Same H1 H' → H' D = some (.lst ((lot.map f).map V.int)) → Qd H') :
    ∃ W : Nat → Nat → Hp → Prop, (∃ m, W 0 m (upd H1 D (.lst []))) ∧ ∀ i1 m H, W i1 m H →
      (J.stop i1 H ∧ Qd H) ∨ (J.go i1 H ∧ ∃ Nx : Hp → Prop, (∀ H', Nx H' → ∃ m', m' < m ∧ W (i1 + 1) m' H') ∧ ∀ x H', J.yld i1 H x H' → gTup K 2 (gCons (gName i) (gCons (gName j) gNil)) x (wipe σ vs) H' fun σ2 H2 => wipe σ2 vs = wipe σ vs ∧ tYes σ2 H2 fun b H3 =>
        if b = true then te σ2 H3 fun y H4 => ∃ acc, H4 D = some (.lst acc) ∧ acc.length < sizeLine ∧ Nx (upd H4 D (.lst (acc ++ [y]))) else Nx H3) := by
  have ll : ps.length = lot.length := hp.length
  refine lc_it wk (fun n H3 => Same H1 H3 ∧ H3 D = some (.lst (((lot.take n).map f).map V.int))) ⟨same_upd hD, upd_same⟩ (fun n H3 _ h => hG H3 h.1) ?_ ?_
  · rintro n x H3 H4 hn ⟨sm, h3⟩ ⟨rfl, hx⟩
    rw [List.getElem?_map, List.getElem?_eq_getElem hn] at hx
    have ex : x = .ref ps[n] := (Option.some.inj hx).symm
    subst ex
    have hn2 : n < lot.length := by omega
    have pa : PairAtH H1 ps[n] lot[n] := by
      have : ∀ {ps : List Addr} {lot : List (Int × Int)}, Paired (PairAtH H1) ps lot → ∀ (n : Nat) (h1 : n < ps.length) (h2 : n < lot.length), PairAtH H1 ps[n] lot[n] := by
        intro ps lot hp
        induction hp with
        | nil => intro n h1; exact absurd h1 (by simp)
        | cons r t ih =>
          intro n h1 h2
          cases n with
          | zero => exact r
          | succ n => exact ih n (by simpa using h1) (by simpa using h2)
      exact this hp n hn hn2
    refine ⟨ps[n], _, rfl, .inl (.inl (sm _ _ pa)), rfl, _, _, rfl, _, _, rfl, rfl, hw _ _, yes (iteT ?_)⟩
    refine he lot[n] (List.getElem_mem hn2) _ sm _ ⟨_, h3, ?_, same_mut sm hD, ?_⟩
    · rw [List.length_map, List.length_map, List.length_take]; exact small1000 (by omega)
    · rw [upd_same, List.take_add_one, List.getElem?_eq_getElem hn2, List.map_append, List.map_append]; rfl
  · rintro H3 ⟨sm, h3⟩
    rw [ll, List.take_length] at h3
    exact hq H3 sm h3
end Lh

namespace Lh
open PySem PySem.Spec PyProof.Rows L2
section
variable {P : Program} {w : World} {K : PySem.W.Frag} {mg : Str → Option Value} {base : Heap}
def spSeenBy : Sp := fun vs H Q _ => ∃ (v : V) (r : Rule), vs = [v] ∧ RuleAt H v r ∧ r.persons.length ≤ 1000 ∧ ∀ (p : Addr) (H' : Hp), Same H H' → H p = none → H' p = some (.lst (r.persons.map V.int)) → Q (.ref p) H'
theorem ok_seen_by (T : Txt K mg w) : FnOk P w K mg base CX0 1 T.f_seen_by T.fd_seen_by p_seen_by spSeenBy := by
  refine T.F_seen_by.ok sc_seen_by (fun vs H Q E h => ?_) (fun cdv A outer s H vs Q E hr h => ?_)
  · obtain ⟨v, r, rfl, _⟩ := h
    rfl
  · obtain ⟨v, r, rfl, hv, hl, q⟩ := h
    refine ⟨_, (pss_cons (ps_set (i := 1) sc_seen_by.nd rfl (.inl rfl) (pe_ix ix_tup (pv 0) pe_int (fun _ _ => rfl)))
      (pss_cons (ps_if (pt_cmpR op_eq (pv 1) pe_str (nomark _))
        (pss_one (ps_ret (pe_lst pa_nil)))
        pss_nil)
      (pss_cons (ps_if (pt_cmpR op_in_seq (pv 1) (pe_tup (pa_cons pe_str (pa_cons pe_str pa_nil))) (by rfl))
        (pss_one (ps_ret (pe_lc (own := [("person", 2), ("weight", 3)]) (g := gTup K 2 (gCons (gName 2) (gCons (gName 3) gNil))) (by rfl) sc_seen_by.nd (pi_tup (pe_ix ix_tup (pv 0) pe_int (fun _ _ => rfl))) (blkOk_by (own := [("person", 2), ("weight", 3)]) (N := n_seen_by) (sc := defScope s_seen_by) (by decide +kernel)) (fun _ _ _ _ _ => (pg_tup rfl (pgs_cons (pg_name (i := 2) sc_seen_by.nd rfl (.inl rfl) (.inr rfl)) (pgs_cons (pg_name (i := 3) sc_seen_by.nd rfl (.inl rfl) (.inr rfl)) pgs_nil)))) (fun _ _ _ _ _ => pts_nil) (fun _ _ _ _ _ => (pv 2)))))
        pss_nil)
      (pss_cons (ps_if (pt_cmpR op_eq (pv 1) pe_str (nomark _))
        (pss_one (ps_ret (pe_callTy call_list_of (by rfl) T.m_list (by decide +kernel) (pa_cons (pe_ix ix_tup (pv 0) pe_int (fun _ _ => rfl)) pa_nil))))
        pss_nil)
      (pss_one (ps_ret (pe_callTy call_list_of (by rfl) T.m_list (by decide +kernel) (pa_cons (pe_ix ix_tup (pv 0) pe_int (fun _ _ => rfl)) pa_nil)))))))), ?_⟩
    cases r with
    | held n =>
      obtain ⟨a, rfl, ha⟩ := hv
      refine ⟨.ref a, rfl, a, _, 0, _, rfl, rfl, .inl (.inl ha), rfl, ?_⟩
      refine ⟨_, rfl, rfl, _, rfl, iteP (by decide +kernel) ?_⟩
      exact ⟨Nat.zero_le _, fun p np => q p _ (same_upd np) np upd_same⟩
    | sum own ties =>
      obtain ⟨a, t, rfl, ha, o, ps, od, ht, pr⟩ := hv
      have el : ps.length = ties.length := pr.length
      have hl2 : ps.length ≤ 1000 := by rw [el]; simpa [Rule.persons] using hl
      refine ⟨.ref a, rfl, a, _, 0, _, rfl, rfl, .inl (.inl ha), rfl, ?_⟩
      refine ⟨_, rfl, rfl, _, rfl, iteN (by decide +kernel) ?_⟩
      refine ⟨_, rfl, by show 2 ≤ sizeLine; decide, fun u hu => ⟨u, _, rfl, .inr (.inl (.inl upd_same)), rfl, rfl, _, rfl, iteP (by decide +kernel) ?_⟩⟩
      have s1 := same_upd (o := .tup [.str "sum", .str "cap"]) hu
      refine ⟨.ref a, rfl, a, _, 2, _, rfl, rfl, .inl (.inl (s1 _ _ ha)), rfl, t, rfl, ⟨_, .inl (.inr ⟨o, s1 _ _ ht⟩)⟩, fun D hD => ?_⟩
      refine lc_pairs (·.1) (walk_tupR ps) (pairs_keep (Keep.same s1) pr) hD hl2 (fun H3 s3 => .inl (.inr ⟨o, s3 _ _ (s1 _ _ ht)⟩)) (fun _ _ => rfl) (fun q _ H3 _ Q h => ⟨_, rfl, h⟩) (fun H3 s3 h3 => ?_)
      exact q D H3 (s1.trans s3) (s1.free hD) h3
    | cap own ties most =>
      obtain ⟨a, t, rfl, ha, o, ps, od, ht, pr⟩ := hv
      have el : ps.length = ties.length := pr.length
      have hl2 : ps.length ≤ 1000 := by rw [el]; simpa [Rule.persons] using hl
      refine ⟨.ref a, rfl, a, _, 0, _, rfl, rfl, .inl (.inl ha), rfl, ?_⟩
      refine ⟨_, rfl, rfl, _, rfl, iteN (by decide +kernel) ?_⟩
      refine ⟨_, rfl, by show 2 ≤ sizeLine; decide, fun u hu => ⟨u, _, rfl, .inr (.inl (.inl upd_same)), rfl, rfl, _, rfl, iteP (by decide +kernel) ?_⟩⟩
      have s1 := same_upd (o := .tup [.str "sum", .str "cap"]) hu
      refine ⟨.ref a, rfl, a, _, 2, _, rfl, rfl, .inl (.inl (s1 _ _ ha)), rfl, t, rfl, ⟨_, .inl (.inr ⟨o, s1 _ _ ht⟩)⟩, fun D hD => ?_⟩
      refine lc_pairs (·.1) (walk_tupR ps) (pairs_keep (Keep.same s1) pr) hD hl2 (fun H3 s3 => .inl (.inr ⟨o, s3 _ _ (s1 _ _ ht)⟩)) (fun _ _ => rfl) (fun q _ H3 _ Q h => ⟨_, rfl, h⟩) (fun H3 s3 h3 => ?_)
      exact q D H3 (s1.trans s3) (s1.free hD) h3
    | kinds own seen =>
      obtain ⟨a, t, rfl, ha, ht⟩ := hv
      refine ⟨.ref a, rfl, a, _, 0, _, rfl, rfl, .inl (.inl ha), rfl, ?_⟩
      refine ⟨_, rfl, rfl, _, rfl, iteN (by decide +kernel) ?_⟩
      refine ⟨_, rfl, by show 2 ≤ sizeLine; decide, fun u hu => ⟨u, _, rfl, .inr (.inl (.inl upd_same)), rfl, rfl, _, rfl, iteN (by decide +kernel) ?_⟩⟩
      have s1 := same_upd (o := .tup [.str "sum", .str "cap"]) hu
      refine ⟨_, rfl, rfl, _, rfl, iteP (by decide +kernel) ?_⟩
      refine ⟨.ref a, rfl, a, _, 2, _, rfl, rfl, .inl (.inl (s1 _ _ ha)), rfl, t, _, rfl, .inr (TupAt.keep (Keep.same s1) ht).sq, fun p np => ?_⟩
      exact q p _ (s1.trans (same_upd np)) (s1.free np) upd_same
    | next seen =>
      obtain ⟨a, t, rfl, ha, ht⟩ := hv
      refine ⟨.ref a, rfl, a, _, 0, _, rfl, rfl, .inl (.inl ha), rfl, ?_⟩
      refine ⟨_, rfl, rfl, _, rfl, iteN (by decide +kernel) ?_⟩
      refine ⟨_, rfl, by show 2 ≤ sizeLine; decide, fun u hu => ⟨u, _, rfl, .inr (.inl (.inl upd_same)), rfl, rfl, _, rfl, iteN (by decide +kernel) ?_⟩⟩
      have s1 := same_upd (o := .tup [.str "sum", .str "cap"]) hu
      refine ⟨_, rfl, rfl, _, rfl, iteN (by decide +kernel) ?_⟩
      refine ⟨.ref a, rfl, a, _, 1, _, rfl, rfl, .inl (.inl (s1 _ _ ha)), rfl, t, _, rfl, .inr (TupAt.keep (Keep.same s1) ht).sq, fun p np => ?_⟩
      exact q p _ (s1.trans (same_upd np)) (s1.free np) upd_same
    | free seen =>
      obtain ⟨a, t, rfl, ha, ht⟩ := hv
      refine ⟨.ref a, rfl, a, _, 0, _, rfl, rfl, .inl (.inl ha), rfl, ?_⟩
      refine ⟨_, rfl, rfl, _, rfl, iteN (by decide +kernel) ?_⟩
      refine ⟨_, rfl, by show 2 ≤ sizeLine; decide, fun u hu => ⟨u, _, rfl, .inr (.inl (.inl upd_same)), rfl, rfl, _, rfl, iteN (by decide +kernel) ?_⟩⟩
      have s1 := same_upd (o := .tup [.str "sum", .str "cap"]) hu
      refine ⟨_, rfl, rfl, _, rfl, iteN (by decide +kernel) ?_⟩
      refine ⟨.ref a, rfl, a, _, 1, _, rfl, rfl, .inl (.inl (s1 _ _ ha)), rfl, t, _, rfl, .inr (TupAt.keep (Keep.same s1) ht).sq, fun p np => ?_⟩
      exact q p _ (s1.trans (same_upd np)) (s1.free np) upd_same
end
end Lh

namespace Lh
open PySem PySem.Spec PyProof.Rows L2
/-- a lot in the heap, a list of pairs or a tuple of them -/
def LotAt (H : Hp) (v : V) (lot : List (Int × Int)) : Prop := ∃ (a : Addr) (ps : List Addr), v = .ref a ∧ (H a = some (.lst (ps.map V.ref)) ∨ TupAt H a (ps.map V.ref)) ∧ Paired (PairAtH H) ps lot ∧ ps.length ≤ 1000
theorem LotAt.same {H H' : Hp} {v : V} {lot : List (Int × Int)} (s : Same H H') (h : LotAt H v lot) : LotAt H' v lot := by
  obtain ⟨a, ps, e, h1, h2, h3⟩ := h
  refine ⟨a, ps, e, ?_, pairs_keep (Keep.same s) h2, h3⟩
  rcases h1 with h1 | h1
  · exact .inl (s _ _ h1)
  · exact .inr (h1.keep (Keep.same s))
theorem pairs_sq {K : PySem.W.Frag} {H : Hp} : ∀ {ps : List Addr} {ties : List (Int × Int)}, Paired (PairAtH H) ps ties → Paired (fun p kv => SqT K H p [kV kv.1, kv.2]) ps (kvOf ties)
  | _, _, .nil => .nil
  | _, _, .cons h r => .cons (.inl (.inl h)) (pairs_sq r)
theorem merge_kv {ties : List (Int × Int)} (h : (ties.map (·.1)).Nodup) : mergeK [] (kvOf ties) = kvOf ties := by
  rw [merge_new (kvOf ties) [] (by rw [List.nil_append]; exact kv_nodup h), List.nil_append]
section
variable {P : Program} {w : World} {K : PySem.W.Frag} {mg : Str → Option Value} {base : Heap}
theorem in_ints (x : Int) (ns : List Int) : inV (.int x) (ns.map V.int) = decide (x ∈ ns) := by
  unfold inV
  rw [List.any_map]
  rw [Bool.eq_iff_iff, List.any_eq_true, decide_eq_true_iff]
  constructor
  · rintro ⟨y, hy, e⟩
    have e' : (y == x) = true := e
    rw [← eq_of_beq e']; exact hy
  · intro h
    exact ⟨x, h, (beq_self_eq_true x : (x == x) = true)⟩
theorem flat_ints (ns : List Int) : (ns.map V.int).all flatV = true := by
  rw [List.all_map, List.all_eq_true]
  intro _ _; rfl
end
end Lh

namespace Lh
open PySem PySem.Spec PyProof.Rows L2
def seenPairs : Rule → List (Int × Int)
  | .held _ => []
  | .sum _ ties => ties
  | .cap _ ties _ => ties
  | .kinds _ seen => seen.map fun n => (n, 1)
  | .next seen => seen.map fun n => (n, 1)
  | .free seen => seen.map fun n => (n, 1)
theorem seen_persons : ∀ r : Rule, (seenPairs r).map (·.1) = r.persons
  | .held _ => rfl
  | .sum _ _ => rfl
  | .cap _ _ _ => rfl
  | .kinds _ s => by show (s.map fun n => (n, (1 : Int))).map (·.1) = s; rw [List.map_map]; exact List.map_id s
  | .next s => by show (s.map fun n => (n, (1 : Int))).map (·.1) = s; rw [List.map_map]; exact List.map_id s
  | .free s => by show (s.map fun n => (n, (1 : Int))).map (·.1) = s; rw [List.map_map]; exact List.map_id s
section
variable {P : Program} {w : World} {K : PySem.W.Frag} {mg : Str → Option Value} {base : Heap}
/-- [(one, 1) for one in seen] -/
theorem lc_ones {K : PySem.W.Frag} {t : Addr} {seen : List Int} {H1 : Hp} {D : Addr} {σ : L2.St} {vs : List Nat} {Qd : Hp → Prop} {i : Nat} (ht : SeenAt H1 t seen) (hD : H1 D = none) (hl : seen.length ≤ 1000)
    (hw : ∀ a, wipe ((wipe σ vs).set i a) vs = wipe σ vs) (hi : ∀ a : V, ((wipe σ vs).set i (some a))[i]? = some (some a))
    (hq : ∀ H' ps, Same H1 H' → H' D = some (.lst (ps.map V.ref)) → Paired (PairAtH H') ps (seen.map fun n => (n, 1)) → Qd H') :
    ∃ W : Nat → Nat → Hp → Prop, (∃ m, W 0 m (upd H1 D (.lst []))) ∧ ∀ i1 m H, W i1 m H →
      ((Itt K t).stop i1 H ∧ Qd H) ∨ ((Itt K t).go i1 H ∧ ∃ Nx : Hp → Prop, (∀ H', Nx H' → ∃ m', m' < m ∧ W (i1 + 1) m' H') ∧ ∀ x H', (Itt K t).yld i1 H x H' → gName i x (wipe σ vs) H' fun σ2 H2 => wipe σ2 vs = wipe σ vs ∧ tYes σ2 H2 fun b H3 =>
        if b = true then tTup (tCons (tVar i) (tCons (tC (.int 1)) tNil)) σ2 H3 fun y H4 => ∃ acc, H4 D = some (.lst acc) ∧ acc.length < sizeLine ∧ Nx (upd H4 D (.lst (acc ++ [y]))) else Nx H3) := by
  refine lc_it (walk_tup (xs := seen.map V.int)) (fun n H3 => ∃ ps : List Addr, Same H1 H3 ∧ H3 D = some (.lst (ps.map V.ref)) ∧ Paired (PairAtH H3) ps ((seen.take n).map fun n => (n, 1))) ⟨[], same_upd hD, upd_same, .nil⟩ ?_ ?_ ?_
  · rintro n H3 _ ⟨ps, sm, _⟩
    exact (TupAt.keep (Keep.same sm) ht).sq
  · rintro n x H3 H4 hn ⟨ps, sm, h3, pr⟩ ⟨rfl, hx⟩
    rw [List.length_map] at hn
    rw [List.getElem?_map, List.getElem?_eq_getElem hn] at hx
    have ex : x = .int seen[n] := (Option.some.inj hx).symm
    subst ex
    have pl : ps.length = n := by rw [pr.length, List.length_map, List.length_take]; omega
    refine ⟨hw _, yes (iteT ⟨.int seen[n], hi _, by show 2 ≤ sizeLine; decide, fun p np => ?_⟩)⟩
    have nDp : D ≠ p := ne_of_none h3 np
    refine ⟨_, by rw [upd_ne nDp]; exact h3, by rw [List.length_map]; exact small1000 (by omega), ps ++ [p], ?_, ?_, ?_⟩
    · exact same_mut (sm.trans (same_upd np)) hD
    · rw [upd_same, List.map_append]; rfl
    · rw [List.take_add_one, List.getElem?_eq_getElem hn, List.map_append]
      have kT : Keep H4 (upd (upd H4 p (.tup [.int seen[n], .int 1])) D (.lst (ps.map V.ref ++ [.ref p]))) := by
        refine ⟨fun a xs h => ?_, fun a o u h => ?_⟩
        · rw [upd_ne (ne_of h h3 (by intro z; cases z)), upd_ne (ne_of_none h np)]; exact h
        · rw [upd_ne (ne_of h h3 (by intro z; cases z)), upd_ne (ne_of_none h np)]; exact h
      refine Paired.snoc ?_ (pairs_keep kT pr)
      show upd (upd H4 p _) D _ p = _
      rw [upd_ne nDp.symm, upd_same]
  · rintro H3 ⟨ps, sm, h3, pr⟩
    rw [List.length_map, List.take_length] at pr
    exact hq H3 ps sm h3 pr
def wordOf : Rule → Str
  | .held _ => "held"
  | .sum _ _ => "sum"
  | .cap _ _ _ => "cap"
  | .kinds _ _ => "kinds"
  | .next _ => "next"
  | .free _ => "free"
theorem RuleAt.word {H : Hp} {v : V} : ∀ {r : Rule}, RuleAt H v r → ∃ a xs, v = .ref a ∧ H a = some (.tup (.str (wordOf r) :: xs))
  | .held _, ⟨a, e, h⟩ => ⟨a, _, e, h⟩
  | .sum _ _, ⟨a, t, e, h, _⟩ => ⟨a, _, e, h⟩
  | .cap _ _ _, ⟨a, t, e, h, _⟩ => ⟨a, _, e, h⟩
  | .kinds _ _, ⟨a, t, e, h, _⟩ => ⟨a, _, e, h⟩
  | .next _, ⟨a, t, e, h, _⟩ => ⟨a, _, e, h⟩
  | .free _, ⟨a, t, e, h, _⟩ => ⟨a, _, e, h⟩
theorem last_max : ∀ (ms : List Int) (h : ms ≠ []), ms.Pairwise (· < ·) → ∀ y ∈ ms, y ≤ ms.getLast h
  | [], h, _, _, _ => absurd rfl h
  | [m], _, _, y, hy => by rw [List.mem_singleton.mp hy]; exact Int.le_refl _
  | m :: n :: r, _, pw, y, hy => by
    rw [List.getLast_cons (List.cons_ne_nil n r)]
    have p2 := List.pairwise_cons.mp pw
    rcases List.mem_cons.mp hy with e | e
    · have h1 := p2.1 _ (List.getLast_mem (List.cons_ne_nil n r))
      rw [e]; omega
    · exact last_max (n :: r) (List.cons_ne_nil n r) p2.2 y e
theorem canLay_ints : ∀ ns : List Int, PyData.canLayAll0 (ns.map PyData.int) = true
  | [] => rfl
  | n :: r => by rw [List.map_cons]; show (PyData.canLay0 (.int n) && PyData.canLayAll0 (r.map PyData.int)) = true; rw [canLay_ints r]; rfl
theorem depth_ints : ∀ ns : List Int, PyData.depthAll (ns.map PyData.int) = 0
  | [] => rfl
  | n :: r => by rw [List.map_cons]; show max 0 (PyData.depthAll (r.map PyData.int)) = 0; rw [depth_ints r]; rfl
theorem shaped_ints (ns : List Int) : SeqAt.shaped (.list (ns.map PyData.int)) = true := by
  show (PyData.canLayAll0 (ns.map PyData.int) && decide (PyData.depthAll (ns.map PyData.int) + 1 ≤ 64)) = true
  rw [canLay_ints, depth_ints]
  rfl
/-- [e for n in numbers] -/
theorem lc_ints {K : PySem.W.Frag} {t : Addr} {ns : List Int} {H1 : Hp} {D : Addr} {σ : L2.St} {vs : List Nat} {te : TE} {Qd : Hp → Prop} {i : Nat} (f : Int → Int) (ht : H1 t = some (.lst (ns.map V.int))) (hD : H1 D = none) (hl : ns.length ≤ 1000)
    (hw : ∀ a, wipe ((wipe σ vs).set i a) vs = wipe σ vs)
    (he : ∀ n ∈ ns, ∀ H3, Same H1 H3 → ∀ Q : VK, Q (.int (f n)) H3 → te ((wipe σ vs).set i (some (.int n))) H3 Q)
    (hq : ∀ H', Same H1 H' → H' D = some (.lst ((ns.map f).map V.int)) → Qd H') :
    ∃ W : Nat → Nat → Hp → Prop, (∃ m, W 0 m (upd H1 D (.lst []))) ∧ ∀ i1 m H, W i1 m H →
      ((Itl K t).stop i1 H ∧ Qd H) ∨ ((Itl K t).go i1 H ∧ ∃ Nx : Hp → Prop, (∀ H', Nx H' → ∃ m', m' < m ∧ W (i1 + 1) m' H') ∧ ∀ x H', (Itl K t).yld i1 H x H' → gName i x (wipe σ vs) H' fun σ2 H2 => wipe σ2 vs = wipe σ vs ∧ tYes σ2 H2 fun b H3 =>
        if b = true then te σ2 H3 fun y H4 => ∃ acc, H4 D = some (.lst acc) ∧ acc.length < sizeLine ∧ Nx (upd H4 D (.lst (acc ++ [y]))) else Nx H3) := by
  refine lc_it (walk_list (xs := ns.map V.int)) (fun n H3 => Same H1 H3 ∧ H3 D = some (.lst (((ns.take n).map f).map V.int))) ⟨same_upd hD, upd_same⟩ ?_ ?_ ?_
  · rintro n H3 _ ⟨sm, _⟩
    exact .inl (.inl (sm _ _ ht))
  · rintro n x H3 H4 hn ⟨sm, h3⟩ ⟨rfl, hx⟩
    rw [List.length_map] at hn
    rw [List.getElem?_map, List.getElem?_eq_getElem hn] at hx
    have ex : x = .int ns[n] := (Option.some.inj hx).symm
    subst ex
    refine ⟨hw _, yes (iteT (he ns[n] (List.getElem_mem hn) _ sm _ ⟨_, h3, ?_, same_mut sm hD, ?_⟩))⟩
    · rw [List.length_map, List.length_map, List.length_take]; exact small1000 (by omega)
    · rw [upd_same, List.take_add_one, List.getElem?_eq_getElem hn, List.map_append, List.map_append]; rfl
  · rintro H3 ⟨sm, h3⟩
    rw [List.length_map, List.take_length] at h3
    exact hq H3 sm h3
end
end Lh

namespace Lh
open PySem PySem.Spec PyProof.Rows L2
theorem walk_zipM {K : PySem.W.Frag} {a b : Addr} {xs ys : List V} {n : Nat} (hn : n = min xs.length ys.length) : Walk (RZ.ItzT K a b) n (fun H => SqT K H a xs ∧ SqT K H b ys) (YPair (fun i => xs[i]?) (fun i => ys[i]?)) := by
  refine ⟨fun i _ hi q => ⟨xs, ys, xs[i]'(by omega), ys[i]'(by omega), q.1, q.2, List.getElem?_eq_getElem (by omega), List.getElem?_eq_getElem (by omega)⟩, fun _ q => ⟨xs, ys, q.1, q.2, by omega⟩, ?_⟩
  rintro i H v H' _ q ⟨T, x, z, h1, h2, h3, h4, h5⟩
  exact ⟨T, x, z, h1, h2, h3, h4 xs q.1, h5 ys q.2⟩
/-- a comprehension whose items are all True -/
theorem lc_true {J : It} {n : Nat} {G : Hp → Prop} {Y : Nat → Hp → V → Hp → Prop} (wk : Walk J n G Y) {g : TG} {te : TE} {vs : List Nat} {σ : L2.St} {H1 : Hp} {D : Addr} {Qd : Hp → Prop} (hD : H1 D = none) (hn : n ≤ 1000) (hG : ∀ H3, Same H1 H3 → G H3)
    (hs : ∀ i x H3 H4, i < n → Same H1 H3 → Y i H3 x H4 → ∀ (Q : VK) (Z : Hp → Prop), (∀ H5, Same H3 H5 → Q (.bl true) H5) → g x (wipe σ vs) H4 fun σ2 H2 => wipe σ2 vs = wipe σ vs ∧ tYes σ2 H2 fun b H3 => if b = true then te σ2 H3 Q else Z H3)
    (hq : ∀ H', Same H1 H' → H' D = some (.lst ((List.replicate n true).map V.bl)) → Qd H') :
    ∃ W : Nat → Nat → Hp → Prop, (∃ m, W 0 m (upd H1 D (.lst []))) ∧ ∀ i m H, W i m H →
      (J.stop i H ∧ Qd H) ∨ (J.go i H ∧ ∃ Nx : Hp → Prop, (∀ H', Nx H' → ∃ m', m' < m ∧ W (i + 1) m' H') ∧ ∀ x H', J.yld i H x H' → g x (wipe σ vs) H' fun σ2 H2 => wipe σ2 vs = wipe σ vs ∧ tYes σ2 H2 fun b H3 =>
        if b = true then te σ2 H3 fun y H4 => ∃ acc, H4 D = some (.lst acc) ∧ acc.length < sizeLine ∧ Nx (upd H4 D (.lst (acc ++ [y]))) else Nx H3) := by
  refine lc_it wk (fun i H3 => Same H1 H3 ∧ H3 D = some (.lst ((List.replicate i true).map V.bl))) ⟨same_upd hD, upd_same⟩ (fun i H3 _ h => hG H3 h.1) ?_ (fun H3 h => hq H3 h.1 h.2)
  rintro i x H3 H4 hi ⟨sm, h3⟩ hy
  refine hs i x H3 H4 hi sm hy _ _ (fun H5 s5 => ⟨_, s5 _ _ h3, ?_, same_mut (sm.trans s5) hD, ?_⟩)
  · rw [List.length_map, List.length_replicate]; exact small1000 (by omega)
  · rw [upd_same, List.replicate_succ', List.map_append]; rfl
theorem rep_all (n : Nat) : ((List.replicate n true).all id) = true := by
  rw [List.all_eq_true]
  intro z hz
  rw [List.eq_of_mem_replicate hz]
  rfl
theorem all_true {K : PySem.W.Frag} {D : Addr} {n : Nat} {H : Hp} {Q : VK} (h : H D = some (.lst ((List.replicate n true).map V.bl))) (q : Q (.bl true) H) : rAll K [.ref D] H Q := by
  refine ⟨D, _, rfl, .inl (.inl h), blT ?_ q⟩
  rw [List.all_eq_true]
  intro z hz
  rw [List.eq_of_mem_replicate hz]
  rfl
theorem cut1 {α : Type} (xs : List α) : cutI xs (some 1) none = xs.drop 1 := by
  unfold cutI
  rw [show HT.sIx xs.length 0 (some 1) = min 1 xs.length from HT.sIx_nat xs.length 0 1, HT.sIx_none]
  cases xs with
  | nil => rfl
  | cons x r =>
    rw [show min 1 (x :: r).length = 1 by rw [List.length_cons]; omega]
    show List.take ((x :: r).length - 1) r = r
    rw [List.length_cons, Nat.add_sub_cancel, List.take_length]
section
variable {P : Program} {w : World} {K : PySem.W.Frag} {mg : Str → Option Value} {base : Heap}
def spIsNumber : Sp := fun vs H Q _ => ∃ i : Int, vs = [.int i] ∧ 0 ≤ i ∧ Q (.bl true) H
theorem ok_is_number (T : Txt K mg w) : FnOk P w K mg base CX0 1 T.f_is_number T.fd_is_number p_is_number spIsNumber := by
  refine T.F_is_number.ok sc_is_number (fun vs H Q E h => ?_) (fun cdv A outer s H vs Q E hr h => ?_)
  · obtain ⟨i, rfl, _⟩ := h
    rfl
  · obtain ⟨i, rfl, i0, q⟩ := h
    refine ⟨_, (pss_one (ps_ret (pe_and (pe_callB call_isi (by rfl) T.m_isinstance (by decide +kernel) (pa_cons (pv 0) (pa_cons (pe_bltn (v := .ty "int") (by rfl) T.m_int (by decide +kernel) rfl) pa_nil))) (pe_and (pe_not (pe_callB call_isi (by rfl) T.m_isinstance (by decide +kernel) (pa_cons (pv 0) (pa_cons (pe_bltn (v := .ty "bool") (by rfl) T.m_bool (by decide +kernel) rfl) pa_nil)))) (pe_one (pe_cmpR op_ge (pv 0) pe_int (nomark _))))))), ?_⟩
    refine rd_isi (x := .int i) (T := "int") rfl (.base (.int i)) (by decide +kernel : kitB "int" "int" = some true) ⟨_, rfl, iteP rfl ?_⟩
    refine rd_isi (x := .int i) (T := "int") rfl (.base (.int i)) (by decide +kernel : kitB "int" "bool" = some false) ⟨_, rfl, _, rfl, iteP rfl ?_⟩
    exact ⟨.int i, rfl, i, 0, rfl, rfl, blT (decide_eq_true i0) q⟩
def spIsPerson : Sp := fun vs H Q _ => ∃ m i : Int, vs = [.int m, .int i] ∧ 0 ≤ i ∧ i < m ∧ Q (.bl true) H
theorem ok_is_person (T : Txt K mg w) : FnOk P w K mg base CX0 2 T.f_is_person T.fd_is_person p_is_person spIsPerson := by
  have G_is_number := ok_is_number (P := P) (w := w) (base := base) T
  refine T.F_is_person.ok sc_is_person (fun vs H Q E h => ?_) (fun cdv A outer s H vs Q E hr h => ?_)
  · obtain ⟨m, i, rfl, _⟩ := h
    rfl
  · obtain ⟨m, i, rfl, i0, i1, q⟩ := h
    refine ⟨_, (pss_one (ps_ret (pe_and (pe_call G_is_number (hr.mono (by decide)) (by rfl) T.g_is_number T.F_is_number.kp T.b_is_number .nil pass0 (pa_cons (pv 1) pa_nil)) (pe_one (pe_cmpR op_lt (pv 1) (pv 0) (nomark _)))))), ?_⟩
    exact ⟨.int i, rfl, i, rfl, i0, _, rfl, iteP rfl ⟨.int i, rfl, .int m, rfl, i, m, rfl, rfl, blT (decide_eq_true i1) q⟩⟩
theorem rise_at {ns : List Int} (pw : ns.Pairwise (· < ·)) {i : Nat} {x y : Int} (hx : ns[i]? = some x) (hy : (ns.drop 1)[i]? = some y) : x < y := by
  rw [List.getElem?_drop] at hy
  obtain ⟨h1, e1⟩ := List.getElem?_eq_some_iff.mp hx
  obtain ⟨h2, e2⟩ := List.getElem?_eq_some_iff.mp hy
  rw [← e1, ← e2]
  exact List.pairwise_iff_getElem.mp pw i (1 + i) h1 h2 (by omega)
def spRises (K : PySem.W.Frag) : Sp := fun vs H Q _ => ∃ (a : Addr) (ns : List Int), vs = [.ref a] ∧ (SqL K H a (ns.map V.int) ∨ TupAt H a (ns.map V.int)) ∧ ns.Pairwise (· < ·) ∧ ns.length ≤ 1000 ∧ ∀ H', Same H H' → Q (.bl true) H'
theorem ok_rises (T : Txt K mg w) : FnOk P w K mg base CX0 1 T.f_rises T.fd_rises p_rises (spRises K) := by
  refine T.F_rises.ok sc_rises (fun vs H Q E h => ?_) (fun cdv A outer s H vs Q E hr h => ?_)
  · obtain ⟨a, ns, rfl, _⟩ := h
    rfl
  · obtain ⟨a, ns, rfl, hS, pw, hl, q⟩ := h
    have turn : ∀ (i : Nat) (x1 x2 : V), (ns.map V.int)[i]? = some x1 → ((ns.drop 1).map V.int)[i]? = some x2 → ∃ x y : Int, x1 = .int x ∧ x2 = .int y ∧ x < y := fun i x1 x2 e1 e2 => by
      rw [List.getElem?_map] at e1 e2
      cases h1 : ns[i]? with
      | none => rw [h1] at e1; cases e1
      | some x =>
        cases h2 : (ns.drop 1)[i]? with
        | none => rw [h2] at e2; cases e2
        | some y =>
          rw [h1] at e1
          rw [h2] at e2
          exact ⟨x, y, (Option.some.inj e1).symm, (Option.some.inj e2).symm, rise_at pw h1 h2⟩
    rcases hS with hS | hS
    · refine ⟨_, (pss_one (ps_ret (pe_callB (cr_all rfl) (by rfl) T.m_all (by decide +kernel) (pa_cons (pe_lc (own := [("one", 1), ("other", 2)]) (g := gTup K 2 (gCons (gName 1) (gCons (gName 2) gNil))) (by rfl) sc_rises.nd (RZ.pi_zipA (by rfl) T.m_zip (pa_cons (pv 0) (pa_cons (pe_slice sl_list (pv 0) (po_some pe_int) po_none) pa_nil))) (blkOk_by (own := [("one", 1), ("other", 2)]) (N := n_rises) (sc := defScope s_rises) (by decide +kernel)) (fun _ _ _ _ _ => (pg_tup rfl (pgs_cons (pg_name (i := 1) sc_rises.nd rfl (.inl rfl) (.inr rfl)) (pgs_cons (pg_name (i := 2) sc_rises.nd rfl (.inl rfl) (.inr rfl)) pgs_nil)))) (fun _ _ _ _ _ => pts_nil) (fun _ _ _ _ _ => (pe_cmpR op_lt (pv 1) (pv 2) (nomark _)))) pa_nil)))), ?_⟩
      refine ⟨.ref a, rfl, .ref a, rfl, 1, rfl, a, _, rfl, hS, fun c nc => ?_⟩
      have s1 := same_upd (o := .lst (cutV (ns.map V.int) (some 1) none)) nc
      refine ⟨a, c, _, _, rfl, .inl ⟨s1.seq hS, .inl (.inl upd_same), fun D hD => ?_⟩⟩
      rw [cut_map V.int, cut1] at s1 hD ⊢
      refine lc_true (walk_zip (xs := ns.map V.int) (ys := (ns.drop 1).map V.int) (n := ns.length - 1) (by rw [List.length_map, List.length_map, List.length_drop]; omega)) hD (by omega) (fun H3 s3 => ⟨s3.seq (s1.seq hS), .inl (.inl (s3 _ _ upd_same))⟩) ?_ (fun H3 s3 h3 => all_true h3 (q _ (s1.trans s3)))
      rintro i x H3 H4 hi s3 ⟨t, x1, x2, rfl, nt, rfl, e1, e2⟩ Q' Z hQ
      obtain ⟨x, y, rfl, rfl, lt⟩ := turn i x1 x2 e1 e2
      exact ⟨t, _, rfl, .inl (.inl upd_same), rfl, _, _, rfl, _, _, rfl, rfl, rfl, yes (iteT ⟨.int x, rfl, .int y, rfl, x, y, rfl, rfl, blT (decide_eq_true lt) (hQ _ (same_upd nt))⟩)⟩
    · refine ⟨_, (pss_one (ps_ret (pe_callB (cr_all rfl) (by rfl) T.m_all (by decide +kernel) (pa_cons (pe_lc (own := [("one", 1), ("other", 2)]) (g := gTup K 2 (gCons (gName 1) (gCons (gName 2) gNil))) (by rfl) sc_rises.nd (RZ.pi_zipA (by rfl) T.m_zip (pa_cons (pv 0) (pa_cons (pe_slice sl_tupA (pv 0) (po_some pe_int) po_none) pa_nil))) (blkOk_by (own := [("one", 1), ("other", 2)]) (N := n_rises) (sc := defScope s_rises) (by decide +kernel)) (fun _ _ _ _ _ => (pg_tup rfl (pgs_cons (pg_name (i := 1) sc_rises.nd rfl (.inl rfl) (.inr rfl)) (pgs_cons (pg_name (i := 2) sc_rises.nd rfl (.inl rfl) (.inr rfl)) pgs_nil)))) (fun _ _ _ _ _ => pts_nil) (fun _ _ _ _ _ => (pe_cmpR op_lt (pv 1) (pv 2) (nomark _)))) pa_nil)))), ?_⟩
      refine ⟨.ref a, rfl, .ref a, rfl, 1, rfl, a, _, rfl, hS.sq, fun wh => ?_, fun _ c nc => ?_⟩
      · have hn : ns = [] := by
          cases ns with
          | nil => rfl
          | cons x r =>
            have := wh.1
            rw [show HT.sIx ((x :: r).map V.int).length 0 (some 1) = min 1 ((x :: r).map V.int).length from HT.sIx_nat _ 0 1, List.length_map, List.length_cons] at this
            omega
        subst hn
        refine ⟨a, a, [], [], rfl, .inr ⟨hS.sq, hS.sq, fun D hD => ?_⟩⟩
        refine lc_true (walk_zipT (xs := []) (ys := []) (n := 0) rfl rfl) hD (by omega) (fun H3 s3 => ⟨(hS.keep (Keep.same s3)).sq, (hS.keep (Keep.same s3)).sq⟩) ?_ (fun H3 s3 h3 => all_true h3 (q _ s3))
        intro i x H3 H4 hi
        omega
      · have s1 := same_upd (o := .tup (cutV (ns.map V.int) (some 1) none)) nc
        have hA := hS.keep (Keep.same s1)
        refine ⟨a, c, _, _, rfl, .inr ⟨hA.sq, .inl (.inl upd_same), fun D hD => ?_⟩⟩
        rw [cut_map V.int, cut1] at s1 hD hA ⊢
        refine lc_true (walk_zipM (K := K) (a := a) (b := c) (xs := ns.map V.int) (ys := (ns.drop 1).map V.int) (n := ns.length - 1) (by rw [List.length_map, List.length_map, List.length_drop]; omega)) hD (by omega) (fun H3 s3 => ⟨(hA.keep (Keep.same s3)).sq, .inl (.inl (s3 _ _ upd_same))⟩) ?_ (fun H3 s3 h3 => all_true h3 (q _ (s1.trans s3)))
        rintro i x H3 H4 hi s3 ⟨t, x1, x2, rfl, nt, rfl, e1, e2⟩ Q' Z hQ
        obtain ⟨x, y, rfl, rfl, lt⟩ := turn i x1 x2 e1 e2
        exact ⟨t, _, rfl, .inl (.inl upd_same), rfl, _, _, rfl, _, _, rfl, rfl, rfl, yes (iteT ⟨.int x, rfl, .int y, rfl, x, y, rfl, rfl, blT (decide_eq_true lt) (hQ _ (same_upd nt))⟩)⟩
def spIsTie : Sp := fun vs H Q _ => ∃ (m : Int) (a : Addr) (q : Int × Int), vs = [.int m, .ref a] ∧ PairAtH H a q ∧ 0 ≤ q.1 ∧ q.1 < m ∧ 1 ≤ q.2 ∧ Q (.bl true) H
theorem ok_is_tie (T : Txt K mg w) : FnOk P w K mg base CX0 3 T.f_is_tie T.fd_is_tie p_is_tie spIsTie := by
  have G_is_number := ok_is_number (P := P) (w := w) (base := base) T
  have G_is_person := ok_is_person (P := P) (w := w) (base := base) T
  refine T.F_is_tie.ok sc_is_tie (fun vs H Q E h => ?_) (fun cdv A outer s H vs Q E hr h => ?_)
  · obtain ⟨m, a, q, rfl, _⟩ := h
    rfl
  · obtain ⟨m, a, ⟨p, wt⟩, rfl, ha, p0, p1, w1, q⟩ := h
    have ha' : H a = some (.tup [.int p, .int wt]) := ha
    refine ⟨_, (pss_cons (ps_if (PW.pt (pw_or (pt_not (pt_val (pe_callB call_isi (by rfl) T.m_isinstance (by decide +kernel) (pa_cons (pv 1) (pa_cons (pe_bltn (v := .ty "tuple") (by rfl) T.m_tuple (by decide +kernel) rfl) pa_nil))))) (pw_or1 (pt_cmpR op_ne (pe_callB call_len_seq (by rfl) T.m_len (by decide +kernel) (pa_cons (pv 1) pa_nil)) pe_int (nomark _)))))
        (pss_one (ps_ret pe_bl))
        pss_nil)
      (pss_one (ps_ret (pe_and (pe_call G_is_person (hr.mono (by decide)) (by rfl) T.g_is_person T.F_is_person.kp T.b_is_person .nil pass0 (pa_cons (pv 0) (pa_cons (pe_ix ix_tup (pv 1) pe_int (fun _ _ => rfl)) pa_nil))) (pe_and (pe_call G_is_number (hr.mono (by decide)) (by rfl) T.g_is_number T.F_is_number.kp T.b_is_number .nil pass0 (pa_cons (pe_ix ix_tup (pv 1) pe_int (fun _ _ => rfl)) pa_nil)) (pe_one (pe_cmpR op_ge (pe_ix ix_tup (pv 1) pe_int (fun _ _ => rfl)) pe_int (nomark _)))))))), ?_⟩
    refine rd_isi (x := .ref a) (T := "tuple") rfl (.base (.tup ha')) (by decide +kernel : kitB "tuple" "tuple" = some true) ⟨_, rfl, iteN rfl ?_⟩
    refine ⟨.ref a, rfl, a, _, rfl, .inr (.inl (.inl ha')), rfl, _, rfl, iteN (by show (!decide (V.int 2 = V.int 2)) = false; decide) ?_⟩
    refine ⟨.int m, rfl, .ref a, rfl, a, _, 0, _, rfl, rfl, .inl (.inl ha'), rfl, m, p, rfl, p0, p1, _, rfl, iteP rfl ?_⟩
    refine ⟨.ref a, rfl, a, _, 1, _, rfl, rfl, .inl (.inl ha'), rfl, wt, rfl, by have w1' : 1 ≤ wt := w1; omega, _, rfl, iteP rfl ?_⟩
    exact ⟨.ref a, rfl, a, _, 1, _, rfl, rfl, .inl (.inl ha'), rfl, wt, 1, rfl, rfl, blT (decide_eq_true w1) q⟩
def spAreTies : Sp := fun vs H Q _ => ∃ (m : Int) (t : Addr) (ties : List (Int × Int)), vs = [.int m, .ref t] ∧ TiesAt H t ties ∧ Rising m (ties.map (·.1)) ∧ (∀ q ∈ ties, 1 ≤ q.2) ∧ ties.length ≤ 1000 ∧ ∀ H', Same H H' → Q (.bl true) H'
theorem pair_get {H : Hp} : ∀ {ps : List Addr} {lot : List (Int × Int)}, Paired (PairAtH H) ps lot → ∀ (n : Nat) (p : Addr), ps[n]? = some p → ∃ q, q ∈ lot ∧ PairAtH H p q
  | _, _, .nil, n, p, e => by simp at e
  | _, _, .cons r t, 0, p, e => ⟨_, List.mem_cons_self, by cases e; exact r⟩
  | _, _, .cons r t, n + 1, p, e => by
    obtain ⟨q, h1, h2⟩ := pair_get t n p (by simpa using e)
    exact ⟨q, List.mem_cons_of_mem _ h1, h2⟩
theorem ok_are_ties (T : Txt K mg w) : FnOk P w K mg base CX0 4 T.f_are_ties T.fd_are_ties p_are_ties spAreTies := by
  have G_is_tie := ok_is_tie (P := P) (w := w) (base := base) T
  have G_rises := ok_rises (P := P) (w := w) (base := base) T
  refine T.F_are_ties.ok sc_are_ties (fun vs H Q E h => ?_) (fun cdv A outer s H vs Q E hr h => ?_)
  · obtain ⟨m, t, ties, rfl, _⟩ := h
    rfl
  · obtain ⟨m, t, ties, rfl, ⟨o, ps, od, ht, pr⟩, rs, w1, hl, q⟩ := h
    have el : ps.length = ties.length := pr.length
    have hT : TupAt H t (ps.map V.ref) := .inr ⟨o, od, ht⟩
    refine ⟨_, (pss_cons (ps_if (PW.pt (pw_or (pt_not (pt_val (pe_callB call_isi (by rfl) T.m_isinstance (by decide +kernel) (pa_cons (pv 1) (pa_cons (pe_bltn (v := .ty "tuple") (by rfl) T.m_tuple (by decide +kernel) rfl) pa_nil))))) (pw_or1 (pt_not (pt_val (pe_callB (cr_all rfl) (by rfl) T.m_all (by decide +kernel) (pa_cons (pe_lc (own := [("one", 2)]) (g := gName 2) (by rfl) sc_are_ties.nd (pi_tup (pv 1)) (blkOk_by (own := [("one", 2)]) (N := n_are_ties) (sc := defScope s_are_ties) (by decide +kernel)) (fun _ _ _ _ _ => (pg_name (i := 2) sc_are_ties.nd rfl (.inl rfl) (.inr rfl))) (fun _ _ _ _ _ => pts_nil) (fun _ _ _ _ _ => (pe_call G_is_tie (hr.mono (by decide)) (by rfl) T.g_is_tie T.F_is_tie.kp T.b_is_tie .nil pass0 (pa_cons (pv 0) (pa_cons (pv 2) pa_nil))))) pa_nil)))))))
        (pss_one (ps_ret pe_bl))
        pss_nil)
      (pss_one (ps_ret (pe_call G_rises (hr.mono (by decide)) (by rfl) T.g_rises T.F_rises.kp T.b_rises .nil pass0 (pa_cons (pe_lc (own := [("person", 3), ("weight", 4)]) (g := gTup K 2 (gCons (gName 3) (gCons (gName 4) gNil))) (by rfl) sc_are_ties.nd (pi_tup (pv 1)) (blkOk_by (own := [("person", 3), ("weight", 4)]) (N := n_are_ties) (sc := defScope s_are_ties) (by decide +kernel)) (fun _ _ _ _ _ => (pg_tup rfl (pgs_cons (pg_name (i := 3) sc_are_ties.nd rfl (.inl rfl) (.inr rfl)) (pgs_cons (pg_name (i := 4) sc_are_ties.nd rfl (.inl rfl) (.inr rfl)) pgs_nil)))) (fun _ _ _ _ _ => pts_nil) (fun _ _ _ _ _ => (pv 3))) pa_nil))))), ?_⟩
    refine rd_isi (x := .ref t) (T := "tuple") rfl hT.ty (by decide +kernel : kitB "tuple" "tuple" = some true) ⟨_, rfl, iteN rfl ?_⟩
    refine ⟨.ref t, rfl, t, rfl, ⟨_, hT.sq⟩, fun D hD => ?_⟩
    refine lc_true (walk_tupR ps) hD (by omega) (fun H3 s3 => (hT.keep (Keep.same s3)).sq) ?_ (fun H3 s3 h3 => ⟨D, _, rfl, .inl (.inl h3), _, rfl, iteN (by rw [rep_all]; rfl) ?_⟩)
    · rintro i x H3 H4 hi s3 ⟨rfl, hx⟩ Q' Z hQ
      rw [List.getElem?_map] at hx
      cases hp : ps[i]? with
      | none => rw [hp] at hx; cases hx
      | some p =>
        rw [hp] at hx
        cases hx
        obtain ⟨q0, hq0, ha⟩ := pair_get pr i p hp
        have r0 := rs.2 _ (List.mem_map_of_mem (f := (·.1)) hq0)
        exact ⟨rfl, yes (iteT ⟨.int m, rfl, .ref p, rfl, m, p, q0, rfl, s3 _ _ ha, r0.1, r0.2, w1 q0 hq0, hQ _ (Same.refl _)⟩)⟩
    have hT3 := hT.keep (Keep.same s3)
    refine ⟨.ref t, rfl, t, rfl, ⟨_, hT3.sq⟩, fun D2 hD2 => ?_⟩
    refine lc_pairs (·.1) (walk_tupR ps) (pairs_keep (Keep.same s3) pr) hD2 (by omega) (fun H4 s4 => (hT3.keep (Keep.same s4)).sq) (fun _ _ => rfl) (fun q _ H4 _ Q h => ⟨_, rfl, h⟩) (fun H4 s4 h4 => ?_)
    exact ⟨D2, _, rfl, .inl (.inl (.inl h4)), rs.1, by rw [List.length_map]; exact hl, fun H5 s5 => q _ (s3.trans (s4.trans s5))⟩
def spAreSeen : Sp := fun vs H Q _ => ∃ (m : Int) (t : Addr) (seen : List Int), vs = [.int m, .ref t] ∧ SeenAt H t seen ∧ Rising m seen ∧ seen.length ≤ 1000 ∧ ∀ H', Same H H' → Q (.bl true) H'
theorem ok_are_persons (T : Txt K mg w) : FnOk P w K mg base CX0 3 T.f_are_persons T.fd_are_persons p_are_persons spAreSeen := by
  have G_is_person := ok_is_person (P := P) (w := w) (base := base) T
  have G_rises := ok_rises (P := P) (w := w) (base := base) T
  refine T.F_are_persons.ok sc_are_persons (fun vs H Q E h => ?_) (fun cdv A outer s H vs Q E hr h => ?_)
  · obtain ⟨m, t, seen, rfl, _⟩ := h
    rfl
  · obtain ⟨m, t, seen, rfl, hT, rs, hl, q⟩ := h
    refine ⟨_, (pss_one (ps_ret (pe_and (pe_callB call_isi (by rfl) T.m_isinstance (by decide +kernel) (pa_cons (pv 1) (pa_cons (pe_bltn (v := .ty "tuple") (by rfl) T.m_tuple (by decide +kernel) rfl) pa_nil))) (pe_and (pe_callB (cr_all rfl) (by rfl) T.m_all (by decide +kernel) (pa_cons (pe_lc (own := [("one", 2)]) (g := gName 2) (by rfl) sc_are_persons.nd (pi_tup (pv 1)) (blkOk_by (own := [("one", 2)]) (N := n_are_persons) (sc := defScope s_are_persons) (by decide +kernel)) (fun _ _ _ _ _ => (pg_name (i := 2) sc_are_persons.nd rfl (.inl rfl) (.inr rfl))) (fun _ _ _ _ _ => pts_nil) (fun _ _ _ _ _ => (pe_call G_is_person (hr.mono (by decide)) (by rfl) T.g_is_person T.F_is_person.kp T.b_is_person .nil pass0 (pa_cons (pv 0) (pa_cons (pv 2) pa_nil))))) pa_nil)) (pe_one (pe_call G_rises (hr.mono (by decide)) (by rfl) T.g_rises T.F_rises.kp T.b_rises .nil pass0 (pa_cons (pv 1) pa_nil))))))), ?_⟩
    refine rd_isi (x := .ref t) (T := "tuple") rfl hT.ty (by decide +kernel : kitB "tuple" "tuple" = some true) ⟨_, rfl, iteP rfl ?_⟩
    refine ⟨.ref t, rfl, t, rfl, ⟨_, hT.sq⟩, fun D hD => ?_⟩
    refine lc_true (walk_tup (xs := seen.map V.int)) hD (by rw [List.length_map]; exact hl) (fun H3 s3 => (hT.keep (Keep.same s3)).sq) ?_ (fun H3 s3 h3 => ⟨D, _, rfl, .inl (.inl h3), _, rfl, iteP (rep_all _) ?_⟩)
    · rintro i x H3 H4 hi s3 ⟨rfl, hx⟩ Q' Z hQ
      rw [List.length_map] at hi
      rw [List.getElem?_map, List.getElem?_eq_getElem hi] at hx
      cases hx
      have r0 := rs.2 _ (List.getElem_mem hi)
      exact ⟨rfl, yes (iteT ⟨.int m, rfl, .int seen[i], rfl, m, seen[i], rfl, r0.1, r0.2, hQ _ (Same.refl _)⟩)⟩
    exact ⟨.ref t, rfl, t, seen, rfl, .inr (hT.keep (Keep.same s3)), rs.1, hl, fun H5 s5 => q _ (s3.trans s5)⟩
/-- what may stand as a part of a rule -/
def PartAt (H : Hp) (m : Int) (part : Str) (v : V) : Prop :=
  (part = "number" ∧ ∃ i : Int, v = .int i ∧ 0 ≤ i) ∨ (part = "ties" ∧ ∃ t ties, v = .ref t ∧ TiesAt H t ties ∧ Rising m (ties.map (·.1)) ∧ (∀ q ∈ ties, 1 ≤ q.2) ∧ ties.length ≤ 1000) ∨
  (part = "seen" ∧ ∃ t seen, v = .ref t ∧ SeenAt H t seen ∧ Rising m seen ∧ seen.length ≤ 1000)
theorem PartAt.same {H H' : Hp} {m : Int} {part : Str} {v : V} (s : Same H H') (h : PartAt H m part v) : PartAt H' m part v := by
  rcases h with h | ⟨e, t, ties, h1, h2, h3⟩ | ⟨e, t, seen, h1, h2, h3⟩
  · exact .inl h
  · exact .inr (.inl ⟨e, t, ties, h1, h2.keep (Keep.same s), h3⟩)
  · exact .inr (.inr ⟨e, t, seen, h1, h2.keep (Keep.same s), h3⟩)
def spIsPart : Sp := fun vs H Q _ => ∃ (m : Int) (part : Str) (v : V), vs = [.int m, .str part, v] ∧ PartAt H m part v ∧ ∀ H', Same H H' → Q (.bl true) H'
theorem ok_is_part (T : Txt K mg w) : FnOk P w K mg base CX0 5 T.f_is_part T.fd_is_part p_is_part spIsPart := by
  have G_is_number := ok_is_number (P := P) (w := w) (base := base) T
  have G_are_ties := ok_are_ties (P := P) (w := w) (base := base) T
  have G_are_persons := ok_are_persons (P := P) (w := w) (base := base) T
  refine T.F_is_part.ok sc_is_part (fun vs H Q E h => ?_) (fun cdv A outer s H vs Q E hr h => ?_)
  · obtain ⟨m, part, v, rfl, _⟩ := h
    rfl
  · obtain ⟨m, part, v, rfl, hp, q⟩ := h
    refine ⟨_, (pss_cons (ps_if (pt_cmpR op_eq (pv 1) pe_str (nomark _))
        (pss_one (ps_ret (pe_call G_is_number (hr.mono (by decide)) (by rfl) T.g_is_number T.F_is_number.kp T.b_is_number .nil pass0 (pa_cons (pv 2) pa_nil))))
        pss_nil)
      (pss_cons (ps_if (pt_cmpR op_eq (pv 1) pe_str (nomark _))
        (pss_one (ps_ret (pe_call G_are_ties (hr.mono (by decide)) (by rfl) T.g_are_ties T.F_are_ties.kp T.b_are_ties .nil pass0 (pa_cons (pv 0) (pa_cons (pv 2) pa_nil)))))
        pss_nil)
      (pss_one (ps_ret (pe_call G_are_persons (hr.mono (by decide)) (by rfl) T.g_are_persons T.F_are_persons.kp T.b_are_persons .nil pass0 (pa_cons (pv 0) (pa_cons (pv 2) pa_nil))))))), ?_⟩
    rcases hp with ⟨rfl, i, rfl, i0⟩ | ⟨rfl, t, ties, rfl, h1, h2, h3, h4⟩ | ⟨rfl, t, seen, rfl, h1, h2, h3⟩
    · refine ⟨_, rfl, rfl, _, rfl, iteP (by decide +kernel) ?_⟩
      exact ⟨.int i, rfl, i, rfl, i0, q H (Same.refl H)⟩
    · refine ⟨_, rfl, rfl, _, rfl, iteN (by decide +kernel) ?_⟩
      refine ⟨_, rfl, rfl, _, rfl, iteP (by decide +kernel) ?_⟩
      exact ⟨.int m, rfl, .ref t, rfl, m, t, ties, rfl, h1, h2, h3, h4, q⟩
    · refine ⟨_, rfl, rfl, _, rfl, iteN (by decide +kernel) ?_⟩
      refine ⟨_, rfl, rfl, _, rfl, iteN (by decide +kernel) ?_⟩
      exact ⟨.int m, rfl, .ref t, rfl, m, t, seen, rfl, h1, h2, h3, q⟩
end
end Lh

namespace Lh
open PySem PySem.Spec PyProof.Rows L2
def partsOf : Rule → List Str
  | .held _ => ["number"]
  | .sum _ _ => ["number", "ties"]
  | .cap _ _ _ => ["number", "ties", "number"]
  | .kinds _ _ => ["number", "seen"]
  | .next _ => ["seen"]
  | .free _ => ["seen"]
section
variable {P : Program} {w : World} {K : PySem.W.Frag} {mg : Str → Option Value} {base : Heap}
theorem parts_at (T : Txt K mg w) : ∀ r : Rule, ∃ t, PySem.W.nsIn K T.D_PARTS (wordOf r) = some (some (.ref t)) ∧ ∀ H, SqT K H t ((partsOf r).map V.str)
  | .held _ => ⟨_, T.dk_PARTS_held, T.sq_PARTS_held⟩
  | .sum _ _ => ⟨_, T.dk_PARTS_sum, T.sq_PARTS_sum⟩
  | .cap _ _ _ => ⟨_, T.dk_PARTS_cap, T.sq_PARTS_cap⟩
  | .kinds _ _ => ⟨_, T.dk_PARTS_kinds, T.sq_PARTS_kinds⟩
  | .next _ => ⟨_, T.dk_PARTS_next, T.sq_PARTS_next⟩
  | .free _ => ⟨_, T.dk_PARTS_free, T.sq_PARTS_free⟩
theorem pieces {H : Hp} {v : V} {m : Int} : ∀ {r : Rule}, RuleAt H v r → r.Wf m → r.persons.length ≤ 1000 → ∃ a xs, v = .ref a ∧ H a = some (.tup (.str (wordOf r) :: xs)) ∧ xs.length = (partsOf r).length ∧ ∀ (i : Nat) (s : Str) (x : V), (partsOf r)[i]? = some s → xs[i]? = some x → PartAt H m s x
  | .held n, ⟨a, e, h⟩, wf, _ => ⟨a, _, e, h, rfl, fun i s x h1 h2 => by
    match i with
    | 0 => cases h1; cases h2; exact .inl ⟨rfl, n, rfl, wf.1⟩
    | i + 1 => cases h1⟩
  | .sum own ties, ⟨a, t, e, h, q⟩, wf, hl => ⟨a, _, e, h, rfl, fun i s x h1 h2 => by
    have hl' : ties.length ≤ 1000 := by simpa [Rule.persons] using hl
    match i with
    | 0 => cases h1; cases h2; exact .inl ⟨rfl, own, rfl, wf.1.1⟩
    | 1 => cases h1; cases h2; exact .inr (.inl ⟨rfl, t, ties, rfl, q, wf.2.1, fun q hq => (wf.2.2 q hq).1, hl'⟩)
    | i + 2 => cases h1⟩
  | .cap own ties most, ⟨a, t, e, h, q⟩, wf, hl => ⟨a, _, e, h, rfl, fun i s x h1 h2 => by
    have hl' : ties.length ≤ 1000 := by simpa [Rule.persons] using hl
    match i with
    | 0 => cases h1; cases h2; exact .inl ⟨rfl, own, rfl, wf.1.1⟩
    | 1 => cases h1; cases h2; exact .inr (.inl ⟨rfl, t, ties, rfl, q, wf.2.1, fun q hq => (wf.2.2.1 q hq).1, hl'⟩)
    | 2 => cases h1; cases h2; exact .inl ⟨rfl, most, rfl, wf.2.2.2.1⟩
    | i + 3 => cases h1⟩
  | .kinds own seen, ⟨a, t, e, h, q⟩, wf, hl => ⟨a, _, e, h, rfl, fun i s x h1 h2 => by
    match i with
    | 0 => cases h1; cases h2; exact .inl ⟨rfl, own, rfl, wf.1.1⟩
    | 1 => cases h1; cases h2; exact .inr (.inr ⟨rfl, t, seen, rfl, q, wf.2, hl⟩)
    | i + 2 => cases h1⟩
  | .next seen, ⟨a, t, e, h, q⟩, wf, hl => ⟨a, _, e, h, rfl, fun i s x h1 h2 => by
    match i with
    | 0 => cases h1; cases h2; exact .inr (.inr ⟨rfl, t, seen, rfl, q, wf, hl⟩)
    | i + 1 => cases h1⟩
  | .free seen, ⟨a, t, e, h, q⟩, wf, hl => ⟨a, _, e, h, rfl, fun i s x h1 h2 => by
    match i with
    | 0 => cases h1; cases h2; exact .inr (.inr ⟨rfl, t, seen, rfl, q, wf, hl⟩)
    | i + 1 => cases h1⟩
theorem parts_len : ∀ r : Rule, (partsOf r).length ≤ 1000
  | .held _ => by show 1 ≤ 1000; decide
  | .sum _ _ => by show 2 ≤ 1000; decide
  | .cap _ _ _ => by show 3 ≤ 1000; decide
  | .kinds _ _ => by show 2 ≤ 1000; decide
  | .next _ => by show 1 ≤ 1000; decide
  | .free _ => by show 1 ≤ 1000; decide
theorem cutV1 (xs : List V) : cutV xs (some 1) none = xs.drop 1 := by
  have h := cut_map id xs (some 1) none
  rw [List.map_id, List.map_id, cut1] at h
  exact h
def spIsRule : Sp := fun vs H Q _ => ∃ (m : Int) (v : V) (r : Rule), vs = [.int m, v] ∧ RuleAt H v r ∧ r.Wf m ∧ r.persons.length ≤ 1000 ∧ ∀ H', Same H H' → Q (.bl true) H'
set_option maxHeartbeats 2000000 in
theorem ok_is_rule (T : Txt K mg w) : FnOk P w K mg base CX0 6 T.f_is_rule T.fd_is_rule p_is_rule spIsRule := by
  have G_is_part := ok_is_part (P := P) (w := w) (base := base) T
  refine T.F_is_rule.ok sc_is_rule (fun vs H Q E h => ?_) (fun cdv A outer s H vs Q E hr h => ?_)
  · obtain ⟨m, v, r, rfl, _⟩ := h
    rfl
  · obtain ⟨m, v, r, rfl, hv, wf, hl, q⟩ := h
    obtain ⟨a, xs, rfl, ha, xl, px⟩ := pieces hv wf hl
    obtain ⟨t, dk, sq⟩ := parts_at T r
    refine ⟨_, (pss_cons (ps_if (PW.pt (pw_or (pt_not (pt_val (pe_callB call_isi (by rfl) T.m_isinstance (by decide +kernel) (pa_cons (pv 1) (pa_cons (pe_bltn (v := .ty "tuple") (by rfl) T.m_tuple (by decide +kernel) rfl) pa_nil))))) (pw_or1 (pt_not (pt_truth (pv 1) (by intro _; rfl))))))
        (pss_one (ps_ret pe_bl))
        pss_nil)
      (pss_cons (ps_if (PW.pt (pw_or (pt_not (pt_val (pe_callB call_isi (by rfl) T.m_isinstance (by decide +kernel) (pa_cons (pe_ix ix_tup (pv 1) pe_int (fun _ _ => rfl)) (pa_cons (pe_bltn (v := .ty "str") (by rfl) T.m_str (by decide +kernel) rfl) pa_nil))))) (pw_or1 (pt_cmpR (op_notIn_kd T.kd_PARTS) (pe_ix ix_tup (pv 1) pe_int (fun _ _ => rfl)) (pe_glob (v := .ref T.D_PARTS) (by rfl) T.g_PARTS rfl) (by rfl)))))
        (pss_one (ps_ret pe_bl))
        pss_nil)
      (pss_cons (ps_set (i := 2) sc_is_rule.nd rfl (.inl rfl) (pe_ix ix_kdict (pe_glob (v := .ref T.D_PARTS) (by rfl) T.g_PARTS rfl) (pe_ix ix_tup (pv 1) pe_int (fun _ _ => rfl)) (fun _ _ => rfl)))
      (pss_cons (ps_if (pt_cmpR op_ne (pe_callB call_len_seq (by rfl) T.m_len (by decide +kernel) (pa_cons (pv 1) pa_nil)) (pe_op op_add (pe_callB call_len_seq (by rfl) T.m_len (by decide +kernel) (pa_cons (pv 2) pa_nil)) pe_int) (nomark _))
        (pss_one (ps_ret pe_bl))
        pss_nil)
      (pss_one (ps_ret (pe_callB (cr_all rfl) (by rfl) T.m_all (by decide +kernel) (pa_cons (pe_lc (own := [("part", 3), ("piece", 4)]) (g := gTup K 2 (gCons (gName 3) (gCons (gName 4) gNil))) (by rfl) sc_is_rule.nd (RZ.pi_zipA (by rfl) T.m_zip (pa_cons (pv 2) (pa_cons (pe_slice sl_tupA (pv 1) (po_some pe_int) po_none) pa_nil))) (blkOk_by (own := [("part", 3), ("piece", 4)]) (N := n_is_rule) (sc := defScope s_is_rule) (by decide +kernel)) (fun _ _ _ _ _ => (pg_tup rfl (pgs_cons (pg_name (i := 3) sc_is_rule.nd rfl (.inl rfl) (.inr rfl)) (pgs_cons (pg_name (i := 4) sc_is_rule.nd rfl (.inl rfl) (.inr rfl)) pgs_nil)))) (fun _ _ _ _ _ => pts_nil) (fun _ _ _ _ _ => (pe_call G_is_part (hr.mono (by decide)) (by rfl) T.g_is_part T.F_is_part.kp T.b_is_part .nil pass0 (pa_cons (pv 0) (pa_cons (pv 3) (pa_cons (pv 4) pa_nil)))))) pa_nil)))))))), ?_⟩
    have i0 : atI (V.str (wordOf r) :: xs) 0 = some (.str (wordOf r)) := atI_nat (j := 0) rfl
    refine rd_isi (x := .ref a) (T := "tuple") rfl (.base (.tup ha)) (by decide +kernel : kitB "tuple" "tuple" = some true) ⟨_, rfl, iteN rfl ?_⟩
    refine ⟨.ref a, rfl, true, .inr (.inl ⟨_, .inl (.inl ha), rfl⟩), iteN rfl ?_⟩
    refine ⟨.ref a, rfl, a, _, 0, _, rfl, rfl, .inl (.inl ha), i0, _, _, .type "str", .type "str", true, rfl, .ty "str", .base (.str _), kit_ty (by decide +kernel), _, rfl, iteN rfl ?_⟩
    refine ⟨.ref a, rfl, a, _, 0, _, rfl, rfl, .inl (.inl ha), i0, _, _, rfl, rfl, dk, _, rfl, iteN rfl ?_⟩
    refine ⟨.ref a, rfl, a, _, 0, _, rfl, rfl, .inl (.inl ha), i0, T.D_PARTS, _, .ref t, rfl, rfl, ⟨T.es_PARTS, T.en_PARTS, _, T.kd_PARTS.at_, T.kd_PARTS.lit, dk, rfl⟩, ?_⟩
    refine ⟨.ref a, rfl, a, _, rfl, .inr (.inl (.inl ha)), .ref t, rfl, t, _, rfl, .inr (sq H), _, 1, rfl, rfl, rfl, _, rfl, iteN ?_ ?_⟩
    · rw [List.length_cons, List.length_map, xl]
      rw [decide_eq_true (by rfl)]
      rfl
    refine ⟨.ref t, rfl, .ref a, rfl, 1, rfl, a, _, rfl, .inl (.inl ha), fun wh => ?_, fun _ c nc => ?_⟩
    · exfalso
      have := wh.1
      rw [show HT.sIx (V.str (wordOf r) :: xs).length 0 (some 1) = min 1 (V.str (wordOf r) :: xs).length from HT.sIx_nat _ 0 1, List.length_cons] at this
      omega
    rw [cutV1]
    have s1 := same_upd (o := .tup ((V.str (wordOf r) :: xs).drop 1)) nc
    refine ⟨t, c, _, _, rfl, .inr ⟨sq _, .inl (.inl upd_same), fun D hD => ?_⟩⟩
    refine lc_true (walk_zipM (K := K) (a := t) (b := c) (xs := (partsOf r).map V.str) (ys := (V.str (wordOf r) :: xs).drop 1) (n := (partsOf r).length) (by rw [List.length_map, List.length_drop, List.length_cons, xl]; omega)) hD (parts_len r) (fun H3 s3 => ⟨sq _, .inl (.inl (s3 _ _ upd_same))⟩) ?_ (fun H3 s3 h3 => all_true h3 (q _ (s1.trans s3)))
    rintro i x H3 H4 hi s3 ⟨u, x1, x2, rfl, nu, rfl, e1, e2⟩ Q' Z hQ
    have e1' : ((partsOf r).map V.str)[i]? = some x1 := e1
    have e2' : xs[i]? = some x2 := e2
    rw [List.getElem?_map, List.getElem?_eq_getElem hi] at e1'
    cases e1'
    have sT := same_upd (o := .tup [V.str (partsOf r)[i], x2]) nu
    refine ⟨u, _, rfl, .inl (.inl upd_same), rfl, _, _, rfl, _, _, rfl, rfl, rfl, yes (iteT ⟨.int m, rfl, .str (partsOf r)[i], rfl, x2, rfl, m, _, x2, rfl, (px i _ x2 (List.getElem?_eq_getElem hi) e2').same (s1.trans (s3.trans sT)), fun H5 s5 => hQ _ (sT.trans s5)⟩)⟩
/-! ### halls -/
theorem run_len {X : Cx} {k : Nat} {f C : Addr} {fd : FuncData} {ps : List Str} {sp : Sp} (me : Meth X.K C "__len__" f) (F : FnOk X.prog X.w X.K X.mg X.base CX0 k f fd ps sp) (hb : Binds X.K fd ps []) (hr : Room (k + 1) X.A) :
    CallR X (.builtin "len") (fun xs H Q => ∃ (x dx : Addr) (fs : List (Str × V)), xs = [.ref x] ∧ H x = some (.ins C dx fs) ∧ sp [.ref x] H (fun v H' => ∃ n : Int, v = .int n ∧ 0 ≤ n ∧ n < 2 ^ 63 ∧ Q (.int n) H') E0) := by
  intro pins s σ H xs us Q I r h
  obtain ⟨x, dx, fs, rfl, hx, h⟩ := h
  rw [Vals.ref1 r]
  obtain ⟨m, fr⟩ := I.fr
  obtain ⟨mA, O, _⟩ := ins_get I.hok hx
  obtain ⟨od, J, _⟩ := O.look
  refine PySem.W.len_K fr I.mod.kin J me.at_ me.fn ?_
  have e0 := I.env0
  have e1 : Env0 X.prog X.w X.K X.mg X.base X.A.in1 X.stack s H := ⟨e0.frames, e0.mod, e0.bs, e0.bsz, e0.funs, e0.frf, e0.hok, e0.bare⟩
  have hl : ([Value.ref x] ++ []).length = ps.length := by rw [← F.len _ _ _ _ h]; rfl
  have bb := hb s [.ref x] I.kIn hl
  rw [List.append_nil] at bb
  have vv : Vals [V.ref x] [Value.ref x] := .cons rfl .nil
  have run := F.run X.A.in1 X.stack s H ⟨[.ref x], []⟩ [.ref x] [.ref x] _ E0 hr.in1 e1 bb vv h
  refine wpAny_call (codeAny_mono run ?_)
  rintro (e | fl) t ht
  · exact False.elim ht
  cases fl with
  | next => exact False.elim ht
  | brk => exact False.elim ht
  | cont => exact False.elim ht
  | ret u =>
    obtain ⟨v, H', J2, rv, n, rfl, n0, n1, q⟩ := I.after ht
    obtain ⟨tk, rfl⟩ := rv
    exact ⟨⟨n0, n1⟩, .int n, H', J2.tok _, ⟨_, rfl⟩, q⟩
def RulesAt (H : Hp) : List V → List Rule → Prop := Paired (RuleAt H)
theorem RulesAt.keep {H H' : Hp} (k : Keep H H') : ∀ {vs : List V} {rs : List Rule}, RulesAt H vs rs → RulesAt H' vs rs
  | _, _, .nil => .nil
  | _, _, .cons h r => .cons (h.keep k) (RulesAt.keep k r)
theorem RulesAt.get {H : Hp} : ∀ {vs : List V} {rs : List Rule}, RulesAt H vs rs → ∀ (i : Nat) (h : i < rs.length), ∃ v, vs[i]? = some v ∧ RuleAt H v rs[i]
  | _, _, .nil, i, h => absurd h (by simp)
  | _, _, .cons r t, 0, h => ⟨_, rfl, r⟩
  | _, _, .cons r t, i + 1, h => by
    obtain ⟨v, h1, h2⟩ := RulesAt.get t i (by simpa using h)
    exact ⟨v, by simpa using h1, by simpa using h2⟩
def Halls (rs : List Rule) : Prop := 1 ≤ rs.length ∧ rs.length ≤ 12 ∧ ∀ r ∈ rs, r.Wf rs.length
theorem wf_len {m : Int} {r : Rule} (h : r.Wf m) (hm : m ≤ 1000) (m0 : 0 ≤ m) : r.persons.length ≤ 1000 ∧ (r.persons.length : Int) ≤ m := by
  have key : ∀ ns : List Int, Rising m ns → (ns.length : Int) ≤ m := fun ns rs => by
    have h1 := nodup_len ns ((List.range m.toNat).map fun k : Nat => (k : Int)) rs.nodup (fun x hx => by
      have := rs.2 x hx
      rw [List.mem_map]
      exact ⟨x.toNat, List.mem_range.mpr (by omega), by omega⟩)
    rw [List.length_map, List.length_range] at h1
    omega
  have : (r.persons.length : Int) ≤ m := by
    cases r with
    | held n => show ((0 : Nat) : Int) ≤ m; omega
    | sum own ties => exact key _ h.2.1
    | cap own ties most => exact key _ h.2.1
    | kinds own seen => exact key _ h.2
    | next seen => exact key _ h
    | free seen => exact key _ h
  exact ⟨by omega, this⟩
/-- the hall at x, of these rules -/
def HallAt (C : Addr) (H : Hp) (x : Addr) (rs : List Rule) : Prop := ∃ (dx t : Addr) (vs : List V), H x = some (.ins C dx [("kept", .ref t)]) ∧ TupAt H t vs ∧ RulesAt H vs rs
def spInit (C : Addr) : Sp := fun vs H Q _ => ∃ (x dx l : Addr) (us : List V) (rs : List Rule), vs = [.ref x, .ref l] ∧ H x = some (.ins C dx []) ∧ H l = some (.lst us) ∧ RulesAt H us rs ∧ Halls rs ∧
  ∀ H', (∀ b o, b ≠ x → H b = some o → H' b = some o) → HallAt C H' x rs → Q .non H'
set_option maxHeartbeats 2000000 in
theorem ok_Hall_init (T : Txt K mg w) : FnOk P w K mg base CX0 7 T.f_Hall_init T.fd_Hall_init p_Hall_init (spInit T.C_Hall) := by
  have G_is_rule := ok_is_rule (P := P) (w := w) (base := base) T
  refine T.F_Hall_init.ok sc_Hall_init (fun vs H Q E h => ?_) (fun cdv A outer s H vs Q E hr h => ?_)
  · obtain ⟨x, dx, l, us, rs, rfl, _⟩ := h
    rfl
  · obtain ⟨x, dx, l, us, rs, rfl, hx, hl, ra, ⟨r0, r1, wf⟩, q⟩ := h
    have lu : us.length = rs.length := ra.length
    refine ⟨_, (pss_cons (ps_for PassesOwn.never rfl (pi_enum (by rfl) T.m_enumerate (pa_cons (pv 1) pa_nil)) (pg_tup rfl (pgs_cons (pg_name (i := 2) sc_Hall_init.nd rfl (.inl rfl)) (pgs_cons (pg_name (i := 3) sc_Hall_init.nd rfl (.inl rfl)) pgs_nil)))
        (pss_one (ps_if (pt_not (pt_val (pe_call G_is_rule (hr.mono (by decide)) (by rfl) T.g_is_rule T.F_is_rule.kp T.b_is_rule .nil pass0 (pa_cons (pe_callB call_len_seq (by rfl) T.m_len (by decide +kernel) (pa_cons (pv 1) pa_nil)) (pa_cons (pv 3) pa_nil)))))
          (pss_one ps_never)
          pss_nil)))
      (pss_one (ps_fld (pv 0) (pe_callTy call_tupleF (by rfl) T.m_tuple (by decide +kernel) (pa_cons (pv 1) pa_nil)) rfl))), ?_⟩
    refine ⟨.ref l, rfl, l, _, rfl, .inl (.inl hl), ?_⟩
    refine for_it (walk_enum (xs := us)) (fun i σ H3 => ∃ y2 y3 : Option V, σ = [some (.ref x), some (.ref l), y2, y3] ∧ Same H H3) ⟨none, none, rfl, Same.refl H⟩ ?_ ?_ ?_
    · rintro i σ H3 _ ⟨y2, y3, rfl, s3⟩
      exact .inl (.inl (s3 _ _ hl))
    · rintro i y σ H3 H4 hi ⟨y2, y3, rfl, s3⟩ ⟨t, x1, x2, rfl, nt, rfl, e1, e2⟩
      obtain ⟨v, hv, rv⟩ := ra.get i (by omega)
      have ex : x2 = v := Option.some.inj (e2.symm.trans hv)
      subst ex
      have sT := s3.trans (same_upd (o := .tup [x1, x2]) nt)
      have wfi := wf _ (List.getElem_mem (by omega : i < rs.length))
      refine ⟨t, _, rfl, .inl (.inl upd_same), rfl, _, _, rfl, _, _, rfl, rfl, ?_⟩
      refine ⟨.ref l, rfl, l, _, rfl, .inl (.inl (.inl (sT _ _ hl))), x2, rfl, (us.length : Int), x2, rs[i], rfl, rv.keep (Keep.same sT), by rw [lu]; exact wfi, (wf_len wfi (by omega) (by omega)).1, fun H5 s5 => ⟨_, rfl, iteN rfl ?_⟩⟩
      exact ⟨_, _, rfl, sT.trans s5⟩
    · rintro σ H3 ⟨y2, y3, rfl, s3⟩
      refine ⟨.ref l, rfl, l, _, rfl, .inl (.inl (s3 _ _ hl)), fun t o nt od => ?_⟩
      have s4 := s3.trans (same_upd (o := .frz o (.tup us)) nt)
      have nxt : x ≠ t := ne_of_none (s3 _ _ hx) nt
      refine ⟨.ref x, rfl, x, T.C_Hall, dx, [], rfl, s4 _ _ hx, T.cl_Hall, T.na_Hall_kept, by show 0 < 1000; decide, ?_⟩
      have kT : Keep (upd H3 t (.frz o (.tup us))) (upd (upd H3 t (.frz o (.tup us))) x (.ins T.C_Hall dx (putF "kept" (.ref t) []))) := by
        refine ⟨fun a xs h => ?_, fun a o u h => ?_⟩
        · rw [upd_ne (ne_of h (s4 _ _ hx) (by intro z; cases z))]; exact h
        · rw [upd_ne (ne_of h (s4 _ _ hx) (by intro z; cases z))]; exact h
      refine q _ (fun b ob nb hb => ?_) ⟨dx, t, us, upd_same, .inr ⟨o, od, kT.frz _ _ _ upd_same⟩, (ra.keep (Keep.same s4)).keep kT⟩
      rw [upd_ne nb]
      exact s4 _ _ hb
end
end Lh

namespace Lh
open PySem PySem.Spec PyProof.Rows L2
theorem kept_yes (v : V) : ([("kept", v)] : List (Str × V)).lookup ("kept" : Str) = some v := by
  rw [List.lookup_cons, show (("kept" : Str) == "kept") = true from beq_self_eq_true _]
theorem kept_no (v : V) {m : Str} (h : ¬ m = "kept") : ([("kept", v)] : List (Str × V)).lookup (m : Str) = none := by
  rw [List.lookup_cons, show (m == ("kept" : Str)) = false from beq_eq_false_iff_ne.mpr h]
  rfl
theorem HallAt.keep {C : Addr} {H H' : Hp} {x : Addr} {rs : List Rule} (s : Same H H') (h : HallAt C H x rs) : HallAt C H' x rs := by
  obtain ⟨dx, t, vs, h1, h2, h3⟩ := h
  exact ⟨dx, t, vs, s _ _ h1, h2.keep (Keep.same s), h3.keep (Keep.same s)⟩
theorem HallAt.ext {C bx : Addr} {c : Int} {H H' : Hp} {x : Addr} {rs : List Rule} (e : Ext bx H H') (b : Box bx c H) (h : HallAt C H x rs) : HallAt C H' x rs := by
  obtain ⟨dx, t, vs, h1, h2, h3⟩ := h
  have nb : x ≠ bx := by
    obtain ⟨_, _, _, hb, _⟩ := b
    exact ne_of h1 hb (by intro z; cases z)
  exact ⟨dx, t, vs, e _ _ nb h1, h2.keep (Keep.ext e b), h3.keep (Keep.ext e b)⟩
/-! ### standings -/
def nth (ns : List Int) (p : Int) : Int := ns.getD p.toNat 0
theorem nth_get {ns : List Int} {p : Int} (h0 : 0 ≤ p) (h1 : p < ns.length) : (ns.map V.int)[p.toNat]? = some (.int (nth ns p)) := by
  have hp : p.toNat < ns.length := by omega
  rw [List.getElem?_map, List.getElem?_eq_getElem hp]
  unfold nth
  rw [List.getD_eq_getElem?_getD, List.getElem?_eq_getElem hp]
  rfl
theorem nth_at {ns : List Int} {p : Int} (h0 : 0 ≤ p) (h1 : p < ns.length) : atI (ns.map V.int) p = some (.int (nth ns p)) := at_of (by omega) (nth_get h0 h1)
/-- the lot of those a rule sees who show less -/
def lotI (r : Rule) (ns : List Int) (p : Int) : List (Int × Int) := (r.persons.filter fun o => decide (nth ns o < nth ns p)).map fun o => (o, nth ns o)
def lotH (r : Rule) (ns : List Int) (h : Int) : List (Int × Int) := (r.persons.filter fun o => decide (nth ns o < h)).map fun o => (o, nth ns o)
theorem lotH_in {r : Rule} {ns : List Int} {h : Int} : ∀ q ∈ lotH r ns h, q.1 ∈ r.persons := fun q hq => by
  obtain ⟨o, ho, rfl⟩ := List.mem_map.mp hq
  exact (List.mem_filter.mp ho).1
theorem lotI_in {r : Rule} {ns : List Int} {p : Int} : ∀ q ∈ lotI r ns p, q.1 ∈ r.persons := fun q hq => by
  obtain ⟨o, ho, rfl⟩ := List.mem_map.mp hq
  exact (List.mem_filter.mp ho).1
/-- the turns of some, had at once -/
def Turned (rs : List Rule) (ns : List Int) (some_ : Int → Prop) (ms : List Int) : Prop := ms.length = ns.length ∧ ∀ (i : Nat) (h : i < rs.length), (some_ i → Tell rs[i] (lotI rs[i] ns i) (nth ms i)) ∧ (¬ some_ i → nth ms i = nth ns i)
theorem nth_ext {ns ms : List Int} (hl : ns.length = ms.length) (h : ∀ i : Nat, i < ns.length → nth ns i = nth ms i) : ns = ms := by
  apply List.ext_getElem hl
  intro i h1 h2
  have := h i h1
  unfold nth at this
  rw [List.getD_eq_getElem?_getD, List.getD_eq_getElem?_getD, Int.toNat_natCast, List.getElem?_eq_getElem h1, List.getElem?_eq_getElem h2] at this
  exact this
theorem Turned.unique {rs : List Rule} {ns ms ks : List Int} {p q : Int → Prop} (hn : ns.length = rs.length) (pq : ∀ i : Nat, i < rs.length → (p i ↔ q i)) (a : Turned rs ns p ms) (b : Turned rs ns q ks) : ms = ks := by
  refine nth_ext (a.1.trans b.1.symm) fun i hi => ?_
  have h : i < rs.length := by rw [← hn, ← a.1]; exact hi
  have ha := a.2 i h
  have hb := b.2 i h
  by_cases c : p i
  · exact (ha.1 c).unique (hb.1 ((pq i h).mp c))
  · rw [ha.2 c, hb.2 fun z => c ((pq i h).mpr z)]
abbrev Beat (rs : List Rule) (ns ms : List Int) : Prop := Turned rs ns (fun _ => True) ms
section
variable {P : Program} {w : World} {K : PySem.W.Frag} {mg : Str → Option Value} {base : Heap}
def spMust (C : Addr) : Sp := fun vs H Q _ => ∃ (x : Addr) (p : Int) (rs : List Rule), vs = [.ref x, .int p] ∧ HallAt C H x rs ∧ 0 ≤ p ∧ p < rs.length ∧ Q .non H
theorem ok_Hall_must_have (T : Txt K mg w) : FnOk P w K mg base CX0 1 T.f_Hall_must_have T.fd_Hall_must_have p_Hall_must_have (spMust T.C_Hall) := by
  refine T.F_Hall_must_have.ok sc_Hall_must_have (fun vs H Q E h => ?_) (fun cdv A outer s H vs Q E hr h => ?_)
  · obtain ⟨x, p, rs, rfl, _⟩ := h
    rfl
  · obtain ⟨x, p, rs, rfl, ⟨dx, t, vs, hx, ht, hv⟩, p0, p1, q⟩ := h
    have lv : vs.length = rs.length := hv.length
    refine ⟨_, (pss_one (ps_if (pt_not (pt_chain op_le op_lt pe_int (pv 1) (pe_callB call_len_seq (by rfl) T.m_len (by decide +kernel) (pa_cons (pe_fld (pv 0) rfl) pa_nil))))
        (pss_one ps_never)
        pss_nil)), ?_⟩
    exact ⟨.int p, rfl, 0, p, rfl, rfl, _, rfl, iteP (decide_eq_true p0) ⟨.ref x, rfl, x, T.C_Hall, dx, _, _, rfl, hx, T.cl_Hall, T.na_Hall_kept, kept_yes _, t, _, rfl, .inr ht.sq, p, _, rfl, rfl, _, rfl, iteN (by rw [decide_eq_true (by rw [lv]; exact p1)]; rfl) q⟩⟩
def spRuleM (C : Addr) : Sp := fun vs H Q _ => ∃ (x : Addr) (p : Nat) (rs : List Rule) (h : p < rs.length), vs = [.ref x, .int p] ∧ HallAt C H x rs ∧ ∀ v, RuleAt H v rs[p] → Q v H
theorem ok_Hall_rule (T : Txt K mg w) : FnOk P w K mg base CX0 2 T.f_Hall_rule T.fd_Hall_rule p_Hall_rule (spRuleM T.C_Hall) := by
  have G_Hall_must_have := ok_Hall_must_have (P := P) (w := w) (base := base) T
  refine T.F_Hall_rule.ok sc_Hall_rule (fun vs H Q E h => ?_) (fun cdv A outer s H vs Q E hr h => ?_)
  · obtain ⟨x, p, rs, hp, rfl, _⟩ := h
    rfl
  · obtain ⟨x, p, rs, hp, rfl, hA, q⟩ := h
    obtain ⟨dx, t, vs, hx, ht, hv⟩ := id hA
    refine ⟨_, (pss_cons (ps_expr (pe_meth (pv 0) T.cl_Hall T.me_Hall_must_have G_Hall_must_have (hr.mono (by decide)) T.b_Hall_must_have .nil pass0 (pa_cons (pv 1) pa_nil)))
      (pss_one (ps_ret (pe_ix ix_tup (pe_fld (pv 0) rfl) (pv 1) (fun _ _ => rfl))))), ?_⟩
    refine ⟨.ref x, rfl, x, dx, _, rfl, hx, kept_no _ (by decide +kernel), .int p, rfl, x, p, rs, rfl, hA, by omega, by omega, ?_⟩
    obtain ⟨v, hv1, hv2⟩ := hv.get p hp
    exact ⟨.ref x, rfl, x, T.C_Hall, dx, _, _, rfl, hx, T.cl_Hall, T.na_Hall_kept, kept_yes _, .int p, rfl, t, _, _, v, rfl, rfl, ht.sq, atI_nat hv1, q v hv2⟩
def spSees (C : Addr) : Sp := fun vs H Q _ => ∃ (x : Addr) (p : Nat) (rs : List Rule) (h : p < rs.length), vs = [.ref x, .int p] ∧ HallAt C H x rs ∧ Halls rs ∧ ∀ (l : Addr) (H' : Hp), Same H H' → H l = none → H' l = some (.lst (rs[p].persons.map V.int)) → Q (.ref l) H'
theorem Halls.few {rs : List Rule} (h : Halls rs) {p : Nat} (hp : p < rs.length) : rs[p].persons.length ≤ 12 := by
  have h1 := h.2.1
  have := (wf_len (h.2.2 _ (List.getElem_mem hp)) (by omega) (by omega)).2
  omega
theorem ok_Hall_sees (T : Txt K mg w) : FnOk P w K mg base CX0 3 T.f_Hall_sees T.fd_Hall_sees p_Hall_sees (spSees T.C_Hall) := by
  have G_Hall_rule := ok_Hall_rule (P := P) (w := w) (base := base) T
  have G_seen_by := ok_seen_by (P := P) (w := w) (base := base) T
  refine T.F_Hall_sees.ok sc_Hall_sees (fun vs H Q E h => ?_) (fun cdv A outer s H vs Q E hr h => ?_)
  · obtain ⟨x, p, rs, hp, rfl, _⟩ := h
    rfl
  · obtain ⟨x, p, rs, hp, rfl, hA, hh, q⟩ := h
    obtain ⟨dx, t, vs, hx, ht, hv⟩ := id hA
    have few := hh.few hp
    refine ⟨_, (pss_one (ps_ret (pe_call G_seen_by (hr.mono (by decide)) (by rfl) T.g_seen_by T.F_seen_by.kp T.b_seen_by .nil pass0 (pa_cons (pe_meth (pv 0) T.cl_Hall T.me_Hall_rule G_Hall_rule (hr.mono (by decide)) T.b_Hall_rule .nil pass0 (pa_cons (pv 1) pa_nil)) pa_nil)))), ?_⟩
    refine ⟨.ref x, rfl, x, dx, _, rfl, hx, kept_no _ (by decide +kernel), .int p, rfl, x, p, rs, hp, rfl, hA, fun v rv => ?_⟩
    exact ⟨v, rs[p], rfl, rv, by omega, fun l H' s' nl hl => q l H' s' nl hl⟩
def spLen (C : Addr) : Sp := fun vs H Q _ => ∃ (x : Addr) (rs : List Rule), vs = [.ref x] ∧ HallAt C H x rs ∧ Q (.int rs.length) H
theorem ok_Hall_len (T : Txt K mg w) : FnOk P w K mg base CX0 1 T.f_Hall_len T.fd_Hall_len p_Hall_len (spLen T.C_Hall) := by
  refine T.F_Hall_len.ok sc_Hall_len (fun vs H Q E h => ?_) (fun cdv A outer s H vs Q E hr h => ?_)
  · obtain ⟨x, rs, rfl, _⟩ := h
    rfl
  · obtain ⟨x, rs, rfl, ⟨dx, t, vs, hx, ht, hv⟩, q⟩ := h
    refine ⟨_, (pss_one (ps_ret (pe_callB call_len_seq (by rfl) T.m_len (by decide +kernel) (pa_cons (pe_fld (pv 0) rfl) pa_nil)))), ?_⟩
    refine ⟨.ref x, rfl, x, T.C_Hall, dx, _, _, rfl, hx, T.cl_Hall, T.na_Hall_kept, kept_yes _, t, _, rfl, .inr ht.sq, ?_⟩
    rw [hv.length]
    exact q
theorem per_in {rs : List Rule} (hh : Halls rs) {p : Nat} (hp : p < rs.length) : ∀ o ∈ rs[p].persons, 0 ≤ o ∧ o < rs.length := by
  intro o ho
  have wf := hh.2.2 _ (List.getElem_mem hp)
  generalize rs[p] = r at ho wf
  cases r with
  | held n => exact absurd ho (by simp [Rule.persons])
  | sum own ties => exact wf.2.1.2 o ho
  | cap own ties most => exact wf.2.1.2 o ho
  | kinds own seen => exact wf.2.2 o ho
  | next seen => exact wf.2 o ho
  | free seen => exact wf.2 o ho
end
end Lh

namespace Lh
open PySem PySem.Spec PyProof.Rows L2
theorem rg_ints (n : Int) : rgV 0 n = ((List.range n.toNat).map fun k : Nat => (k : Int)).map V.int := by
  unfold rgV
  rw [List.map_map, Int.sub_zero]
  exact List.map_congr_left fun k _ => by show V.int (0 + (k : Int)) = V.int k; rw [Int.zero_add]
theorem rg_rising (n : Int) (h : 0 ≤ n) : Rising n ((List.range n.toNat).map fun k : Nat => (k : Int)) := by
  refine ⟨List.Pairwise.map _ (fun a b z => by omega) List.pairwise_lt_range, fun x hx => ?_⟩
  obtain ⟨k, hk, rfl⟩ := List.mem_map.mp hx
  have := List.mem_range.mp hk
  omega
theorem at_end {us : List V} {t : V} (h : us[us.length - 1]? = some t) : atI us (-1) = some t := by
  rw [← List.getLast?_eq_getElem?] at h
  obtain ⟨ys, rfl⟩ := List.getLast?_eq_some_iff.mp h
  exact atI_last ys t
theorem ixN_at {n j : Nat} (h : j < n) : ixN n (j : Int) = some j := by
  unfold ixN
  rw [if_pos (by omega), if_pos (by omega), Int.toNat_natCast]
theorem nth_set {ms : List Int} {j : Nat} {y : Int} (hj : j < ms.length) (i : Nat) : nth (ms.set j y) i = if i = j then y else nth ms i := by
  unfold nth
  rw [Int.toNat_natCast, List.getD_eq_getElem?_getD, List.getD_eq_getElem?_getD, List.getElem?_set]
  by_cases c : j = i
  · subst c
    rw [if_pos rfl, if_pos rfl, if_pos hj]
    rfl
  · rw [if_neg c, if_neg fun z => c z.symm]
theorem Turned.step {rs : List Rule} {ns ms : List Int} {S S' : Int → Prop} {p : Nat} {y : Int} (hn : ns.length = rs.length) (hp : p < rs.length) (t : Turned rs ns S ms) (ty : Tell rs[p] (lotI rs[p] ns p) y) (hS : ∀ i : Nat, S' i ↔ S i ∨ i = p) : Turned rs ns S' (ms.set p y) := by
  refine ⟨by rw [List.length_set]; exact t.1, fun i hi => ?_⟩
  have hpm : p < ms.length := by rw [t.1]; omega
  rw [nth_set hpm]
  by_cases c : i = p
  · subst c
    rw [if_pos rfl]
    exact ⟨fun _ => ty, fun z => absurd ((hS i).mpr (.inr rfl)) z⟩
  · rw [if_neg c]
    refine ⟨fun z => (t.2 i hi).1 ?_, fun z => (t.2 i hi).2 fun z' => z ((hS i).mpr (.inl z'))⟩
    rcases (hS i).mp z with h | h
    · exact h
    · exact absurd h c
theorem Turned.none {rs : List Rule} {ns : List Int} {S : Int → Prop} (hS : ∀ i, ¬ S i) : Turned rs ns S ns := ⟨rfl, fun i _ => ⟨fun z => absurd z (hS _), fun _ => rfl⟩⟩
/-- the standings behind 0, 1, .. beats -/
def Way (rs : List Rule) (ns : List Int) (nss : List (List Int)) : Prop := nss[0]? = some ns ∧ (∀ ms ∈ nss, ms.length = rs.length) ∧ ∀ (i : Nat) (a b : List Int), nss[i]? = some a → nss[i + 1]? = some b → Beat rs a b
theorem Beat.unique {rs : List Rule} {ns ms ks : List Int} (hn : ns.length = rs.length) (a : Beat rs ns ms) (b : Beat rs ns ks) : ms = ks := Turned.unique hn (fun _ _ => Iff.rfl) a b
theorem Way.unique {rs : List Rule} {ns : List Int} {nss mss : List (List Int)} (a : Way rs ns nss) (b : Way rs ns mss) (hl : nss.length = mss.length) : nss = mss := by
  refine List.ext_getElem? fun i => ?_
  induction i with
  | zero => rw [a.1, b.1]
  | succ i ih =>
    by_cases c : i + 1 < nss.length
    · have c' : i + 1 < mss.length := by omega
      have h1 := List.getElem?_eq_getElem (l := nss) (show i < nss.length by omega)
      have h2 := List.getElem?_eq_getElem c
      have h4 := List.getElem?_eq_getElem c'
      rw [h2, h4]
      have h3 := ih.symm.trans h1
      have x := a.2.2 i _ _ h1 h2
      have y := b.2.2 i _ _ h3 h4
      rw [Beat.unique (a.2.1 _ (List.getElem_mem _)) x y]
    · rw [List.getElem?_eq_none (by omega), List.getElem?_eq_none (by omega)]
theorem Way.one {rs : List Rule} {ns : List Int} (h : ns.length = rs.length) : Way rs ns [ns] := by
  refine ⟨rfl, fun ms hm => ?_, fun i a b h1 h2 => ?_⟩
  · rw [List.mem_singleton.mp hm]; exact h
  · rw [List.getElem?_eq_none (by show 1 ≤ i + 1; omega)] at h2
    cases h2
theorem Way.snoc {rs : List Rule} {ns a b : List Int} {nss : List (List Int)} (h : Way rs ns nss) (ha : nss.getLast? = some a) (hb : Beat rs a b) : Way rs ns (nss ++ [b]) := by
  have hl : a ∈ nss := List.mem_of_getLast? ha
  have h0 : 0 < nss.length := List.length_pos_of_mem hl
  refine ⟨?_, fun ms hm => ?_, fun i x y h1 h2 => ?_⟩
  · rw [List.getElem?_append_left h0]; exact h.1
  · rcases List.mem_append.mp hm with z | z
    · exact h.2.1 _ z
    · rw [List.mem_singleton.mp z, hb.1]; exact h.2.1 _ hl
  · by_cases c : i + 1 < nss.length
    · rw [List.getElem?_append_left (by omega)] at h1
      rw [List.getElem?_append_left c] at h2
      exact h.2.2 i x y h1 h2
    · have c2 : i + 1 < (nss ++ [b]).length := by
        by_cases z : i + 1 < (nss ++ [b]).length
        · exact z
        · rw [List.getElem?_eq_none (by omega)] at h2; cases h2
      rw [List.length_append] at c2
      have c3 : i + 1 = nss.length := by have : i + 1 < nss.length + 1 := c2; omega
      rw [c3, List.getElem?_append_right (Nat.le_refl _), Nat.sub_self] at h2
      rw [List.getElem?_append_left (by omega)] at h1
      rw [List.getLast?_eq_getElem?, show nss.length - 1 = i by omega, h1] at ha
      cases ha; cases h2
      exact hb
theorem Way.drop {rs : List Rule} {ns a : List Int} {nss : List (List Int)} {k : Nat} (h : Way rs ns nss) (ha : nss[k]? = some a) : Way rs a (nss.drop k) := by
  refine ⟨by rw [List.getElem?_drop]; exact ha, fun ms hm => h.2.1 _ (List.mem_of_mem_drop hm), fun i x y h1 h2 => ?_⟩
  rw [List.getElem?_drop] at h1 h2
  exact h.2.2 (k + i) x y h1 h2
theorem Way.take {rs : List Rule} {ns : List Int} {nss : List (List Int)} {k : Nat} (h : Way rs ns nss) : Way rs ns (nss.take (k + 1)) := by
  refine ⟨by rw [List.getElem?_take_of_lt (by omega)]; exact h.1, fun ms hm => h.2.1 _ (List.mem_of_mem_take hm), fun i x y h1 h2 => ?_⟩
  by_cases c : i + 1 < k + 1
  · rw [List.getElem?_take_of_lt (by omega)] at h1
    rw [List.getElem?_take_of_lt c] at h2
    exact h.2.2 i x y h1 h2
  · rw [List.getElem?_eq_none (by rw [List.length_take]; omega)] at h2
    cases h2
/-- tuples of numbers, in a list -/
def StandAt (H : Hp) (v : V) (ms : List Int) : Prop := ∃ t, v = .ref t ∧ TupAt H t (ms.map V.int)
def StandsAt (H : Hp) : List V → List (List Int) → Prop := Paired (StandAt H)
theorem StandsAt.keep {H H' : Hp} (k : Keep H H') : ∀ {vs : List V} {nss : List (List Int)}, StandsAt H vs nss → StandsAt H' vs nss
  | _, _, .nil => .nil
  | _, _, .cons ⟨t, e, h⟩ r => .cons ⟨t, e, h.keep k⟩ (StandsAt.keep k r)
theorem StandsAt.get {H : Hp} : ∀ {vs : List V} {nss : List (List Int)}, StandsAt H vs nss → ∀ (i : Nat) (a : List Int), nss[i]? = some a → ∃ t, vs[i]? = some (.ref t) ∧ TupAt H t (a.map V.int)
  | _, _, .nil, i, a, h => by cases h
  | _, _, .cons ⟨t, e, h⟩ r, 0, a, z => by cases z; exact ⟨t, by rw [e]; rfl, h⟩
  | _, _, .cons _ r, i + 1, a, z => StandsAt.get r i a z
end Lh

namespace Lh
open PySem PySem.Spec PyProof.Rows L2
/-! ### all come to rest: pure counting -/
theorem lotI_H (r : Rule) (ns : List Int) (p : Int) : lotI r ns p = lotH r ns (nth ns p) := rfl
theorem wgt_nn {ties : List (Int × Int)} (h : ∀ q ∈ ties, 1 ≤ q.2 ∧ q.2 ≤ 1000) (p : Int) : 0 ≤ wgt ties p ∧ wgt ties p ≤ 1000 := by
  unfold wgt
  cases e : ties.find? fun q => decide (q.1 = p) with
  | none => exact ⟨Int.le_refl _, by show (0 : Int) ≤ 1000; decide⟩
  | some q =>
    have := h q (List.mem_of_find?_eq_some e)
    exact ⟨by show 0 ≤ q.2; omega, this.2⟩
theorem sum_mono (f : Int → Int) (hf : ∀ p, 0 ≤ f p) (P Q : Int → Bool) (hPQ : ∀ p, P p = true → Q p = true) : ∀ xs : List Int, ((xs.filter P).map f).sum ≤ ((xs.filter Q).map f).sum
  | [] => Int.le_refl _
  | x :: t => by
    have ih := sum_mono f hf P Q hPQ t
    have := hf x
    rw [List.filter_cons, List.filter_cons]
    by_cases c : P x = true
    · rw [if_pos c, if_pos (hPQ x c), List.map_cons, List.map_cons, List.sum_cons, List.sum_cons]; omega
    · rw [if_neg c]
      by_cases d : Q x = true
      · rw [if_pos d, List.map_cons, List.sum_cons]; omega
      · rw [if_neg d]; exact ih
theorem sum_lot {ties : List (Int × Int)} (r : Rule) (ns : List Int) (h : Int) : ((lotH r ns h).map fun q => wgt ties q.1).sum = ((r.persons.filter fun o => decide (nth ns o < h)).map (wgt ties)).sum := by
  unfold lotH
  rw [List.map_map]
  rfl
theorem lotH_sub {r : Rule} {ns : List Int} {h h' : Int} (hh : h ≤ h') : ∀ q ∈ lotH r ns h, q ∈ lotH r ns h' := fun q hq => by
  obtain ⟨o, ho, rfl⟩ := List.mem_map.mp hq
  obtain ⟨o1, o2⟩ := List.mem_filter.mp ho
  exact List.mem_map.mpr ⟨o, List.mem_filter.mpr ⟨o1, decide_eq_true (Int.lt_of_lt_of_le (of_decide_eq_true o2) hh)⟩, rfl⟩
theorem lotH_sub2 {r : Rule} {ns : List Int} {h h' : Int} (hh : h ≤ h') : ∀ y ∈ (lotH r ns h).map (·.2), y ∈ (lotH r ns h').map (·.2) := fun y hy => by
  obtain ⟨q, hq, rfl⟩ := List.mem_map.mp hy
  exact List.mem_map_of_mem (lotH_sub hh q hq)
/-- more lesser ones never tell less -/
theorem tell_mono {m : Int} {ns : List Int} {h h' : Int} (hh : h ≤ h') (nn : ∀ o : Int, 0 ≤ nth ns o) : ∀ {r : Rule} {c y : Int}, r.Wf m → Tell r (lotH r ns h) c → Tell r (lotH r ns h') y → c ≤ y
  | .held n, c, y, _, a, b => by rw [show c = n from a, show y = n from b]; exact Int.le_refl _
  | .sum own ties, c, y, wf, a, b => by
    rw [show c = _ from a, show y = _ from b, sum_lot, sum_lot]
    have := sum_mono (wgt ties) (fun p => (wgt_nn wf.2.2 p).1) (fun o => decide (nth ns o < h)) (fun o => decide (nth ns o < h')) (fun o z => decide_eq_true (Int.lt_of_lt_of_le (of_decide_eq_true z) hh)) (Rule.sum own ties).persons
    omega
  | .cap own ties most, c, y, wf, a, b => by
    rw [show c = _ from a, show y = _ from b, sum_lot, sum_lot]
    have := sum_mono (wgt ties) (fun p => (wgt_nn wf.2.2.1 p).1) (fun o => decide (nth ns o < h)) (fun o => decide (nth ns o < h')) (fun o z => decide_eq_true (Int.lt_of_lt_of_le (of_decide_eq_true z) hh)) (Rule.cap own ties most).persons
    omega
  | .kinds own seen, c, y, _, ⟨ks, n1, m1, e1⟩, ⟨ls, n2, m2, e2⟩ => by
    have := nodup_len ks ls n1 fun x hx => (m2 x).mpr (lotH_sub2 hh x ((m1 x).mp hx))
    omega
  | .next seen, c, y, _, a, b => by
    have y0 : 0 ≤ y := by
      rcases b with ⟨_, e⟩ | ⟨e, _⟩
      · omega
      · obtain ⟨q, hq, e⟩ := List.mem_map.mp e
        obtain ⟨o, _, rfl⟩ := List.mem_map.mp hq
        have h1 := nn o
        have : nth ns o = y - 1 := e
        omega
    rcases a with ⟨_, e⟩ | ⟨e, _⟩
    · omega
    · have e' := lotH_sub2 hh _ e
      rcases b with ⟨z, _⟩ | ⟨_, z⟩
      · rw [z] at e'; exact absurd e' (by simp)
      · have := z _ e'; omega
  | .free seen, c, y, _, ⟨a1, a2, a3⟩, ⟨b1, b2, b3⟩ => by
    rcases Int.lt_or_le y c with z | z
    · exact absurd (lotH_sub2 hh _ (a3 y b2 z)) b1
    · exact z
theorem dedup_ex : ∀ xs : List Int, ∃ ks : List Int, ks.Nodup ∧ ∀ k, k ∈ ks ↔ k ∈ xs
  | [] => ⟨[], .nil, fun _ => Iff.rfl⟩
  | x :: t => by
    obtain ⟨ks, h1, h2⟩ := dedup_ex t
    by_cases c : x ∈ t
    · refine ⟨ks, h1, fun k => ?_⟩
      rw [h2, List.mem_cons]
      exact ⟨.inr, fun z => z.elim (fun e => e ▸ c) id⟩
    · refine ⟨x :: ks, List.nodup_cons.mpr ⟨fun z => c ((h2 x).mp z), h1⟩, fun k => ?_⟩
      rw [List.mem_cons, List.mem_cons, h2]
theorem max_ex : ∀ xs : List Int, xs ≠ [] → ∃ x ∈ xs, ∀ y ∈ xs, y ≤ x
  | [], h => absurd rfl h
  | [x], _ => ⟨x, List.mem_cons_self, fun y hy => by rw [List.mem_singleton.mp hy]; exact Int.le_refl _⟩
  | x :: z :: t, _ => by
    obtain ⟨m, h1, h2⟩ := max_ex (z :: t) (by simp)
    rcases Int.le_total x m with c | c
    · refine ⟨m, List.mem_cons_of_mem _ h1, fun y hy => ?_⟩
      rcases List.mem_cons.mp hy with rfl | hy
      · exact c
      · exact h2 y hy
    · refine ⟨x, List.mem_cons_self, fun y hy => ?_⟩
      rcases List.mem_cons.mp hy with rfl | hy
      · exact Int.le_refl _
      · exact Int.le_trans (h2 y hy) c
theorem mex_from (xs : List Int) : ∀ (d k : Nat), (∀ j : Nat, j < k → (j : Int) ∈ xs) → xs.length + 1 ≤ k + d → ∃ x, IsMex xs x
  | 0, k, hk, hd => by
    exfalso
    have := nodup_len ((List.range k).map fun n : Nat => (n : Int)) xs (by
      rw [List.nodup_iff_pairwise_ne]
      exact List.Pairwise.map _ (fun a b z q => z (by omega)) (List.nodup_iff_pairwise_ne.mp List.nodup_range)) (fun x hx => by
        obtain ⟨n, hn, rfl⟩ := List.mem_map.mp hx
        exact hk n (List.mem_range.mp hn))
    rw [List.length_map, List.length_range] at this
    omega
  | d + 1, k, hk, hd => by
    by_cases c : (k : Int) ∈ xs
    · exact mex_from xs d (k + 1) (fun j hj => by
        by_cases e : j = k
        · subst e; exact c
        · exact hk j (by omega)) (by omega)
    · refine ⟨k, c, by omega, fun j h0 h1 => ?_⟩
      have := hk j.toNat (by omega)
      rw [show ((j.toNat : Nat) : Int) = j by omega] at this
      exact this
theorem Tell.ex : ∀ (r : Rule) (lot : List (Int × Int)), ∃ y, Tell r lot y
  | .held n, _ => ⟨n, rfl⟩
  | .sum _ _, _ => ⟨_, rfl⟩
  | .cap _ _ _, _ => ⟨_, rfl⟩
  | .kinds _ _, lot => by
    obtain ⟨ks, h1, h2⟩ := dedup_ex (lot.map (·.2))
    exact ⟨_, ks, h1, h2, rfl⟩
  | .next _, lot => by
    by_cases c : lot = []
    · exact ⟨0, .inl ⟨c, rfl⟩⟩
    · obtain ⟨x, h1, h2⟩ := max_ex (lot.map (·.2)) (fun z => c (List.map_eq_nil_iff.mp z))
      refine ⟨x + 1, .inr ⟨?_, fun y hy => ?_⟩⟩
      · rw [show x + 1 - 1 = x by omega]; exact h1
      · have := h2 y hy; omega
  | .free _, lot => mex_from _ ((lot.map (·.2)).length + 1) 0 (fun j hj => absurd hj (by omega)) (by omega)
/-- what a rule tells is no less than 0, and no more than it shows itself or some bound -/
def bnd : Rule → Int
  | .held n => n
  | .sum own ties => own + 1000 * ties.length
  | .cap _ _ most => most
  | .kinds own seen => own + seen.length
  | .next _ => 0
  | .free seen => seen.length
theorem sum_bnd (f : Int → Int) (hf : ∀ p, f p ≤ 1000) (h0 : ∀ p, 0 ≤ f p) (P : Int → Bool) : ∀ xs : List Int, ((xs.filter P).map f).sum ≤ 1000 * xs.length ∧ 0 ≤ ((xs.filter P).map f).sum
  | [] => ⟨Int.le_refl _, Int.le_refl _⟩
  | x :: t => by
    have ih := sum_bnd f hf h0 P t
    have := hf x
    have := h0 x
    rw [List.filter_cons, List.length_cons]
    by_cases c : P x = true
    · rw [if_pos c, List.map_cons, List.sum_cons]; omega
    · rw [if_neg c]; omega
theorem lotH_len (r : Rule) (ns : List Int) (h : Int) : (lotH r ns h).length ≤ r.persons.length := by
  unfold lotH
  rw [List.length_map]
  exact List.length_filter_le _ _
theorem tell_bnd {m : Int} {ns : List Int} {h : Int} (nn : ∀ o : Int, 0 ≤ nth ns o) (h0 : 0 ≤ h) : ∀ {r : Rule} {y : Int}, r.Wf m → Tell r (lotH r ns h) y → 0 ≤ y ∧ (y ≤ bnd r ∨ y ≤ h)
  | .held n, y, wf, a => by rw [show y = n from a]; exact ⟨wf.1, .inl (Int.le_refl _)⟩
  | .sum own ties, y, wf, a => by
    have e : y = _ := a
    rw [sum_lot] at e
    have := sum_bnd (wgt ties) (fun p => (wgt_nn wf.2.2 p).2) (fun p => (wgt_nn wf.2.2 p).1) (fun o => decide (nth ns o < h)) (Rule.sum own ties).persons
    have e2 : (Rule.sum own ties).persons.length = ties.length := List.length_map _
    have := wf.1.1
    refine ⟨by omega, .inl ?_⟩
    show y ≤ own + 1000 * ties.length
    rw [← e2]; omega
  | .cap own ties most, y, wf, a => by
    have e : y = _ := a
    rw [sum_lot] at e
    have := sum_bnd (wgt ties) (fun p => (wgt_nn wf.2.2.1 p).2) (fun p => (wgt_nn wf.2.2.1 p).1) (fun o => decide (nth ns o < h)) (Rule.cap own ties most).persons
    have := wf.1.1
    have := wf.2.2.2.1
    refine ⟨by omega, .inl ?_⟩
    show y ≤ most
    omega
  | .kinds own seen, y, wf, ⟨ks, n1, m1, e1⟩ => by
    have h1 := nodup_len ks ((lotH (.kinds own seen) ns h).map (·.2)) n1 fun x hx => (m1 x).mp hx
    rw [List.length_map] at h1
    have h2 := lotH_len (.kinds own seen) ns h
    have h3 : (Rule.kinds own seen).persons.length = seen.length := rfl
    have := wf.1.1
    refine ⟨by omega, .inl ?_⟩
    show y ≤ own + seen.length
    omega
  | .next seen, y, _, a => by
    rcases a with ⟨_, e⟩ | ⟨e, _⟩
    · exact ⟨by omega, .inr (by omega)⟩
    · obtain ⟨q, hq, e⟩ := List.mem_map.mp e
      obtain ⟨o, ho, rfl⟩ := List.mem_map.mp hq
      have h1 := nn o
      have h2 : nth ns o < h := of_decide_eq_true (List.mem_filter.mp ho).2
      have : nth ns o = y - 1 := e
      exact ⟨by omega, .inr (by omega)⟩
  | .free seen, y, _, ⟨a1, a2, a3⟩ => by
    refine ⟨a2, .inl ?_⟩
    have h1 := nodup_len ((List.range y.toNat).map fun n : Nat => (n : Int)) ((lotH (.free seen) ns h).map (·.2)) (by
      rw [List.nodup_iff_pairwise_ne]
      exact List.Pairwise.map _ (fun a b z q => z (by omega)) (List.nodup_iff_pairwise_ne.mp List.nodup_range)) (fun x hx => by
        obtain ⟨n, hn, rfl⟩ := List.mem_map.mp hx
        have := List.mem_range.mp hn
        exact a3 n (by omega) (by omega))
    rw [List.length_map, List.length_range, List.length_map] at h1
    have h2 := lotH_len (.free seen) ns h
    have h3 : (Rule.free seen).persons.length = seen.length := rfl
    show y ≤ (seen.length : Int)
    omega
/-- nobody's turn changes it -/
def Rest (rs : List Rule) (ns : List Int) : Prop := ∀ (i : Nat) (h : i < rs.length), Tell rs[i] (lotI rs[i] ns i) (nth ns i)
theorem upto {P : Nat → Nat → Prop} (mono : ∀ p t t', t ≤ t' → P p t → P p t') : ∀ n : Nat, (∀ p, p < n → ∃ t, P p t) → ∃ t, ∀ p, p < n → P p t
  | 0, _ => ⟨0, fun p h => absurd h (by omega)⟩
  | n + 1, h => by
    obtain ⟨t1, h1⟩ := upto mono n fun p hp => h p (by omega)
    obtain ⟨t2, h2⟩ := h n (by omega)
    refine ⟨max t1 t2, fun p hp => ?_⟩
    by_cases c : p = n
    · subst c; exact mono _ _ _ (Nat.le_max_right _ _) h2
    · exact mono _ _ _ (Nat.le_max_left _ _) (h1 p (by omega))
section
variable {rs : List Rule} {s : Nat → List Int} {S : Nat → Int → Prop}
structure Fair (rs : List Rule) (s : Nat → List Int) (S : Nat → Int → Prop) : Prop where
  hh : ∀ r ∈ rs, r.Wf rs.length
  len : ∀ k, (s k).length = rs.length
  step : ∀ k, Turned rs (s k) (S k) (s (k + 1))
  nn0 : ∀ o : Int, 0 ≤ nth (s 0) o
  fair : ∀ (k p : Nat), p < rs.length → ∃ j, k ≤ j ∧ S j p
theorem nth_out {ns : List Int} {o : Int} (h : ns.length ≤ o.toNat) : nth ns o = 0 := by
  unfold nth
  rw [List.getD_eq_getElem?_getD, List.getElem?_eq_none h]
  rfl
theorem nth_nat {ns : List Int} (o : Int) : nth ns o = nth ns (o.toNat : Nat) := by
  unfold nth
  rw [Int.toNat_natCast]
theorem Fair.nn (f : Fair rs s S) : ∀ (k : Nat) (o : Int), 0 ≤ nth (s k) o
  | 0, o => f.nn0 o
  | k + 1, o => by
    have ih := f.nn k
    by_cases c : o.toNat < rs.length
    · rw [nth_nat]
      have t := (f.step k).2 o.toNat c
      by_cases d : S k (o.toNat : Nat)
      · have h1 := t.1 d
        rw [lotI_H] at h1
        exact (tell_bnd ih (ih _) (f.hh _ (List.getElem_mem c)) h1).1
      · rw [t.2 d]; exact ih _
    · rw [nth_out (by rw [f.len]; omega)]
      exact Int.le_refl _
theorem Fair.bound (f : Fair rs s S) : ∃ B : Int, 0 ≤ B ∧ ∀ (k : Nat) (o : Nat), nth (s k) o ≤ B := by
  have b1 : ∀ xs : List Int, ∃ B : Int, 0 ≤ B ∧ ∀ x ∈ xs, x ≤ B := fun xs => by
    obtain ⟨m, _, hm⟩ := max_ex (0 :: xs) (by simp)
    exact ⟨m, hm 0 List.mem_cons_self, fun x hx => hm x (List.mem_cons_of_mem _ hx)⟩
  obtain ⟨B, B0, hB⟩ := b1 (rs.map bnd ++ s 0)
  refine ⟨B, B0, fun k => ?_⟩
  induction k with
  | zero =>
    intro o
    by_cases c : o < (s 0).length
    · refine hB _ (List.mem_append_right _ ?_)
      have := nth_get (ns := s 0) (p := (o : Int)) (by omega) (by omega)
      rw [Int.toNat_natCast, List.getElem?_map, List.getElem?_eq_getElem c] at this
      have e : (s 0)[o] = nth (s 0) o := V.int.inj (Option.some.inj this)
      rw [← e]
      exact List.getElem_mem c
    · rw [nth_out (by omega)]; exact B0
  | succ k ih =>
    intro o
    by_cases c : o < rs.length
    · have t := (f.step k).2 o c
      by_cases d : S k o
      · have h1 := t.1 d
        rw [lotI_H] at h1
        rcases (tell_bnd (f.nn k) (f.nn k _) (f.hh _ (List.getElem_mem c)) h1).2 with h2 | h2
        · exact Int.le_trans h2 (hB _ (List.mem_append_left _ (List.mem_map_of_mem (List.getElem_mem c))))
        · exact Int.le_trans h2 (ih o)
      · rw [t.2 d]; exact ih o
    · rw [nth_out (by rw [f.len]; omega)]; exact B0
/-- from T on p shows one number below h, or never one below it -/
def Fix (s : Nat → List Int) (h : Int) (p T : Nat) : Prop := ((∀ k, T ≤ k → nth (s k) p = nth (s T) p) ∧ nth (s T) p < h) ∨ ∀ k, T ≤ k → h ≤ nth (s k) p
theorem Fix.later {h : Int} {p T T' : Nat} (l : T ≤ T') : Fix s h p T → Fix s h p T'
  | .inl ⟨a, b⟩ => .inl ⟨fun k hk => by rw [a k (by omega), a T' l], by rw [a T' l]; exact b⟩
  | .inr a => .inr fun k hk => a k (by omega)
theorem lot_still (f : Fair rs s S) {h : Int} {T k : Nat} (hk : T ≤ k) (fx : ∀ p, p < rs.length → Fix s h p T) {i : Nat} (hi : i < rs.length) : lotH rs[i] (s k) h = lotH rs[i] (s T) h := by
  have inr : ∀ o ∈ rs[i].persons, 0 ≤ o ∧ o < rs.length := by
    intro o ho
    have wf := f.hh _ (List.getElem_mem hi)
    generalize rs[i] = r at ho wf
    cases r with
    | held n => exact absurd ho (by simp [Rule.persons])
    | sum own ties => exact wf.2.1.2 o ho
    | cap own ties most => exact wf.2.1.2 o ho
    | kinds own seen => exact wf.2.2 o ho
    | next seen => exact wf.2 o ho
    | free seen => exact wf.2 o ho
  have key : ∀ o ∈ rs[i].persons, (nth (s k) o = nth (s T) o) ∨ (h ≤ nth (s k) o ∧ h ≤ nth (s T) o) := fun o ho => by
    have io := inr o ho
    rw [nth_nat (ns := s k), nth_nat (ns := s T)]
    rcases fx o.toNat (by omega) with ⟨a, _⟩ | a
    · exact .inl (a k hk)
    · exact .inr ⟨a k hk, a T (Nat.le_refl _)⟩
  unfold lotH
  have e1 : (rs[i].persons.filter fun o => decide (nth (s k) o < h)) = rs[i].persons.filter fun o => decide (nth (s T) o < h) := by
    refine List.filter_congr fun o ho => ?_
    rcases key o ho with e | ⟨a, b⟩
    · rw [e]
    · rw [decide_eq_false (by omega), decide_eq_false (by omega)]
  rw [e1]
  refine List.map_congr_left fun o ho => ?_
  obtain ⟨o1, o2⟩ := List.mem_filter.mp ho
  have lt : nth (s T) o < h := of_decide_eq_true o2
  rcases key o o1 with e | ⟨a, b⟩
  · rw [e]
  · omega
theorem Fair.levels (f : Fair rs s S) : ∀ h : Nat, ∃ T, ∀ p, p < rs.length → Fix s h p T
  | 0 => ⟨0, fun p _ => .inr fun k _ => f.nn k p⟩
  | h + 1 => by
    obtain ⟨T, fx⟩ := f.levels h
    refine upto (P := fun p t => Fix s ((h + 1 : Nat) : Int) p t) (fun p t t' l => Fix.later l) rs.length fun p hp => ?_
    rcases fx p hp with ⟨a, b⟩ | a
    · exact ⟨T, .inl ⟨a, by omega⟩⟩
    obtain ⟨c, hc⟩ := Tell.ex rs[p] (lotH rs[p] (s T) h)
    have wf := f.hh _ (List.getElem_mem hp)
    -- a turn of p behind T tells no less than c, and c itself at h
    have low : ∀ k, T ≤ k → S k p → c ≤ nth (s (k + 1)) p := fun k hk hS => by
      have t := ((f.step k).2 p hp).1 hS
      rw [lotI_H] at t
      rw [← lot_still f hk fx hp] at hc
      exact tell_mono (a k hk) (f.nn k) wf hc t
    have just : ∀ k, T ≤ k → S k p → nth (s k) p = h → nth (s (k + 1)) p = c := fun k hk hS e => by
      have t := ((f.step k).2 p hp).1 hS
      rw [lotI_H, e, lot_still f hk fx hp] at t
      exact t.unique hc
    have stay : ∀ k, ¬ S k p → nth (s (k + 1)) p = nth (s k) p := fun k hS => ((f.step k).2 p hp).2 hS
    by_cases ch : (h : Int) < c
    · obtain ⟨j, hj, hS⟩ := f.fair T p hp
      refine ⟨j + 1, .inr fun k hk => ?_⟩
      have : ∀ d, c ≤ nth (s (j + 1 + d)) p := fun d => by
        induction d with
        | zero => exact low j hj hS
        | succ d ih =>
          show c ≤ nth (s (j + 1 + d + 1)) p
          by_cases e : S (j + 1 + d) p
          · exact low (j + 1 + d) (by omega) e
          · rw [stay _ e]; exact ih
      have h1 := this (k - (j + 1))
      rw [show j + 1 + (k - (j + 1)) = k by omega] at h1
      omega
    · by_cases ex : ∃ k, T ≤ k ∧ nth (s k) p = h
      · obtain ⟨k, hk, e⟩ := ex
        have all : ∀ d, nth (s (k + d)) p = h := fun d => by
          induction d with
          | zero => exact e
          | succ d ih =>
            rw [show k + (d + 1) = k + d + 1 by omega]
            by_cases z : S (k + d) p
            · have h1 := just _ (by omega) z ih
              have h2 := a (k + d + 1) (by omega)
              omega
            · rw [stay _ z]; exact ih
        refine ⟨k, .inl ⟨fun k' hk' => ?_, by rw [e]; omega⟩⟩
        have h1 := all (k' - k)
        rw [show k + (k' - k) = k' by omega] at h1
        rw [h1, e]
      · refine ⟨T, .inr fun k hk => ?_⟩
        have h1 := a k hk
        have h2 : nth (s k) p ≠ h := fun z => ex ⟨k, hk, z⟩
        omega
/-- all come to rest -/
theorem Fair.rest (f : Fair rs s S) : ∃ T, (∀ k, T ≤ k → s k = s T) ∧ Rest rs (s T) := by
  obtain ⟨B, B0, hB⟩ := f.bound
  obtain ⟨T, fx⟩ := f.levels (B.toNat + 1)
  have still : ∀ k, T ≤ k → s k = s T := fun k hk => by
    refine nth_ext (by rw [f.len, f.len]) fun i hi => ?_
    rw [f.len] at hi
    rcases fx i hi with ⟨a, _⟩ | a
    · exact a k hk
    · have h1 := a k hk
      have h2 := hB k i
      omega
  refine ⟨T, still, fun i hi => ?_⟩
  obtain ⟨j, hj, hS⟩ := f.fair T i hi
  have t := ((f.step j).2 i hi).1 hS
  rw [still j hj, still (j + 1) (by omega)] at t
  exact t
end
end Lh

namespace Lh
open PySem PySem.Spec PyProof.Rows L2
theorem eqvAll_ints : ∀ a b : List Int, PyData.eqvAll (a.map PyData.int) (b.map PyData.int) = decide (a = b)
  | [], [] => by rw [List.map_nil, PyData.eqvAll]; rfl
  | [], y :: t => by rw [List.map_nil, List.map_cons, PyData.eqvAll]; rfl
  | x :: t, [] => by rw [List.map_nil, List.map_cons, PyData.eqvAll]; rfl
  | x :: t, y :: u => by
    rw [List.map_cons, List.map_cons, PyData.eqvAll, PyData.eqv, eqvAll_ints t u, Bool.eq_iff_iff]
    simp
theorem eqv_tups (a b : List Int) : PyData.eqv (.tuple (a.map PyData.int)) (.tuple (b.map PyData.int)) = decide (a = b) := by
  rw [PyData.eqv]
  exact eqvAll_ints a b
theorem shaped_tup (ns : List Int) : SeqAt.shaped (.tuple (ns.map PyData.int)) = true := by
  show (PyData.canLayAll0 (ns.map PyData.int) && decide (PyData.depthAll (ns.map PyData.int) + 1 ≤ 64)) = true
  rw [canLay_ints, depth_ints]
  rfl
/-- [e for n in numbers] -/
theorem TupAt.dp {K : PySem.W.Frag} {H : Hp} {t : Addr} {ns : List Int} (h : TupAt H t (ns.map V.int)) : Dp K H (.ref t) (.tuple (ns.map PyData.int)) := .tup h.sq (RpAll.dp (bx := t) (RpAll.ints ns))
/-- the standing behind a beat -/
theorem Beat.ex (rs : List Rule) {ns : List Int} (hn : ns.length = rs.length) : ∃ ms, Beat rs ns ms := by
  have : ∀ k, k ≤ rs.length → ∃ ms : List Int, ms.length = k ∧ ∀ (i : Nat) (h : i < rs.length), i < k → Tell rs[i] (lotI rs[i] ns i) (nth ms i) := by
    intro k
    induction k with
    | zero => exact fun _ => ⟨[], rfl, fun i _ h => absurd h (by omega)⟩
    | succ k ih =>
      intro hk
      obtain ⟨ms, h1, h2⟩ := ih (by omega)
      obtain ⟨y, hy⟩ := Tell.ex rs[k] (lotI rs[k] ns k)
      refine ⟨ms ++ [y], by rw [List.length_append, h1]; rfl, fun i h hi => ?_⟩
      by_cases c : i = k
      · subst c
        have e : nth (ms ++ [y]) (i : Int) = y := by
          unfold nth
          rw [Int.toNat_natCast, List.getD_eq_getElem?_getD, List.getElem?_append_right (by omega), h1, Nat.sub_self]; rfl
        rw [e]; exact hy
      · have e : nth (ms ++ [y]) (i : Int) = nth ms i := by
          unfold nth
          rw [Int.toNat_natCast, List.getD_eq_getElem?_getD, List.getD_eq_getElem?_getD, List.getElem?_append_left (by omega)]
        rw [e]; exact h2 i h (by omega)
  obtain ⟨ms, h1, h2⟩ := this rs.length (Nat.le_refl _)
  exact ⟨ms, by rw [h1, hn], fun i h => ⟨fun _ => h2 i h h, fun z => absurd trivial z⟩⟩
noncomputable def beatF (rs : List Rule) (ns : List Int) : List Int := open Classical in if h : ∃ ms, Beat rs ns ms then Classical.choose h else ns
theorem beatF_ok {rs : List Rule} {ns : List Int} (hn : ns.length = rs.length) : Beat rs ns (beatF rs ns) := by
  unfold beatF
  rw [dif_pos (Beat.ex rs hn)]
  exact Classical.choose_spec (Beat.ex rs hn)
noncomputable def beatN (rs : List Rule) (ns : List Int) : Nat → List Int
  | 0 => ns
  | k + 1 => beatF rs (beatN rs ns k)
theorem beatN_len {rs : List Rule} {ns : List Int} (hn : ns.length = rs.length) : ∀ k, (beatN rs ns k).length = rs.length
  | 0 => hn
  | k + 1 => by
    show (beatF rs (beatN rs ns k)).length = rs.length
    rw [(beatF_ok (beatN_len hn k)).1]; exact beatN_len hn k
theorem beatN_step {rs : List Rule} {ns : List Int} (hn : ns.length = rs.length) (k : Nat) : Beat rs (beatN rs ns k) (beatN rs ns (k + 1)) := beatF_ok (beatN_len hn k)
theorem nth_pos {ns : List Int} (h : ∀ n ∈ ns, 0 ≤ n) (o : Int) : 0 ≤ nth ns o := by
  unfold nth
  rw [List.getD_eq_getElem?_getD]
  cases e : ns[o.toNat]? with
  | none => exact Int.le_refl _
  | some x => exact h x (List.mem_of_getElem? e)
theorem beat_rest {rs : List Rule} {ns : List Int} (hh : Halls rs) (hn : ns.length = rs.length) (pos : ∀ n ∈ ns, 0 ≤ n) : ∃ T, (∀ k, T ≤ k → beatN rs ns k = beatN rs ns T) ∧ Rest rs (beatN rs ns T) :=
  Fair.rest (S := fun _ _ => True) ⟨hh.2.2, beatN_len hn, beatN_step hn, nth_pos pos, fun k p _ => ⟨k, Nat.le_refl _, trivial⟩⟩
theorem Rest.beat {rs : List Rule} {ns : List Int} (h : Rest rs ns) : Beat rs ns ns := ⟨rfl, fun i hi => ⟨fun _ => h i hi, fun z => absurd trivial z⟩⟩
/-- where beats lead, and behind how many -/
def Come (rs : List Rule) (ns m : List Int) (b : Nat) : Prop := m = beatN rs ns b ∧ Beat rs m m ∧ ∀ i, i < b → beatN rs ns i ≠ beatN rs ns (i + 1)
theorem Come.unique {rs : List Rule} {ns m m' : List Int} {b b' : Nat} (hn : ns.length = rs.length) (h : Come rs ns m b) (h' : Come rs ns m' b') : m = m' ∧ b = b' := by
  have key : ∀ {m m' : List Int} {b b' : Nat}, Come rs ns m b → Come rs ns m' b' → ¬ b < b' := fun {m m' b b'} x y z => by
    refine y.2.2 b z ?_
    have s := beatN_step hn b
    have e := x.1
    rw [← e] at s ⊢
    exact x.2.1.unique (by rw [e]; exact beatN_len hn b) s
  have e : b = b' := by
    have h1 := key h h'
    have h2 := key h' h
    omega
  subst e
  exact ⟨h.1.trans h'.1.symm, rfl⟩
def cntOf (i : Nat) (σ : L2.St) : Nat := match σ[i]? with
  | some (some (.int b)) => b.toNat
  | _ => 0
/-- those whom a turn would change -/
noncomputable def restL (rs : List Rule) (ns : List Int) : List Int := ((List.range rs.length).filter fun i : Nat => decide (nth (beatF rs ns) i ≠ nth ns i)).map fun k : Nat => (k : Int)
theorem restL_len (rs : List Rule) (ns : List Int) : (restL rs ns).length ≤ rs.length := by
  unfold restL
  rw [List.length_map]
  exact Nat.le_trans (List.length_filter_le _ _) (by rw [List.length_range]; exact Nat.le_refl _)
theorem restL_nil {rs : List Rule} {ns : List Int} (hn : ns.length = rs.length) : (restL rs ns).isEmpty = true ↔ Rest rs ns := by
  have bt := beatF_ok hn
  rw [List.isEmpty_iff]
  unfold restL
  rw [List.map_eq_nil_iff, List.filter_eq_nil_iff]
  constructor
  · intro h i hi
    have h1 := h i (List.mem_range.mpr hi)
    have h2 : nth (beatF rs ns) i = nth ns i := by simpa using h1
    have h3 := (bt.2 i hi).1 trivial
    rw [h2] at h3
    exact h3
  · intro h i hi
    have hi' := List.mem_range.mp hi
    have h3 := ((bt.2 i hi').1 trivial).unique (h i hi')
    simpa using h3
theorem Rest.turned {rs : List Rule} {ns ms : List Int} {S : Int → Prop} (hn : ns.length = rs.length) (h : Rest rs ns) (t : Turned rs ns S ms) : ms = ns := by
  refine t.unique (q := S) hn (fun _ _ => Iff.rfl) ⟨rfl, fun i hi => ⟨fun _ => h i hi, fun _ => rfl⟩⟩
theorem beatN_pos {rs : List Rule} {ns : List Int} (hh : Halls rs) (hn : ns.length = rs.length) (pos : ∀ n ∈ ns, 0 ≤ n) (k : Nat) : ∀ n ∈ beatN rs ns k, 0 ≤ n := fun n hm => by
  have f : Fair rs (beatN rs ns) (fun _ _ => True) := ⟨hh.2.2, beatN_len hn, beatN_step hn, nth_pos pos, fun k p _ => ⟨k, Nat.le_refl _, trivial⟩⟩
  obtain ⟨i, hi, e⟩ := List.mem_iff_getElem.mp hm
  have h1 := f.nn k i
  have h2 := nth_get (ns := beatN rs ns k) (p := (i : Int)) (by omega) (by omega)
  rw [Int.toNat_natCast, List.getElem?_map, List.getElem?_eq_getElem hi] at h2
  have h3 : (beatN rs ns k)[i] = nth (beatN rs ns k) i := V.int.inj (Option.some.inj h2)
  rw [← e, h3]
  exact h1
theorem Turned.pos {rs : List Rule} {ns ms : List Int} {S : Int → Prop} (hh : Halls rs) (hn : ns.length = rs.length) (pos : ∀ n ∈ ns, 0 ≤ n) (be : Turned rs ns S ms) : ∀ n ∈ ms, 0 ≤ n := fun n hm => by
  obtain ⟨i, hi, e⟩ := List.mem_iff_getElem.mp hm
  have hi' : i < rs.length := by rw [← hn, ← be.1]; exact hi
  have h2 := nth_get (ns := ms) (p := (i : Int)) (by omega) (by omega)
  rw [Int.toNat_natCast, List.getElem?_map, List.getElem?_eq_getElem hi] at h2
  have h3 : ms[i] = nth ms i := V.int.inj (Option.some.inj h2)
  rw [← e, h3]
  by_cases c : S i
  · have tl := (be.2 i hi').1 c
    rw [lotI_H] at tl
    exact (tell_bnd (nth_pos pos) (nth_pos pos _) (hh.2.2 _ (List.getElem_mem hi')) tl).1
  · rw [(be.2 i hi').2 c]
    exact nth_pos pos _
theorem bnd_small {m : Int} {r : Rule} (h : r.Wf m) (hl : r.persons.length ≤ 12) : bnd r ≤ 1000000 := by
  cases r with
  | held n =>
    have := h.2
    show n ≤ 1000000
    omega
  | sum own ties =>
    have h1 := h.1.2
    have h2 : ties.length ≤ 12 := by simpa [Rule.persons] using hl
    show own + 1000 * ties.length ≤ 1000000
    omega
  | cap own ties most =>
    have := h.2.2.2.2
    show most ≤ 1000000
    omega
  | kinds own seen =>
    have h1 := h.1.2
    have h2 : seen.length ≤ 12 := hl
    show own + seen.length ≤ 1000000
    omega
  | next seen => show (0 : Int) ≤ 1000000; decide
  | free seen =>
    have h2 : seen.length ≤ 12 := hl
    show (seen.length : Int) ≤ 1000000
    omega
theorem Turned.small {rs : List Rule} {ns ms : List Int} {S : Int → Prop} (hh : Halls rs) (hn : ns.length = rs.length) (sm : ∀ n ∈ ns, 0 ≤ n ∧ n ≤ 1000000) (be : Turned rs ns S ms) : ∀ n ∈ ms, 0 ≤ n ∧ n ≤ 1000000 := fun n hm => by
  have pos : ∀ n ∈ ns, 0 ≤ n := fun n h => (sm n h).1
  refine ⟨be.pos hh hn pos n hm, ?_⟩
  obtain ⟨i, hi, e⟩ := List.mem_iff_getElem.mp hm
  have hi' : i < rs.length := by rw [← hn, ← be.1]; exact hi
  have up : nth ns (i : Int) ≤ 1000000 := by
    unfold nth
    rw [Int.toNat_natCast, List.getD_eq_getElem?_getD, List.getElem?_eq_getElem (by omega)]
    exact (sm _ (List.getElem_mem _)).2
  have h2 := nth_get (ns := ms) (p := (i : Int)) (by omega) (by omega)
  rw [Int.toNat_natCast, List.getElem?_map, List.getElem?_eq_getElem hi] at h2
  have h3 : ms[i] = nth ms i := V.int.inj (Option.some.inj h2)
  rw [← e, h3]
  by_cases c : S i
  · have tl := (be.2 i hi').1 c
    rw [lotI_H] at tl
    rcases (tell_bnd (nth_pos pos) (nth_pos pos _) (hh.2.2 _ (List.getElem_mem hi')) tl).2 with z | z
    · exact Int.le_trans z (bnd_small (hh.2.2 _ (List.getElem_mem hi')) (hh.few hi'))
    · exact Int.le_trans z up
  · rw [(be.2 i hi').2 c]
    exact up
end Lh

namespace Lh
open PySem PySem.Spec PyProof.Rows L2
/-! ### houses: what they are -/
structure HS where
  own : List Rule
  pins : List (Int × Int)
  shown : List Int
  ch : Int
def pinsR (pins : List (Int × Int)) (rs : List Rule) : List Rule := pins.foldl (fun a q => a.set q.1.toNat (.held q.2)) rs
/-- the rules, with who is held -/
def HS.now (s : HS) : List Rule := pinsR s.pins s.own
def PinOk (n : Nat) (q : Int × Int) : Prop := 0 ≤ q.1 ∧ q.1 < n ∧ 0 ≤ q.2 ∧ q.2 ≤ 1000000
structure HS.Ok (s : HS) : Prop where
  hh : Halls s.own
  ln : s.shown.length = s.own.length
  nn : ∀ n ∈ s.shown, 0 ≤ n ∧ n ≤ 1000000
  pn : ∀ q ∈ s.pins, PinOk s.own.length q
  few : s.pins.length ≤ s.own.length
theorem pinsR_len : ∀ (pins : List (Int × Int)) (rs : List Rule), (pinsR pins rs).length = rs.length
  | [], _ => rfl
  | q :: r, rs => by
    show (pinsR r (rs.set q.1.toNat (.held q.2))).length = rs.length
    rw [pinsR_len r, List.length_set]
theorem HS.now_len (s : HS) : s.now.length = s.own.length := pinsR_len _ _
theorem halls_held {rs : List Rule} (hh : Halls rs) {i : Nat} {n : Int} (h : 0 ≤ n ∧ n ≤ 1000000) : Halls (rs.set i (.held n)) := by
  refine ⟨by rw [List.length_set]; exact hh.1, by rw [List.length_set]; exact hh.2.1, fun r hr => ?_⟩
  rw [List.length_set]
  rcases List.mem_or_eq_of_mem_set hr with z | z
  · exact hh.2.2 r z
  · rw [z]; exact h
theorem pins_halls : ∀ {pins : List (Int × Int)} {rs : List Rule}, Halls rs → (∀ q ∈ pins, PinOk rs.length q) → Halls (pinsR pins rs)
  | [], _, h, _ => h
  | q :: r, rs, h, hp => pins_halls (pins := r) (rs := rs.set q.1.toNat (.held q.2)) (halls_held h (hp q List.mem_cons_self).2.2) fun z hz => by rw [List.length_set]; exact hp z (List.mem_cons_of_mem _ hz)
theorem HS.Ok.now {s : HS} (h : s.Ok) : Halls s.now := pins_halls h.hh h.pn
/-- what is there stays, but at some places -/
def Aw (F : List Addr) (H H' : Hp) : Prop := ∀ a o, a ∉ F → H a = some o → H' a = some o
theorem Aw.of {F : List Addr} {H H' : Hp} (s : Same H H') : Aw F H H' := fun a o _ h => s a o h
theorem Aw.refl {F : List Addr} (H : Hp) : Aw F H H := fun _ _ _ h => h
theorem Aw.trans {F : List Addr} {H H1 H2 : Hp} (a : Aw F H H1) (b : Aw F H1 H2) : Aw F H H2 := fun x o n h => b x o n (a x o n h)
theorem Aw.mono {F G : List Addr} {H H' : Hp} (a : Aw F H H') (h : ∀ f ∈ F, f ∈ G) : Aw G H H' := fun x o n e => a x o (fun z => n (h x z)) e
theorem Aw.upd {F : List Addr} {H : Hp} {a : Addr} {o : HO} (h : a ∈ F) : Aw F H (L2.upd H a o) := fun b u n e => by rw [upd_ne (fun z => n (by rw [z]; exact h))]; exact e
theorem Aw.one {a : Addr} {H : Hp} {o : HO} : Aw [a] H (L2.upd H a o) := Aw.upd List.mem_cons_self
/-- tuples stay, and halls do -/
structure KeepM (H H' : Hp) : Prop where
  k : Keep H H'
  h : ∀ a C dx v, H a = some (.ins C dx [("kept", v)]) → H' a = some (.ins C dx [("kept", v)])
def Mut (H : Hp) (a : Addr) : Prop := (∃ xs, H a = some (.lst xs)) ∨ (∃ kvs, H a = some (.dK kvs)) ∨ ∃ C dx fs, H a = some (.ins C dx fs) ∧ 2 ≤ fs.length
theorem Mut.no_tup {H : Hp} {a : Addr} {xs : List V} (m : Mut H a) (h : H a = some (.tup xs)) : False := by
  rcases m with ⟨_, e⟩ | ⟨_, e⟩ | ⟨_, _, _, e, _⟩ <;> (rw [e] at h; cases h)
theorem Mut.no_frz {H : Hp} {a : Addr} {o : Obj} {u : HO} (m : Mut H a) (h : H a = some (.frz o u)) : False := by
  rcases m with ⟨_, e⟩ | ⟨_, e⟩ | ⟨_, _, _, e, _⟩ <;> (rw [e] at h; cases h)
theorem Mut.no_hall {H : Hp} {a C dx : Addr} {v : V} (m : Mut H a) (h : H a = some (.ins C dx [("kept", v)])) : False := by
  rcases m with ⟨_, e⟩ | ⟨_, e⟩ | ⟨_, _, _, e, l⟩
  · rw [e] at h; cases h
  · rw [e] at h; cases h
  · rw [e] at h; cases h; exact absurd (show 2 ≤ 1 from l) (by decide)
theorem Aw.keepM {F : List Addr} {H H' : Hp} (a : Aw F H H') (m : ∀ f ∈ F, Mut H f) : KeepM H H' :=
  ⟨⟨fun b xs h => a b _ (fun z => (m b z).no_tup h) h, fun b o u h => a b _ (fun z => (m b z).no_frz h) h⟩, fun b C dx v h => a b _ (fun z => (m b z).no_hall h) h⟩
theorem KeepM.of {H H' : Hp} (s : Same H H') : KeepM H H' := ⟨Keep.same s, fun a C dx v h => s a _ h⟩
theorem KeepM.trans {H H1 H2 : Hp} (a : KeepM H H1) (b : KeepM H1 H2) : KeepM H H2 := ⟨a.k.trans b.k, fun x C dx v h => b.h x C dx v (a.h x C dx v h)⟩
theorem KeepM.ext {bx : Addr} {c : Int} {H H' : Hp} (e : Ext bx H H') (b : Box bx c H) : KeepM H H' := by
  refine ⟨Keep.ext e b, fun a C dx v h => e a _ ?_ h⟩
  obtain ⟨x, y, z, hb, _⟩ := b
  exact ne_of h hb (by intro z; cases z)
theorem HallAt.keepM {C : Addr} {H H' : Hp} {x : Addr} {rs : List Rule} (k : KeepM H H') (h : HallAt C H x rs) : HallAt C H' x rs := by
  obtain ⟨dx, t, vs, h1, h2, h3⟩ := h
  exact ⟨dx, t, vs, k.h _ _ _ _ h1, h2.keep k.k, h3.keep k.k⟩
def PinsAt (H : Hp) (pt : Addr) (pins : List (Int × Int)) : Prop := ∃ ps : List Addr, TupAt H pt (ps.map V.ref) ∧ Paired (fun p (q : Int × Int) => TupAt H p [.int q.1, .int q.2]) ps pins
theorem PinsAt.keep {H H' : Hp} {pt : Addr} {pins : List (Int × Int)} (k : Keep H H') : PinsAt H pt pins → PinsAt H' pt pins
  | ⟨ps, h1, h2⟩ => ⟨ps, h1.keep k, by
    clear h1
    induction h2 with
    | nil => exact .nil
    | cons a _ ih => exact .cons (a.keep k) ih⟩
/-- the hall, who is held, what is shown -/
structure CoreAt (CH : Addr) (H : Hp) (hx pt st : Addr) (s : HS) : Prop where
  ha : HallAt CH H hx s.own
  hp : PinsAt H pt s.pins
  hs : TupAt H st (s.shown.map V.int)
theorem CoreAt.keepM {CH : Addr} {H H' : Hp} {hx pt st : Addr} {s : HS} (k : KeepM H H') (c : CoreAt CH H hx pt st s) : CoreAt CH H' hx pt st s := ⟨c.ha.keepM k, c.hp.keep k.k, c.hs.keep k.k⟩
def PastAt (CH : Addr) (H : Hp) (v : V) (s : HS) : Prop := ∃ t hx pt st : Addr, v = .ref t ∧ H t = some (.tup [.ref hx, .ref pt, .ref st, .int s.ch]) ∧ CoreAt CH H hx pt st s
theorem PastAt.keepM {CH : Addr} {H H' : Hp} {v : V} {s : HS} (k : KeepM H H') : PastAt CH H v s → PastAt CH H' v s
  | ⟨t, hx, pt, st, e, h, c⟩ => ⟨t, hx, pt, st, e, k.k.tup _ _ h, c.keepM k⟩
abbrev PastsAt (CH : Addr) (H : Hp) : List V → List HS → Prop := Paired (PastAt CH H)
theorem PastsAt.keepM {CH : Addr} {H H' : Hp} (k : KeepM H H') : ∀ {us : List V} {ss : List HS}, PastsAt CH H us ss → PastsAt CH H' us ss
  | _, _, .nil => .nil
  | _, _, .cons h t => .cons (h.keepM k) (PastsAt.keepM k t)
abbrev hsF (hx pt st : Addr) (ch : Int) (pa en : Addr) : List (Str × V) := [("own", .ref hx), ("pins", .ref pt), ("shown", .ref st), ("changes", .int ch), ("past", .ref pa), ("entries", .ref en)]
/-- a house: its past at pa, its log at en -/
structure HouseAt (C CH : Addr) (H : Hp) (x pa en : Addr) (s : HS) (past : List HS) : Prop where
  ex : ∃ dx hx pt st, H x = some (.ins C dx (hsF hx pt st s.ch pa en)) ∧ CoreAt CH H hx pt st s
  hp : ∃ us, H pa = some (.lst us) ∧ PastsAt CH H us past
  he : ∃ es, H en = some (.lst es)
  ne : pa ≠ en
theorem HouseAt.mut {C CH : Addr} {H : Hp} {x pa en : Addr} {s : HS} {past : List HS} (h : HouseAt C CH H x pa en s past) : ∀ f ∈ [x, pa], Mut H f := fun f hf => by
  rcases List.mem_cons.mp hf with rfl | hf
  · obtain ⟨dx, hx, pt, st, e, _⟩ := h.ex
    exact .inr (.inr ⟨_, _, _, e, by show 2 ≤ 6; decide⟩)
  · obtain ⟨us, e, _⟩ := h.hp
    rw [List.mem_singleton.mp hf]
    exact .inl ⟨us, e⟩
/-- changes elsewhere leave a house as it is -/
theorem HouseAt.aw {C CH : Addr} {F : List Addr} {H H' : Hp} {x pa en : Addr} {s : HS} {past : List HS} (h : HouseAt C CH H x pa en s past) (a : Aw F H H') (m : ∀ f ∈ F, Mut H f) (n1 : x ∉ F) (n2 : pa ∉ F) (n3 : en ∉ F) : HouseAt C CH H' x pa en s past := by
  have k := a.keepM m
  obtain ⟨dx, hx, pt, st, e, c⟩ := h.ex
  obtain ⟨us, e2, p⟩ := h.hp
  obtain ⟨es, e3⟩ := h.he
  exact ⟨⟨dx, hx, pt, st, a _ _ n1 e, c.keepM k⟩, ⟨us, a _ _ n2 e2, p.keepM k⟩, ⟨es, a _ _ n3 e3⟩, h.ne⟩
theorem HouseAt.same {C CH : Addr} {H H' : Hp} {x pa en : Addr} {s : HS} {past : List HS} (h : HouseAt C CH H x pa en s past) (a : Same H H') : HouseAt C CH H' x pa en s past := h.aw (F := []) (Aw.of a) (fun f hf => absurd hf (by simp)) (by simp) (by simp) (by simp)
theorem HouseAt.x_pa {C CH : Addr} {H : Hp} {x pa en : Addr} {s : HS} {past : List HS} (h : HouseAt C CH H x pa en s past) : x ≠ pa ∧ x ≠ en := by
  obtain ⟨dx, hx, pt, st, e, _⟩ := h.ex
  obtain ⟨us, e2, _⟩ := h.hp
  obtain ⟨es, e3⟩ := h.he
  exact ⟨ne_of e e2 (by intro z; cases z), ne_of e e3 (by intro z; cases z)⟩
theorem lk_ne {k a : Str} {v : V} {r : List (Str × V)} (h : k ≠ a) : List.lookup k ((a, v) :: r) = List.lookup k r := by
  rw [List.lookup_cons, show (k == a) = false from beq_eq_false_iff_ne.mpr h]
theorem lk_eq {a : Str} {v : V} {r : List (Str × V)} : List.lookup a ((a, v) :: r) = some v := by
  rw [List.lookup_cons, show (a == a) = true from beq_self_eq_true _]
theorem pf_ne {g f : Str} {v x : V} {r : List (Str × V)} (h : g ≠ f) : putF f v ((g, x) :: r) = (g, x) :: putF f v r := if_neg h
theorem pf_eq {f : Str} {v x : V} {r : List (Str × V)} : putF f v ((f, x) :: r) = (f, v) :: r := if_pos rfl
section
variable {hx pt st pa en : Addr} {ch : Int}
theorem hs_own : (hsF hx pt st ch pa en).lookup ("own" : Str) = some (.ref hx) := lk_eq
theorem hs_pins : (hsF hx pt st ch pa en).lookup ("pins" : Str) = some (.ref pt) := by rw [lk_ne (by decide +kernel)]; exact lk_eq
theorem hs_shown : (hsF hx pt st ch pa en).lookup ("shown" : Str) = some (.ref st) := by rw [lk_ne (by decide +kernel), lk_ne (by decide +kernel)]; exact lk_eq
theorem hs_changes : (hsF hx pt st ch pa en).lookup ("changes" : Str) = some (.int ch) := by rw [lk_ne (by decide +kernel), lk_ne (by decide +kernel), lk_ne (by decide +kernel)]; exact lk_eq
theorem hs_past : (hsF hx pt st ch pa en).lookup ("past" : Str) = some (.ref pa) := by rw [lk_ne (by decide +kernel), lk_ne (by decide +kernel), lk_ne (by decide +kernel), lk_ne (by decide +kernel)]; exact lk_eq
theorem hs_entries : (hsF hx pt st ch pa en).lookup ("entries" : Str) = some (.ref en) := by rw [lk_ne (by decide +kernel), lk_ne (by decide +kernel), lk_ne (by decide +kernel), lk_ne (by decide +kernel), lk_ne (by decide +kernel)]; exact lk_eq
theorem hs_no {m : Str} (h : m ≠ "own" ∧ m ≠ "pins" ∧ m ≠ "shown" ∧ m ≠ "changes" ∧ m ≠ "past" ∧ m ≠ "entries") : (hsF hx pt st ch pa en).lookup m = none := by
  obtain ⟨h1, h2, h3, h4, h5, h6⟩ := h
  rw [lk_ne h1, lk_ne h2, lk_ne h3, lk_ne h4, lk_ne h5, lk_ne h6]
  rfl
theorem pf_own (v : Addr) : putF ("own" : Str) (.ref v) (hsF hx pt st ch pa en) = hsF v pt st ch pa en := pf_eq
theorem pf_pins (v : Addr) : putF ("pins" : Str) (.ref v) (hsF hx pt st ch pa en) = hsF hx v st ch pa en := by rw [pf_ne (by decide +kernel), pf_eq]
theorem pf_shown (v : Addr) : putF ("shown" : Str) (.ref v) (hsF hx pt st ch pa en) = hsF hx pt v ch pa en := by rw [pf_ne (by decide +kernel), pf_ne (by decide +kernel), pf_eq]
theorem pf_changes (v : Int) : putF ("changes" : Str) (.int v) (hsF hx pt st ch pa en) = hsF hx pt st v pa en := by rw [pf_ne (by decide +kernel), pf_ne (by decide +kernel), pf_ne (by decide +kernel), pf_eq]
theorem pf_past (v : Addr) : putF ("past" : Str) (.ref v) (hsF hx pt st ch pa en) = hsF hx pt st ch v en := by rw [pf_ne (by decide +kernel), pf_ne (by decide +kernel), pf_ne (by decide +kernel), pf_ne (by decide +kernel), pf_eq]
end
/-- a field read inside a comprehension -/
theorem pe_fldK {X : Cx} {K : PySem.W.Frag} {o : Expr} {f : Str} {pos : Pos} {ta : TE} (hK : X.K = K) (he : PE X o ta) (hb : attributeBase o f X.env (eval o X.env) = eval o X.env) : PE X (.Attribute o f pos) (tFld K ta f) := by
  rw [← hK]
  exact pe_fld he hb
/-- who shows another number -/
def chgL (a b : List Int) : List Int := ((List.range b.length).filter fun i => decide (nth b (i : Nat) ≠ nth a (i : Nat))).map fun i : Nat => (i : Int)
end Lh

namespace Lh
open PySem PySem.Spec PyProof.Rows L2
section
variable {P : Program} {w : World} {K : PySem.W.Frag} {mg : Str → Option Value} {base : Heap}
theorem ok_NoPerson_init (T : Txt K mg w) : FnOk P w K mg base CX0 1 T.f_NoPerson_init T.fd_NoPerson_init p_NoPerson_init (spInitF T.C_NoPerson "person") := by
  refine T.F_NoPerson_init.ok sc_NoPerson_init (fun vs H Q E h => ?_) (fun cdv A outer s H vs Q E hr h => ?_)
  · obtain ⟨a, v, rfl, _⟩ := h
    rfl
  · obtain ⟨a, v, rfl, ha, q⟩ := h
    refine ⟨_, (pss_cons (ps_expr (pe_base (B := "IndexError") ty_IndexError boot_IndexError (by rfl) T.m_IndexError T.vi_IndexError (pa_cons (pv 0) (pa_cons pe_str pa_nil)) (by decide) (by decide) (by decide +kernel) (by decide +kernel)))
      (pss_one (ps_put (pv 0) (pv 1)))), ?_⟩
    refine ⟨.ref a, rfl, a, T.C_NoPerson, _, rfl, by show 1 ≤ 1000; decide, ⟨_, _, T.ox_NoPerson⟩, ha, ?_⟩
    exact ⟨v, rfl, .ref a, rfl, a, T.C_NoPerson, rfl, ⟨_, _, _, _, T.ox_NoPerson⟩, T.na_NoPerson_person, ha, q⟩
end
end Lh

namespace Lh
open PySem PySem.Spec PyProof.Rows L2
section
variable {P : Program} {w : World} {K : PySem.W.Frag} {mg : Str → Option Value} {base : Heap}
/-- NoPerson(p) -/
def NoP (X : Addr) (E : XK) (H : Hp) (p : Int) : Prop := ∀ (d : Addr) (H' : Hp), Same H H' → H d = none → H' d = some (.xd [("person", .int p)]) → E (.ref X) (some d) H'
def spMustX (C X : Addr) : Sp := fun vs H Q E => ∃ (x : Addr) (p : Int) (rs : List Rule), vs = [.ref x, .int p] ∧ HallAt C H x rs ∧ (0 ≤ p ∧ p < rs.length → Q .non H) ∧ (¬ (0 ≤ p ∧ p < rs.length) → NoP X E H p)
theorem ok_must_haveX (T : Txt K mg w) : FnOk P w K mg base (L2.CX P w) 3 T.f_Hall_must_have T.fd_Hall_must_have p_Hall_must_have (spMustX T.C_Hall T.C_NoPerson) := by
  have G_NoPerson_init := ok_NoPerson_init (P := P) (w := w) (base := base) T
  refine T.F_Hall_must_have.okX sc_Hall_must_have (fun vs H Q E h => ?_) (fun cdv A outer s H vs Q E hr h => ?_)
  · obtain ⟨x, p, rs, rfl, _⟩ := h
    rfl
  · obtain ⟨x, p, rs, rfl, ⟨dx, t, vs, hx, ht, hv⟩, qQ, qE⟩ := h
    have lv : vs.length = rs.length := hv.length
    refine ⟨_, (pss_one (ps_if (pt_not (pt_chain op_le op_lt pe_int (pv 1) (pe_callB call_len_seq (by rfl) T.m_len (by decide +kernel) (pa_cons (pe_fld (pv 0) rfl) pa_nil))))
        (pss_one (ps_raise rfl (takes_of rfl rfl rfl rfl) (pmk_own T.ox_NoPerson T.me_NoPerson_init.1 T.ti_NoPerson G_NoPerson_init (hr.mono (by decide)) T.b_NoPerson_init .nil pass0 (by rfl) T.g_NoPerson (pa_cons (pv 1) pa_nil))))
        pss_nil)), ?_⟩
    have raise : ¬ (0 ≤ p ∧ p < rs.length) → tMkO T.C_NoPerson (spInitF T.C_NoPerson "person") [] (tCons (tVar 1) tNil) (L2.start n_Hall_must_have [V.ref x, V.int p]) H fun a b c => E a b c := fun c => by
      refine ⟨.int p, rfl, by show 1 ≤ 1000; decide, fun e ne => ?_⟩
      refine ⟨e, .int p, rfl, upd_same, fun d nd nde => ⟨rfl, d, [("person", .int p)], upd_same, ?_, ?_, ?_⟩⟩
      · rw [upd_ne nde, upd_same]
      · rw [upd_ne nde] at nd; exact nd
      · rw [upd_ne nde] at nd
        refine qE c d _ (fun b o hbo => ?_) nd upd_same
        have n1 : b ≠ e := ne_of_none hbo ne
        have n2 : b ≠ d := ne_of_none hbo nd
        rw [upd_ne n2, L2.del_ne n1, upd_ne n1, upd_ne n2, upd_ne n1]
        exact hbo
    refine ⟨.int p, rfl, 0, p, rfl, rfl, _, rfl, ite2 (fun c0 => ?_) (fun c0 => ?_)⟩
    · have p0 : 0 ≤ p := of_decide_eq_true c0
      refine ⟨.ref x, rfl, x, T.C_Hall, dx, _, _, rfl, hx, T.cl_Hall, T.na_Hall_kept, kept_yes _, t, _, rfl, .inr ht.sq, p, _, rfl, rfl, _, rfl, ?_⟩
      by_cases c1 : p < rs.length
      · exact iteN (by rw [decide_eq_true (by rw [lv]; exact c1)]; rfl) (qQ ⟨p0, c1⟩)
      · refine iteP (by rw [decide_eq_false (by rw [lv]; exact c1)]; rfl) ?_
        exact raise fun z => c1 z.2
    · exact ⟨_, rfl, iteP rfl (raise fun z => c0 (decide_eq_true z.1))⟩
def spRuleX (C X : Addr) : Sp := fun vs H Q E => ∃ (x : Addr) (p : Int) (rs : List Rule), vs = [.ref x, .int p] ∧ HallAt C H x rs ∧ (∀ (k : Nat) (hk : k < rs.length), p = (k : Int) → ∀ v, RuleAt H v rs[k] → Q v H) ∧ (¬ (0 ≤ p ∧ p < rs.length) → NoP X E H p)
theorem ok_ruleX (T : Txt K mg w) : FnOk P w K mg base (L2.CX P w) 4 T.f_Hall_rule T.fd_Hall_rule p_Hall_rule (spRuleX T.C_Hall T.C_NoPerson) := by
  have G_Hall_must_have := ok_must_haveX (P := P) (w := w) (base := base) T
  refine T.F_Hall_rule.okX sc_Hall_rule (fun vs H Q E h => ?_) (fun cdv A outer s H vs Q E hr h => ?_)
  · obtain ⟨x, p, rs, rfl, _⟩ := h
    rfl
  · obtain ⟨x, p, rs, rfl, hA, qQ, qE⟩ := h
    obtain ⟨dx, t, vs, hx, ht, hv⟩ := id hA
    refine ⟨_, (pss_cons (ps_expr (pe_meth (pv 0) T.cl_Hall T.me_Hall_must_have G_Hall_must_have (hr.mono (by decide)) T.b_Hall_must_have .nil (passes_call (takes_of rfl rfl rfl rfl) (fun _ _ _ _ h => h)) (pa_cons (pv 1) pa_nil)))
      (pss_one (ps_ret (pe_ix ix_tup (pe_fld (pv 0) rfl) (pv 1) (fun _ _ => rfl))))), ?_⟩
    refine ⟨.ref x, rfl, x, dx, _, rfl, hx, kept_no _ (by decide +kernel), .int p, rfl, x, p, rs, rfl, hA, fun c => ?_, qE⟩
    obtain ⟨k, rfl⟩ : ∃ k : Nat, p = (k : Int) := ⟨p.toNat, by omega⟩
    have hk : k < rs.length := by omega
    obtain ⟨v, hv1, hv2⟩ := hv.get k hk
    exact ⟨.ref x, rfl, x, T.C_Hall, dx, _, _, rfl, hx, T.cl_Hall, T.na_Hall_kept, kept_yes _, .int k, rfl, t, _, _, v, rfl, rfl, ht.sq, atI_nat hv1, qQ k hk rfl v hv2⟩
end
end Lh

namespace Lh
open PySem PySem.Spec PyProof.Rows L2
section
variable {P : Program} {w : World} {K : PySem.W.Frag} {mg : Str → Option Value} {base : Heap}
def spWeighed : Sp := fun vs H Q _ => ∃ (a t : Addr) (l x0 : V) (own : Int) (more : List V) (ties lot : List (Int × Int)), vs = [.ref a, l] ∧ H a = some (.tup (x0 :: .int own :: .ref t :: more)) ∧ TiesAt H t ties ∧ (ties.map (·.1)).Nodup ∧ LotAt H l lot ∧ (∀ q ∈ lot, q.1 ∈ ties.map (·.1)) ∧
  ∀ H', Same H H' → Q (.int (own + (lot.map fun q => wgt ties q.1).sum)) H'
theorem ok_weighed (T : Txt K mg w) : FnOk P w K mg base CX0 1 T.f_weighed T.fd_weighed p_weighed spWeighed := by
  refine T.F_weighed.ok sc_weighed (fun vs H Q E h => ?_) (fun cdv A outer s H vs Q E hr h => ?_)
  · obtain ⟨a, t, l, x0, own, more, ties, lot, rfl, _⟩ := h
    rfl
  · obtain ⟨a, t, l, x0, own, more, ties, lot, rfl, ha, ⟨o, ps, od, ht, pr⟩, nd, ⟨b, qs, rfl, hb, pq, lq⟩, sub, q⟩ := h
    have i1 : atI (x0 :: V.int own :: .ref t :: more) 1 = some (.int own) := atI_nat (j := 1) rfl
    have i2 : atI (x0 :: V.int own :: .ref t :: more) 2 = some (.ref t) := atI_nat (j := 2) rfl
    rcases hb with hb | hb
    · refine ⟨_, (pss_cons (ps_set (i := 2) sc_weighed.nd rfl (.inr rfl) (pe_callTy (call_dictT rfl) (by rfl) T.m_dict (by decide +kernel) (pa_cons (pe_ix ix_tup (pv 0) pe_int (fun _ _ => rfl)) pa_nil)))
      (pss_one (ps_ret (pe_op op_add (pe_ix ix_tup (pv 0) pe_int (fun _ _ => rfl)) (pe_callB (cr_sum rfl) (by rfl) T.m_sum (by decide +kernel) (pa_cons (pe_lc (own := [("person", 3), ("number", 4)]) (g := gTup K 2 (gCons (gName 3) (gCons (gName 4) gNil))) (by rfl) sc_weighed.nd (pi_list (pv 1)) (blkOk_by (own := [("person", 3), ("number", 4)]) (N := n_weighed) (sc := defScope s_weighed) (by decide +kernel)) (fun _ _ _ _ _ => (pg_tup rfl (pgs_cons (pg_name (i := 3) sc_weighed.nd rfl (.inl rfl) (.inr rfl)) (pgs_cons (pg_name (i := 4) sc_weighed.nd rfl (.inl rfl) (.inr rfl)) pgs_nil)))) (fun _ _ _ _ _ => pts_nil) (fun _ _ _ _ _ => (pe_dget (hu_of hr) (pv 2) (pv 3) (fun _ _ => rfl)))) pa_nil)))))), ?_⟩
      refine ⟨.ref a, rfl, a, _, 2, _, rfl, rfl, .inl (.inl ha), i2, t, o, ps, kvOf ties, rfl, od, ht, pairs_sq pr, fun d hd => ?_⟩
      rw [merge_kv nd]
      have s1 := same_upd (o := .dK (kvOf ties)) hd
      refine ⟨.ref a, rfl, a, _, 1, _, rfl, rfl, .inl (.inl (s1 _ _ ha)), i1, ?_⟩
      refine ⟨.ref b, rfl, b, rfl, ⟨_, .inl (.inl (s1 _ _ hb))⟩, fun D hD => ?_⟩
      refine lc_pairs (fun q => wgt ties q.1) (walk_listR qs) (pairs_keep (Keep.same s1) pq) hD lq (fun H3 s3 => .inl (.inl (s3 _ _ (s1 _ _ hb)))) (fun _ _ => rfl) (fun q hq H3 s3 Q h => ?_) (fun H3 s3 h3 => ?_)
      · refine ⟨.ref d, rfl, .int q.1, rfl, d, _, rfl, ?_, h⟩
        rw [← kv_get (sub q hq)]
        exact DGet.k (k := Sum.inl q.1) (s3 _ _ upd_same)
      · exact ⟨D, _, rfl, .inl (.inl h3), _, _, rfl, rfl, q _ (s1.trans s3)⟩
    · refine ⟨_, (pss_cons (ps_set (i := 2) sc_weighed.nd rfl (.inr rfl) (pe_callTy (call_dictT rfl) (by rfl) T.m_dict (by decide +kernel) (pa_cons (pe_ix ix_tup (pv 0) pe_int (fun _ _ => rfl)) pa_nil)))
      (pss_one (ps_ret (pe_op op_add (pe_ix ix_tup (pv 0) pe_int (fun _ _ => rfl)) (pe_callB (cr_sum rfl) (by rfl) T.m_sum (by decide +kernel) (pa_cons (pe_lc (own := [("person", 3), ("number", 4)]) (g := gTup K 2 (gCons (gName 3) (gCons (gName 4) gNil))) (by rfl) sc_weighed.nd (pi_tup (pv 1)) (blkOk_by (own := [("person", 3), ("number", 4)]) (N := n_weighed) (sc := defScope s_weighed) (by decide +kernel)) (fun _ _ _ _ _ => (pg_tup rfl (pgs_cons (pg_name (i := 3) sc_weighed.nd rfl (.inl rfl) (.inr rfl)) (pgs_cons (pg_name (i := 4) sc_weighed.nd rfl (.inl rfl) (.inr rfl)) pgs_nil)))) (fun _ _ _ _ _ => pts_nil) (fun _ _ _ _ _ => (pe_dget (hu_of hr) (pv 2) (pv 3) (fun _ _ => rfl)))) pa_nil)))))), ?_⟩
      refine ⟨.ref a, rfl, a, _, 2, _, rfl, rfl, .inl (.inl ha), i2, t, o, ps, kvOf ties, rfl, od, ht, pairs_sq pr, fun d hd => ?_⟩
      rw [merge_kv nd]
      have s1 := same_upd (o := .dK (kvOf ties)) hd
      refine ⟨.ref a, rfl, a, _, 1, _, rfl, rfl, .inl (.inl (s1 _ _ ha)), i1, ?_⟩
      refine ⟨.ref b, rfl, b, rfl, ⟨_, (hb.keep (Keep.same s1)).sq⟩, fun D hD => ?_⟩
      refine lc_pairs (fun q => wgt ties q.1) (walk_tupR qs) (pairs_keep (Keep.same s1) pq) hD lq (fun H3 s3 => ((hb.keep (Keep.same s1)).keep (Keep.same s3)).sq) (fun _ _ => rfl) (fun q hq H3 s3 Q h => ?_) (fun H3 s3 h3 => ?_)
      · refine ⟨.ref d, rfl, .int q.1, rfl, d, _, rfl, ?_, h⟩
        rw [← kv_get (sub q hq)]
        exact DGet.k (k := Sum.inl q.1) (s3 _ _ upd_same)
      · exact ⟨D, _, rfl, .inl (.inl h3), _, _, rfl, rfl, q _ (s1.trans s3)⟩
def spLeast (K : PySem.W.Frag) : Sp := fun vs H Q _ => ∃ (a : Addr) (ns : List Int), vs = [.ref a] ∧ SqL K H a (ns.map V.int) ∧ ∀ x, IsMex ns x → Q (.int x) H
theorem ok_least_free (T : Txt K mg w) : FnOk P w K mg base CX0 1 T.f_least_free T.fd_least_free p_least_free (spLeast K) := by
  refine T.F_least_free.ok sc_least_free (fun vs H Q E h => ?_) (fun cdv A outer s H vs Q E hr h => ?_)
  · obtain ⟨a, ns, rfl, _⟩ := h
    rfl
  · obtain ⟨a, ns, rfl, hS, q⟩ := h
    refine ⟨_, (pss_cons (ps_set (i := 1) sc_least_free.nd rfl (.inl rfl) pe_int)
      (pss_cons (ps_while PassesOwn.never (pt_cmpR op_in_seq (pv 1) (pv 0) (by rfl))
        (pss_one (ps_aug (i := 1) sc_least_free.nd rfl (.inl rfl) pe_int ip_add)))
      (pss_one (ps_ret (pv 1))))), ?_⟩
    refine while_by (fun σ H' => ∃ k : Nat, σ = [some (.ref a), some (.int k)] ∧ H' = H ∧ ∀ j : Int, 0 ≤ j → j < k → j ∈ ns) (fun σ _ => match σ with | [_, some (.int k)] => ns.length + 1 - k.toNat | _ => 0) ⟨0, rfl, rfl, fun j h1 h2 => by omega⟩ ?_ ?_
    · rintro σ H' ⟨k, rfl, rfl, hk⟩
      refine ⟨.int k, rfl, .ref a, rfl, a, _, rfl, .inl hS, rfl, flat_ints ns, _, rfl, ?_⟩
      rw [if_neg Bool.false_ne_true, in_ints]
      refine ite2 (fun e => ?_) (fun e => ?_)
      · have e' : (k : Int) ∈ ns := of_decide_eq_true e
        have hk2 : ∀ j : Int, 0 ≤ j → j < (k + 1 : Nat) → j ∈ ns := fun j h1 h2 => by
          by_cases z : j = k
          · rw [z]; exact e'
          · exact hk j h1 (by omega)
        have hle : k + 1 ≤ ns.length := by
          have h := nodup_len ((List.range (k + 1)).map fun n : Nat => (n : Int)) ns (by
            rw [List.nodup_iff_pairwise_ne]
            exact List.Pairwise.map _ (fun a b z q => z (by omega)) (List.nodup_iff_pairwise_ne.mp List.nodup_range)) (fun x hx => by
              obtain ⟨n, hn, rfl⟩ := List.mem_map.mp hx
              exact hk2 n (by omega) (by have := List.mem_range.mp hn; omega))
          rw [List.length_map, List.length_range] at h
          exact h
        refine ⟨.int k, rfl, k, 1, rfl, rfl, ⟨k + 1, rfl, rfl, hk2⟩, ?_⟩
        show ns.length + 1 - ((k : Int) + 1).toNat < ns.length + 1 - (k : Int).toNat
        omega
      · refine ⟨.int k, rfl, q k ⟨?_, by omega, hk⟩⟩
        exact fun z => e (decide_eq_true z)
    · rintro σ H' Q Q' hQ ⟨v, h1, u, h2, p, xs, h3, h4, h5, h6, k, h7, h8⟩
      exact ⟨v, h1, u, h2, p, xs, h3, h4, h5, h6, k, h7, hQ _ _ h8⟩
end
end Lh

namespace Lh
open PySem PySem.Spec PyProof.Rows L2
section
variable {P : Program} {w : World} {K : PySem.W.Frag} {mg : Str → Option Value} {base : Heap}
def spToldOf : Sp := fun vs H Q _ => ∃ (v l : V) (r : Rule) (many : Int) (lot : List (Int × Int)), vs = [v, l] ∧ RuleAt H v r ∧ r.Wf many ∧ LotAt H l lot ∧ (∀ q ∈ lot, q.1 ∈ r.persons) ∧ ∀ (x : Int) (H' : Hp), Same H H' → Tell r lot x → Q (.int x) H'
theorem ok_told_of (T : Txt K mg w) : FnOk P w K mg base CX0 2 T.f_told_of T.fd_told_of p_told_of spToldOf := by
  have G_weighed := ok_weighed (P := P) (w := w) (base := base) T
  have G_least_free := ok_least_free (P := P) (w := w) (base := base) T
  refine T.F_told_of.ok sc_told_of (fun vs H Q E h => ?_) (fun cdv A outer s H vs Q E hr h => ?_)
  · obtain ⟨v, l, r, many, lot, rfl, _⟩ := h
    rfl
  · obtain ⟨v, l, r, many, lot, rfl, hv, wf, ⟨b, qs, rfl, hb, pq, lq⟩, sub, q⟩ := h
    rcases hb with hb | hb
    · refine ⟨_, (pss_cons (ps_set (i := 2) sc_told_of.nd rfl (.inl rfl) (pe_ix ix_tup (pv 0) pe_int (fun _ _ => rfl)))
      (pss_cons (ps_if (pt_cmpR op_eq (pv 2) pe_str (nomark _))
        (pss_one (ps_ret (pe_ix ix_tup (pv 0) pe_int (fun _ _ => rfl))))
        pss_nil)
      (pss_cons (ps_if (pt_cmpR op_eq (pv 2) pe_str (nomark _))
        (pss_one (ps_ret (pe_call G_weighed (hr.mono (by decide)) (by rfl) T.g_weighed T.F_weighed.kp T.b_weighed .nil pass0 (pa_cons (pv 0) (pa_cons (pv 1) pa_nil)))))
        pss_nil)
      (pss_cons (ps_if (pt_cmpR op_eq (pv 2) pe_str (nomark _))
        (pss_one (ps_ret (pe_callB (call_min2 rfl) (by rfl) T.m_min (by decide +kernel) (pa_cons (pe_call G_weighed (hr.mono (by decide)) (by rfl) T.g_weighed T.F_weighed.kp T.b_weighed .nil pass0 (pa_cons (pv 0) (pa_cons (pv 1) pa_nil))) (pa_cons (pe_ix ix_tup (pv 0) pe_int (fun _ _ => rfl)) pa_nil)))))
        pss_nil)
      (pss_cons (ps_setLc (i := 3) (own := [("person", 4), ("number", 5)]) (g := gTup K 2 (gCons (gName 4) (gCons (gName 5) gNil))) (by rfl) sc_told_of.nd rfl rfl (sw_true rfl rfl rfl (by decide +kernel)) (pi_list (pv 1)) (blkOk_by (own := [("person", 4), ("number", 5)]) (N := n_told_of) (sc := defScope s_told_of) (by decide +kernel)) (fun _ _ _ _ _ => (pg_tup rfl (pgs_cons (pg_name (i := 4) sc_told_of.nd rfl (.inl rfl) (.inr rfl)) (pgs_cons (pg_name (i := 5) sc_told_of.nd rfl (.inl rfl) (.inr rfl)) pgs_nil)))) (fun _ _ _ _ _ => pts_nil) (fun _ _ _ _ _ => (pv 5)))
      (pss_cons (ps_if (pt_cmpR op_eq (pv 2) pe_str (nomark _))
        (pss_one (ps_ret (pe_op op_add (pe_ix ix_tup (pv 0) pe_int (fun _ _ => rfl)) (pe_callB cr_lenSet (by rfl) T.m_len (by decide +kernel) (pa_cons (pe_callTy (cr_setL rfl) (by rfl) T.m_set (by decide +kernel) (pa_cons (pv 3) pa_nil)) pa_nil)))))
        pss_nil)
      (pss_cons (ps_if (pt_cmpR op_eq (pv 2) pe_str (nomark _))
        (pss_one (ps_ret (pe_op op_add (pe_callBK (cr_maxD rfl hr.units) (by rfl) T.m_max (by decide +kernel) (pa_cons (pv 3) pa_nil) (pk_cons (pe_un un_neg pe_int) pk_nil)) pe_int)))
        pss_nil)
      (pss_one (ps_ret (pe_call G_least_free (hr.mono (by decide)) (by rfl) T.g_least_free T.F_least_free.kp T.b_least_free .nil pass0 (pa_cons (pv 3) pa_nil))))))))))), ?_⟩
      cases r with
      | held n =>
        obtain ⟨a, rfl, ha⟩ := hv
        refine ⟨.ref a, rfl, a, _, 0, _, rfl, rfl, .inl (.inl ha), rfl, ?_⟩
        refine ⟨_, rfl, rfl, _, rfl, iteP (by decide +kernel) ?_⟩
        exact ⟨.ref a, rfl, a, _, 1, _, rfl, rfl, .inl (.inl ha), rfl, q n H (Same.refl H) rfl⟩
      | sum own ties =>
        obtain ⟨a, t, rfl, ha, hT⟩ := hv
        obtain ⟨_, rs, _⟩ := wf
        refine ⟨.ref a, rfl, a, _, 0, _, rfl, rfl, .inl (.inl ha), rfl, ?_⟩
        refine ⟨_, rfl, rfl, _, rfl, iteN (by decide +kernel) ?_⟩
        refine ⟨_, rfl, rfl, _, rfl, iteP (by decide +kernel) ?_⟩
        refine ⟨.ref a, rfl, .ref b, rfl, a, t, .ref b, _, own, [], ties, lot, rfl, ha, hT, rs.nodup, ⟨b, qs, rfl, .inl hb, pq, lq⟩, sub, fun H3 s3 => ?_⟩
        exact q _ H3 s3 rfl
      | cap own ties most =>
        obtain ⟨a, t, rfl, ha, hT⟩ := hv
        obtain ⟨_, rs, _⟩ := wf
        refine ⟨.ref a, rfl, a, _, 0, _, rfl, rfl, .inl (.inl ha), rfl, ?_⟩
        refine ⟨_, rfl, rfl, _, rfl, iteN (by decide +kernel) ?_⟩
        refine ⟨_, rfl, rfl, _, rfl, iteN (by decide +kernel) ?_⟩
        refine ⟨_, rfl, rfl, _, rfl, iteP (by decide +kernel) ?_⟩
        refine ⟨.ref a, rfl, .ref b, rfl, a, t, .ref b, _, own, [.int most], ties, lot, rfl, ha, hT, rs.nodup, ⟨b, qs, rfl, .inl hb, pq, lq⟩, sub, fun H3 s3 => ?_⟩
        refine ⟨.ref a, rfl, a, _, 3, _, rfl, rfl, .inl (.inl (s3 _ _ ha)), rfl, _, _, rfl, q _ H3 s3 ?_⟩
        show (if most < own + (lot.map fun q => wgt ties q.1).sum then most else own + (lot.map fun q => wgt ties q.1).sum) = min (own + (lot.map fun q => wgt ties q.1).sum) most
        split <;> omega
      | kinds own seen =>
        obtain ⟨a, t, rfl, ha, hT⟩ := hv
        refine ⟨.ref a, rfl, a, _, 0, _, rfl, rfl, .inl (.inl ha), rfl, ?_⟩
        refine ⟨_, rfl, rfl, _, rfl, iteN (by decide +kernel) ?_⟩
        refine ⟨_, rfl, rfl, _, rfl, iteN (by decide +kernel) ?_⟩
        refine ⟨_, rfl, rfl, _, rfl, iteN (by decide +kernel) ?_⟩
        refine ⟨.ref b, rfl, b, rfl, ⟨_, .inl (.inl hb)⟩, fun D hD => ?_⟩
        refine lc_pairs (·.2) (walk_listR qs) pq hD lq (fun H3 s3 => .inl (.inl (s3 _ _ hb))) (fun _ _ => rfl) (fun q _ H3 _ Q h => ⟨_, rfl, h⟩) (fun H3 s3 h3 => ?_)
        have hl3 : (lot.map (·.2)).length ≤ 1000 := by rw [List.length_map, ← pq.length]; exact lq
        refine ⟨_, rfl, rfl, _, rfl, iteP (by decide +kernel) ?_⟩
        refine ⟨.ref a, rfl, a, _, 1, _, rfl, rfl, .inl (.inl (s3 _ _ ha)), rfl, ?_⟩
        refine ⟨.ref D, rfl, D, _, rfl, .inl (.inl h3), hl3, fun p c ks np nd kl cl mem => ⟨p, _, c, rfl, upd_same, by omega, own, c, rfl, rfl, ?_⟩⟩
        exact q _ _ (s3.trans (same_upd np)) ⟨ks, nd, mem, by rw [kl]⟩
      | next seen =>
        obtain ⟨a, t, rfl, ha, hT⟩ := hv
        refine ⟨.ref a, rfl, a, _, 0, _, rfl, rfl, .inl (.inl ha), rfl, ?_⟩
        refine ⟨_, rfl, rfl, _, rfl, iteN (by decide +kernel) ?_⟩
        refine ⟨_, rfl, rfl, _, rfl, iteN (by decide +kernel) ?_⟩
        refine ⟨_, rfl, rfl, _, rfl, iteN (by decide +kernel) ?_⟩
        refine ⟨.ref b, rfl, b, rfl, ⟨_, .inl (.inl hb)⟩, fun D hD => ?_⟩
        refine lc_pairs (·.2) (walk_listR qs) pq hD lq (fun H3 s3 => .inl (.inl (s3 _ _ hb))) (fun _ _ => rfl) (fun q _ H3 _ Q h => ⟨_, rfl, h⟩) (fun H3 s3 h3 => ?_)
        have hl3 : (lot.map (·.2)).length ≤ 1000 := by rw [List.length_map, ← pq.length]; exact lq
        refine ⟨_, rfl, rfl, _, rfl, iteN (by decide +kernel) ?_⟩
        refine ⟨_, rfl, rfl, _, rfl, iteP (by decide +kernel) ?_⟩
        refine ⟨.ref D, rfl, 1, rfl, D, _, -1, rfl, rfl, .inl (.inl h3), fun m h0 h1 => ⟨m, 1, rfl, rfl, q _ _ s3 ?_⟩⟩
        by_cases e : lot.map (·.2) = []
        · exact .inl ⟨List.map_eq_nil_iff.mp e, by rw [h0 e]; rfl⟩
        · obtain ⟨h2, h4⟩ := h1 e
          refine .inr ⟨?_, fun y hy => ?_⟩
          · rw [show m + 1 - 1 = m by omega]; exact h2
          · have := h4 y hy; omega
      | free seen =>
        obtain ⟨a, t, rfl, ha, hT⟩ := hv
        refine ⟨.ref a, rfl, a, _, 0, _, rfl, rfl, .inl (.inl ha), rfl, ?_⟩
        refine ⟨_, rfl, rfl, _, rfl, iteN (by decide +kernel) ?_⟩
        refine ⟨_, rfl, rfl, _, rfl, iteN (by decide +kernel) ?_⟩
        refine ⟨_, rfl, rfl, _, rfl, iteN (by decide +kernel) ?_⟩
        refine ⟨.ref b, rfl, b, rfl, ⟨_, .inl (.inl hb)⟩, fun D hD => ?_⟩
        refine lc_pairs (·.2) (walk_listR qs) pq hD lq (fun H3 s3 => .inl (.inl (s3 _ _ hb))) (fun _ _ => rfl) (fun q _ H3 _ Q h => ⟨_, rfl, h⟩) (fun H3 s3 h3 => ?_)
        have hl3 : (lot.map (·.2)).length ≤ 1000 := by rw [List.length_map, ← pq.length]; exact lq
        refine ⟨_, rfl, rfl, _, rfl, iteN (by decide +kernel) ?_⟩
        refine ⟨_, rfl, rfl, _, rfl, iteN (by decide +kernel) ?_⟩
        exact ⟨.ref D, rfl, D, _, rfl, .inl (.inl h3), fun x hx => q x _ s3 hx⟩
    · refine ⟨_, (pss_cons (ps_set (i := 2) sc_told_of.nd rfl (.inl rfl) (pe_ix ix_tup (pv 0) pe_int (fun _ _ => rfl)))
      (pss_cons (ps_if (pt_cmpR op_eq (pv 2) pe_str (nomark _))
        (pss_one (ps_ret (pe_ix ix_tup (pv 0) pe_int (fun _ _ => rfl))))
        pss_nil)
      (pss_cons (ps_if (pt_cmpR op_eq (pv 2) pe_str (nomark _))
        (pss_one (ps_ret (pe_call G_weighed (hr.mono (by decide)) (by rfl) T.g_weighed T.F_weighed.kp T.b_weighed .nil pass0 (pa_cons (pv 0) (pa_cons (pv 1) pa_nil)))))
        pss_nil)
      (pss_cons (ps_if (pt_cmpR op_eq (pv 2) pe_str (nomark _))
        (pss_one (ps_ret (pe_callB (call_min2 rfl) (by rfl) T.m_min (by decide +kernel) (pa_cons (pe_call G_weighed (hr.mono (by decide)) (by rfl) T.g_weighed T.F_weighed.kp T.b_weighed .nil pass0 (pa_cons (pv 0) (pa_cons (pv 1) pa_nil))) (pa_cons (pe_ix ix_tup (pv 0) pe_int (fun _ _ => rfl)) pa_nil)))))
        pss_nil)
      (pss_cons (ps_setLc (i := 3) (own := [("person", 4), ("number", 5)]) (g := gTup K 2 (gCons (gName 4) (gCons (gName 5) gNil))) (by rfl) sc_told_of.nd rfl rfl (sw_true rfl rfl rfl (by decide +kernel)) (pi_tup (pv 1)) (blkOk_by (own := [("person", 4), ("number", 5)]) (N := n_told_of) (sc := defScope s_told_of) (by decide +kernel)) (fun _ _ _ _ _ => (pg_tup rfl (pgs_cons (pg_name (i := 4) sc_told_of.nd rfl (.inl rfl) (.inr rfl)) (pgs_cons (pg_name (i := 5) sc_told_of.nd rfl (.inl rfl) (.inr rfl)) pgs_nil)))) (fun _ _ _ _ _ => pts_nil) (fun _ _ _ _ _ => (pv 5)))
      (pss_cons (ps_if (pt_cmpR op_eq (pv 2) pe_str (nomark _))
        (pss_one (ps_ret (pe_op op_add (pe_ix ix_tup (pv 0) pe_int (fun _ _ => rfl)) (pe_callB cr_lenSet (by rfl) T.m_len (by decide +kernel) (pa_cons (pe_callTy (cr_setL rfl) (by rfl) T.m_set (by decide +kernel) (pa_cons (pv 3) pa_nil)) pa_nil)))))
        pss_nil)
      (pss_cons (ps_if (pt_cmpR op_eq (pv 2) pe_str (nomark _))
        (pss_one (ps_ret (pe_op op_add (pe_callBK (cr_maxD rfl hr.units) (by rfl) T.m_max (by decide +kernel) (pa_cons (pv 3) pa_nil) (pk_cons (pe_un un_neg pe_int) pk_nil)) pe_int)))
        pss_nil)
      (pss_one (ps_ret (pe_call G_least_free (hr.mono (by decide)) (by rfl) T.g_least_free T.F_least_free.kp T.b_least_free .nil pass0 (pa_cons (pv 3) pa_nil))))))))))), ?_⟩
      cases r with
      | held n =>
        obtain ⟨a, rfl, ha⟩ := hv
        refine ⟨.ref a, rfl, a, _, 0, _, rfl, rfl, .inl (.inl ha), rfl, ?_⟩
        refine ⟨_, rfl, rfl, _, rfl, iteP (by decide +kernel) ?_⟩
        exact ⟨.ref a, rfl, a, _, 1, _, rfl, rfl, .inl (.inl ha), rfl, q n H (Same.refl H) rfl⟩
      | sum own ties =>
        obtain ⟨a, t, rfl, ha, hT⟩ := hv
        obtain ⟨_, rs, _⟩ := wf
        refine ⟨.ref a, rfl, a, _, 0, _, rfl, rfl, .inl (.inl ha), rfl, ?_⟩
        refine ⟨_, rfl, rfl, _, rfl, iteN (by decide +kernel) ?_⟩
        refine ⟨_, rfl, rfl, _, rfl, iteP (by decide +kernel) ?_⟩
        refine ⟨.ref a, rfl, .ref b, rfl, a, t, .ref b, _, own, [], ties, lot, rfl, ha, hT, rs.nodup, ⟨b, qs, rfl, .inr hb, pq, lq⟩, sub, fun H3 s3 => ?_⟩
        exact q _ H3 s3 rfl
      | cap own ties most =>
        obtain ⟨a, t, rfl, ha, hT⟩ := hv
        obtain ⟨_, rs, _⟩ := wf
        refine ⟨.ref a, rfl, a, _, 0, _, rfl, rfl, .inl (.inl ha), rfl, ?_⟩
        refine ⟨_, rfl, rfl, _, rfl, iteN (by decide +kernel) ?_⟩
        refine ⟨_, rfl, rfl, _, rfl, iteN (by decide +kernel) ?_⟩
        refine ⟨_, rfl, rfl, _, rfl, iteP (by decide +kernel) ?_⟩
        refine ⟨.ref a, rfl, .ref b, rfl, a, t, .ref b, _, own, [.int most], ties, lot, rfl, ha, hT, rs.nodup, ⟨b, qs, rfl, .inr hb, pq, lq⟩, sub, fun H3 s3 => ?_⟩
        refine ⟨.ref a, rfl, a, _, 3, _, rfl, rfl, .inl (.inl (s3 _ _ ha)), rfl, _, _, rfl, q _ H3 s3 ?_⟩
        show (if most < own + (lot.map fun q => wgt ties q.1).sum then most else own + (lot.map fun q => wgt ties q.1).sum) = min (own + (lot.map fun q => wgt ties q.1).sum) most
        split <;> omega
      | kinds own seen =>
        obtain ⟨a, t, rfl, ha, hT⟩ := hv
        refine ⟨.ref a, rfl, a, _, 0, _, rfl, rfl, .inl (.inl ha), rfl, ?_⟩
        refine ⟨_, rfl, rfl, _, rfl, iteN (by decide +kernel) ?_⟩
        refine ⟨_, rfl, rfl, _, rfl, iteN (by decide +kernel) ?_⟩
        refine ⟨_, rfl, rfl, _, rfl, iteN (by decide +kernel) ?_⟩
        refine ⟨.ref b, rfl, b, rfl, ⟨_, hb.sq⟩, fun D hD => ?_⟩
        refine lc_pairs (·.2) (walk_tupR qs) pq hD lq (fun H3 s3 => (hb.keep (Keep.same s3)).sq) (fun _ _ => rfl) (fun q _ H3 _ Q h => ⟨_, rfl, h⟩) (fun H3 s3 h3 => ?_)
        have hl3 : (lot.map (·.2)).length ≤ 1000 := by rw [List.length_map, ← pq.length]; exact lq
        refine ⟨_, rfl, rfl, _, rfl, iteP (by decide +kernel) ?_⟩
        refine ⟨.ref a, rfl, a, _, 1, _, rfl, rfl, .inl (.inl (s3 _ _ ha)), rfl, ?_⟩
        refine ⟨.ref D, rfl, D, _, rfl, .inl (.inl h3), hl3, fun p c ks np nd kl cl mem => ⟨p, _, c, rfl, upd_same, by omega, own, c, rfl, rfl, ?_⟩⟩
        exact q _ _ (s3.trans (same_upd np)) ⟨ks, nd, mem, by rw [kl]⟩
      | next seen =>
        obtain ⟨a, t, rfl, ha, hT⟩ := hv
        refine ⟨.ref a, rfl, a, _, 0, _, rfl, rfl, .inl (.inl ha), rfl, ?_⟩
        refine ⟨_, rfl, rfl, _, rfl, iteN (by decide +kernel) ?_⟩
        refine ⟨_, rfl, rfl, _, rfl, iteN (by decide +kernel) ?_⟩
        refine ⟨_, rfl, rfl, _, rfl, iteN (by decide +kernel) ?_⟩
        refine ⟨.ref b, rfl, b, rfl, ⟨_, hb.sq⟩, fun D hD => ?_⟩
        refine lc_pairs (·.2) (walk_tupR qs) pq hD lq (fun H3 s3 => (hb.keep (Keep.same s3)).sq) (fun _ _ => rfl) (fun q _ H3 _ Q h => ⟨_, rfl, h⟩) (fun H3 s3 h3 => ?_)
        have hl3 : (lot.map (·.2)).length ≤ 1000 := by rw [List.length_map, ← pq.length]; exact lq
        refine ⟨_, rfl, rfl, _, rfl, iteN (by decide +kernel) ?_⟩
        refine ⟨_, rfl, rfl, _, rfl, iteP (by decide +kernel) ?_⟩
        refine ⟨.ref D, rfl, 1, rfl, D, _, -1, rfl, rfl, .inl (.inl h3), fun m h0 h1 => ⟨m, 1, rfl, rfl, q _ _ s3 ?_⟩⟩
        by_cases e : lot.map (·.2) = []
        · exact .inl ⟨List.map_eq_nil_iff.mp e, by rw [h0 e]; rfl⟩
        · obtain ⟨h2, h4⟩ := h1 e
          refine .inr ⟨?_, fun y hy => ?_⟩
          · rw [show m + 1 - 1 = m by omega]; exact h2
          · have := h4 y hy; omega
      | free seen =>
        obtain ⟨a, t, rfl, ha, hT⟩ := hv
        refine ⟨.ref a, rfl, a, _, 0, _, rfl, rfl, .inl (.inl ha), rfl, ?_⟩
        refine ⟨_, rfl, rfl, _, rfl, iteN (by decide +kernel) ?_⟩
        refine ⟨_, rfl, rfl, _, rfl, iteN (by decide +kernel) ?_⟩
        refine ⟨_, rfl, rfl, _, rfl, iteN (by decide +kernel) ?_⟩
        refine ⟨.ref b, rfl, b, rfl, ⟨_, hb.sq⟩, fun D hD => ?_⟩
        refine lc_pairs (·.2) (walk_tupR qs) pq hD lq (fun H3 s3 => (hb.keep (Keep.same s3)).sq) (fun _ _ => rfl) (fun q _ H3 _ Q h => ⟨_, rfl, h⟩) (fun H3 s3 h3 => ?_)
        have hl3 : (lot.map (·.2)).length ≤ 1000 := by rw [List.length_map, ← pq.length]; exact lq
        refine ⟨_, rfl, rfl, _, rfl, iteN (by decide +kernel) ?_⟩
        refine ⟨_, rfl, rfl, _, rfl, iteN (by decide +kernel) ?_⟩
        exact ⟨.ref D, rfl, D, _, rfl, .inl (.inl h3), fun x hx => q x _ s3 hx⟩
end
end Lh

namespace Lh
open PySem PySem.Spec PyProof.Rows L2
section
variable {P : Program} {w : World} {K : PySem.W.Frag} {mg : Str → Option Value} {base : Heap}
def spLotBelow (C : Addr) : Sp := fun vs H Q _ => ∃ (x st : Addr) (p : Nat) (h : Int) (rs : List Rule) (ns : List Int) (hp : p < rs.length), vs = [.ref x, .ref st, .int p, .int h] ∧ HallAt C H x rs ∧ Halls rs ∧ TupAt H st (ns.map V.int) ∧ ns.length = rs.length ∧
  ∀ (l : Addr) (ps : List Addr) (H' : Hp), Same H H' → H l = none → H' l = some (.lst (ps.map V.ref)) → Paired (PairAtH H') ps (lotH rs[p] ns h) → Q (.ref l) H'
set_option maxHeartbeats 1000000 in
theorem ok_lot_below (T : Txt K mg w) : FnOk P w K mg base CX0 4 T.f_lot_below T.fd_lot_below p_lot_below (spLotBelow T.C_Hall) := by
  have G_Hall_sees := ok_Hall_sees (P := P) (w := w) (base := base) T
  refine T.F_lot_below.ok sc_lot_below (fun vs H Q E h0 => ?_) (fun cdv A outer s H vs Q E hr h0 => ?_)
  · obtain ⟨x, st, p, h, rs, ns, hp, rfl, _⟩ := h0
    rfl
  · obtain ⟨x, st, p, h, rs, ns, hp, rfl, hA, hh, hS, hn, q⟩ := h0
    obtain ⟨dx, t, vs, hx, ht, hv⟩ := id hA
    have few := hh.few hp
    have inr := per_in hh hp
    refine ⟨_, (pss_one (ps_ret (pe_lc (own := [("other", 4)]) (g := gName 4) (by rfl) sc_lot_below.nd (pi_list (pe_meth (pv 0) T.cl_Hall T.me_Hall_sees G_Hall_sees (hr.mono (by decide)) T.b_Hall_sees .nil pass0 (pa_cons (pv 2) pa_nil))) (blkOk_by (own := [("other", 4)]) (N := n_lot_below) (sc := defScope s_lot_below) (by decide +kernel)) (fun _ _ _ _ _ => (pg_name (i := 4) sc_lot_below.nd rfl (.inl rfl) (.inr rfl))) (fun _ _ _ _ _ => (pts_one (pt_cmpR op_lt (pe_ix (r := rIxT K) ix_tup (pv 1) (pv 4) (fun _ _ => rfl)) (pv 3) (nomark _)))) (fun _ _ _ _ _ => (pe_tup (pa_cons (pv 4) (pa_cons (pe_ix (r := rIxT K) ix_tup (pv 1) (pv 4) (fun _ _ => rfl)) pa_nil))))))), ?_⟩
    refine ⟨.ref x, rfl, x, dx, _, rfl, hx, kept_no _ (by decide +kernel), .int p, rfl, x, p, rs, hp, rfl, hA, hh, fun l H1 s1 nl hl => ?_⟩
    have hS1 := hS.keep (Keep.same s1)
    refine ⟨l, rfl, ⟨_, .inl (.inl hl)⟩, fun D hD => ?_⟩
    refine lc_it (walk_list (xs := rs[p].persons.map V.int)) (fun n H3 => ∃ ps : List Addr, Same H1 H3 ∧ H3 D = some (.lst (ps.map V.ref)) ∧ Paired (PairAtH H3) ps (((rs[p].persons.take n).filter fun o => decide (nth ns o < h)).map fun o => (o, nth ns o))) ⟨[], same_upd hD, upd_same, .nil⟩ ?_ ?_ ?_
    · rintro n H3 _ ⟨ps, s3, _⟩
      exact .inl (.inl (s3 _ _ hl))
    · rintro n y H3 H4 hi ⟨ps, s3, h3, pr⟩ ⟨rfl, hy⟩
      rw [List.length_map] at hi
      rw [List.getElem?_map, List.getElem?_eq_getElem hi] at hy
      cases hy
      have io := inr _ (List.getElem_mem hi)
      have hS3 := hS1.keep (Keep.same s3)
      have tk : rs[p].persons.take (n + 1) = rs[p].persons.take n ++ [rs[p].persons[n]] := by rw [List.take_add_one, List.getElem?_eq_getElem hi]; rfl
      have pl : ps.length ≤ n := by
        rw [pr.length, List.length_map]
        refine Nat.le_trans (List.length_filter_le _ _) ?_
        rw [List.length_take]; omega
      refine ⟨rfl, ?_⟩
      refine ⟨.ref st, rfl, .int rs[p].persons[n], rfl, st, _, _, _, rfl, rfl, hS3.sq, nth_at io.1 (by omega), .int h, rfl, _, _, rfl, rfl, _, rfl, ite2 (fun z => ?_) (fun z => ?_)⟩
      · refine ⟨.int rs[p].persons[n], rfl, .ref st, rfl, .int rs[p].persons[n], rfl, st, _, _, _, rfl, rfl, hS3.sq, nth_at io.1 (by omega), by show 2 ≤ sizeLine; decide, fun u nu => ?_⟩
        have sU := same_upd (o := .tup [.int rs[p].persons[n], .int (nth ns rs[p].persons[n])]) nu
        have h5 := sU _ _ h3
        refine ⟨_, h5, by rw [List.length_map]; exact small1000 (by omega), ps ++ [u], same_mut (s3.trans sU) hD, ?_, ?_⟩
        · rw [upd_same, List.map_append]; rfl
        · rw [tk, List.filter_append, List.map_append, List.filter_cons, if_pos z]
          have kT : Keep (upd H4 u (.tup [.int rs[p].persons[n], .int (nth ns rs[p].persons[n])])) (upd (upd H4 u (.tup [.int rs[p].persons[n], .int (nth ns rs[p].persons[n])])) D (.lst (ps.map V.ref ++ [.ref u]))) := by
            refine ⟨fun a xs h => ?_, fun a o u h => ?_⟩
            · rw [upd_ne (ne_of h h5 (by intro z; cases z))]; exact h
            · rw [upd_ne (ne_of h h5 (by intro z; cases z))]; exact h
          exact Paired.snoc (R := PairAtH _) (show PairAtH _ _ _ from kT.tup _ _ upd_same) (pairs_keep ((Keep.same sU).trans kT) pr)
      · refine ⟨ps, s3, h3, ?_⟩
        rw [tk, List.filter_append, List.filter_cons, if_neg z, List.filter_nil, List.append_nil]
        exact pr
    · rintro H3 ⟨ps, s3, h3, pr⟩
      rw [List.length_map, List.take_length] at pr
      exact q D ps H3 (s1.trans s3) (s1.free hD) h3 pr
def spToldBelow (C : Addr) : Sp := fun vs H Q _ => ∃ (x st : Addr) (p : Nat) (h : Int) (rs : List Rule) (ns : List Int) (hp : p < rs.length), vs = [.ref x, .ref st, .int p, .int h] ∧ HallAt C H x rs ∧ Halls rs ∧ TupAt H st (ns.map V.int) ∧ ns.length = rs.length ∧
  ∀ (y : Int) (H' : Hp), Same H H' → Tell rs[p] (lotH rs[p] ns h) y → Q (.int y) H'
theorem ok_told_below (T : Txt K mg w) : FnOk P w K mg base CX0 5 T.f_told_below T.fd_told_below p_told_below (spToldBelow T.C_Hall) := by
  have G_Hall_rule := ok_Hall_rule (P := P) (w := w) (base := base) T
  have G_lot_below := ok_lot_below (P := P) (w := w) (base := base) T
  have G_told_of := ok_told_of (P := P) (w := w) (base := base) T
  refine T.F_told_below.ok sc_told_below (fun vs H Q E h0 => ?_) (fun cdv A outer s H vs Q E hr h0 => ?_)
  · obtain ⟨x, st, p, h, rs, ns, hp, rfl, _⟩ := h0
    rfl
  · obtain ⟨x, st, p, h, rs, ns, hp, rfl, hA, hh, hS, hn, q⟩ := h0
    obtain ⟨dx, t, vs, hx, ht, hv⟩ := id hA
    have few := hh.few hp
    refine ⟨_, (pss_one (ps_ret (pe_call G_told_of (hr.mono (by decide)) (by rfl) T.g_told_of T.F_told_of.kp T.b_told_of .nil pass0 (pa_cons (pe_meth (pv 0) T.cl_Hall T.me_Hall_rule G_Hall_rule (hr.mono (by decide)) T.b_Hall_rule .nil pass0 (pa_cons (pv 2) pa_nil)) (pa_cons (pe_call G_lot_below (hr.mono (by decide)) (by rfl) T.g_lot_below T.F_lot_below.kp T.b_lot_below .nil pass0 (pa_cons (pv 0) (pa_cons (pv 1) (pa_cons (pv 2) (pa_cons (pv 3) pa_nil))))) pa_nil))))), ?_⟩
    refine ⟨.ref x, rfl, x, dx, _, rfl, hx, kept_no _ (by decide +kernel), .int p, rfl, x, p, rs, hp, rfl, hA, fun v rv => ?_⟩
    refine ⟨.ref x, rfl, .ref st, rfl, .int p, rfl, .int h, rfl, x, st, p, h, rs, ns, hp, rfl, hA, hh, hS, hn, fun l ps H1 s1 nl hl pr => ?_⟩
    refine ⟨v, .ref l, rs[p], rs.length, _, rfl, rv.keep (Keep.same s1), hh.2.2 _ (List.getElem_mem hp), ⟨l, ps, rfl, .inl hl, pr, ?_⟩, lotH_in, fun y H2 s2 tl => q y H2 (s1.trans s2) tl⟩
    rw [pr.length]
    unfold lotH
    rw [List.length_map]
    exact Nat.le_trans (List.length_filter_le _ _) (by omega)
def spToldAt (C : Addr) : Sp := fun vs H Q _ => ∃ (x st : Addr) (p : Nat) (rs : List Rule) (ns : List Int) (h : p < rs.length), vs = [.ref x, .ref st, .int p] ∧ HallAt C H x rs ∧ Halls rs ∧ TupAt H st (ns.map V.int) ∧ ns.length = rs.length ∧
  ∀ (y : Int) (H' : Hp), Same H H' → Tell rs[p] (lotI rs[p] ns p) y → Q (.int y) H'
theorem ok_told_at (T : Txt K mg w) : FnOk P w K mg base CX0 6 T.f_told_at T.fd_told_at p_told_at (spToldAt T.C_Hall) := by
  have G_told_below := ok_told_below (P := P) (w := w) (base := base) T
  refine T.F_told_at.ok sc_told_at (fun vs H Q E h => ?_) (fun cdv A outer s H vs Q E hr h => ?_)
  · obtain ⟨x, st, p, rs, ns, hp, rfl, _⟩ := h
    rfl
  · obtain ⟨x, st, p, rs, ns, hp, rfl, hA, hh, hS, hn, q⟩ := h
    refine ⟨_, (pss_one (ps_ret (pe_call G_told_below (hr.mono (by decide)) (by rfl) T.g_told_below T.F_told_below.kp T.b_told_below .nil pass0 (pa_cons (pv 0) (pa_cons (pv 1) (pa_cons (pv 2) (pa_cons (pe_ix ix_tup (pv 1) (pv 2) (fun _ _ => rfl)) pa_nil))))))), ?_⟩
    exact ⟨.ref x, rfl, .ref st, rfl, .int p, rfl, .ref st, rfl, .int p, rfl, st, _, _, _, rfl, rfl, hS.sq, nth_at (by omega) (by omega), x, st, p, nth ns p, rs, ns, hp, rfl, hA, hh, hS, hn, fun y H1 s1 tl => q y H1 s1 tl⟩
end
end Lh

namespace Lh
open PySem PySem.Spec PyProof.Rows L2
section
variable {P : Program} {w : World} {K : PySem.W.Frag} {mg : Str → Option Value} {base : Heap}
def spTurned (C : Addr) : Sp := fun vs H Q _ => ∃ (x st l : Addr) (rs : List Rule) (ns qs : List Int), vs = [.ref x, .ref st, .ref l] ∧ HallAt C H x rs ∧ Halls rs ∧ TupAt H st (ns.map V.int) ∧ ns.length = rs.length ∧ (H l = some (.lst (qs.map V.int)) ∨ TupAt H l (qs.map V.int)) ∧ (∀ q ∈ qs, 0 ≤ q ∧ q < rs.length) ∧
  ∀ (t : Addr) (ms : List Int) (H' : Hp), Same H H' → H t = none → TupAt H' t (ms.map V.int) → Turned rs ns (fun i => i ∈ qs) ms → Q (.ref t) H'
set_option maxHeartbeats 2000000 in
theorem ok_turned (T : Txt K mg w) : FnOk P w K mg base CX0 7 T.f_turned T.fd_turned p_turned (spTurned T.C_Hall) := by
  have G_told_at := ok_told_at (P := P) (w := w) (base := base) T
  refine T.F_turned.ok sc_turned (fun vs H Q E h => ?_) (fun cdv A outer s H vs Q E hr h => ?_)
  · obtain ⟨x, st, l, rs, ns, qs, rfl, _⟩ := h
    rfl
  · obtain ⟨x, st, l, rs, ns, qs, rfl, hA, hh, hS, hn, hl, hq, q⟩ := h
    rcases hl with hl | hl
    · refine ⟨_, (pss_cons (ps_set (i := 3) sc_turned.nd rfl (.inl rfl) (pe_callTy call_list_of (by rfl) T.m_list (by decide +kernel) (pa_cons (pv 1) pa_nil)))
      (pss_cons (ps_for PassesOwn.never rfl (pi_list (pv 2)) (pg_name (i := 4) sc_turned.nd rfl (.inl rfl))
        (pss_one (ps_asg (pe_call G_told_at (hr.mono (by decide)) (by rfl) T.g_told_at T.F_told_at.kp T.b_told_at .nil pass0 (pa_cons (pv 0) (pa_cons (pv 1) (pa_cons (pv 4) pa_nil)))) (pg_sub (pv 3) (pv 4) set_list))))
      (pss_one (ps_ret (pe_callTy call_tupleF (by rfl) T.m_tuple (by decide +kernel) (pa_cons (pv 3) pa_nil)))))), ?_⟩
      refine ⟨.ref st, rfl, st, _, rfl, .inr hS.sq, fun d nd => ?_⟩
      have s0 := same_upd (o := .lst (ns.map V.int)) nd
      refine ⟨.ref l, rfl, l, rfl, ⟨_, .inl (.inl (s0 _ _ hl))⟩, ?_⟩
      refine for_it (walk_list (xs := qs.map V.int)) (fun i σ H3 => ∃ (y : Option V) (ms : List Int), σ = [some (.ref x), some (.ref st), some (.ref l), some (.ref d), y] ∧ Same H H3 ∧ H3 d = some (.lst (ms.map V.int)) ∧ Turned rs ns (fun j => j ∈ qs.take i) ms) ⟨Option.none, ns, rfl, s0, upd_same, Turned.none fun i z => by simp at z⟩ ?_ ?_ ?_
      · rintro i σ H3 _ ⟨y, ms, rfl, s3, _⟩
        exact .inl (.inl (s3 _ _ hl))
      · rintro i v σ H3 H4 hi ⟨y, ms, rfl, s3, h3, t3⟩ ⟨rfl, hv⟩
        rw [List.length_map] at hi
        rw [List.getElem?_map, List.getElem?_eq_getElem hi] at hv
        cases hv
        have io := hq _ (List.getElem_mem hi)
        obtain ⟨p, ep⟩ : ∃ p : Nat, qs[i] = (p : Int) := ⟨qs[i].toNat, by omega⟩
        have hp : p < rs.length := by omega
        rw [ep]
        refine ⟨.ref x, rfl, .ref st, rfl, .int p, rfl, x, st, p, rs, ns, hp, rfl, hA.keep s3, hh, hS.keep (Keep.same s3), hn, fun z H5 s5 tl => ?_⟩
        refine ⟨.ref d, rfl, .int p, rfl, d, _, _, p, rfl, rfl, s5 _ _ h3, ixN_at (by rw [List.length_map, t3.1]; omega), ?_⟩
        refine ⟨_, ms.set p z, rfl, same_mut (s3.trans s5) nd, by rw [upd_same, List.map_set], t3.step hn hp tl fun j => ?_⟩
        rw [List.take_add_one, List.getElem?_eq_getElem hi, ep]
        simp
        exact ⟨fun h => h.imp_right fun e => by omega, fun h => h.imp_right fun e => by omega⟩
      · rintro σ H3 ⟨y, ms, rfl, s3, h3, t3⟩
        rw [List.length_map, List.take_length] at t3
        refine ⟨.ref d, rfl, d, _, rfl, .inl (.inl h3), fun t o nt od => ?_⟩
        exact q t ms _ (s3.trans (same_upd nt)) (s3.free nt) (.inr ⟨o, od, upd_same⟩) t3
    · refine ⟨_, (pss_cons (ps_set (i := 3) sc_turned.nd rfl (.inl rfl) (pe_callTy call_list_of (by rfl) T.m_list (by decide +kernel) (pa_cons (pv 1) pa_nil)))
      (pss_cons (ps_for PassesOwn.never rfl (pi_tup (pv 2)) (pg_name (i := 4) sc_turned.nd rfl (.inl rfl))
        (pss_one (ps_asg (pe_call G_told_at (hr.mono (by decide)) (by rfl) T.g_told_at T.F_told_at.kp T.b_told_at .nil pass0 (pa_cons (pv 0) (pa_cons (pv 1) (pa_cons (pv 4) pa_nil)))) (pg_sub (pv 3) (pv 4) set_list))))
      (pss_one (ps_ret (pe_callTy call_tupleF (by rfl) T.m_tuple (by decide +kernel) (pa_cons (pv 3) pa_nil)))))), ?_⟩
      refine ⟨.ref st, rfl, st, _, rfl, .inr hS.sq, fun d nd => ?_⟩
      have s0 := same_upd (o := .lst (ns.map V.int)) nd
      refine ⟨.ref l, rfl, l, rfl, ⟨_, (hl.keep (Keep.same s0)).sq⟩, ?_⟩
      refine for_it (walk_tup (xs := qs.map V.int)) (fun i σ H3 => ∃ (y : Option V) (ms : List Int), σ = [some (.ref x), some (.ref st), some (.ref l), some (.ref d), y] ∧ Same H H3 ∧ H3 d = some (.lst (ms.map V.int)) ∧ Turned rs ns (fun j => j ∈ qs.take i) ms) ⟨Option.none, ns, rfl, s0, upd_same, Turned.none fun i z => by simp at z⟩ ?_ ?_ ?_
      · rintro i σ H3 _ ⟨y, ms, rfl, s3, _⟩
        exact (hl.keep (Keep.same s3)).sq
      · rintro i v σ H3 H4 hi ⟨y, ms, rfl, s3, h3, t3⟩ ⟨rfl, hv⟩
        rw [List.length_map] at hi
        rw [List.getElem?_map, List.getElem?_eq_getElem hi] at hv
        cases hv
        have io := hq _ (List.getElem_mem hi)
        obtain ⟨p, ep⟩ : ∃ p : Nat, qs[i] = (p : Int) := ⟨qs[i].toNat, by omega⟩
        have hp : p < rs.length := by omega
        rw [ep]
        refine ⟨.ref x, rfl, .ref st, rfl, .int p, rfl, x, st, p, rs, ns, hp, rfl, hA.keep s3, hh, hS.keep (Keep.same s3), hn, fun z H5 s5 tl => ?_⟩
        refine ⟨.ref d, rfl, .int p, rfl, d, _, _, p, rfl, rfl, s5 _ _ h3, ixN_at (by rw [List.length_map, t3.1]; omega), ?_⟩
        refine ⟨_, ms.set p z, rfl, same_mut (s3.trans s5) nd, by rw [upd_same, List.map_set], t3.step hn hp tl fun j => ?_⟩
        rw [List.take_add_one, List.getElem?_eq_getElem hi, ep]
        simp
        exact ⟨fun h => h.imp_right fun e => by omega, fun h => h.imp_right fun e => by omega⟩
      · rintro σ H3 ⟨y, ms, rfl, s3, h3, t3⟩
        rw [List.length_map, List.take_length] at t3
        refine ⟨.ref d, rfl, d, _, rfl, .inl (.inl h3), fun t o nt od => ?_⟩
        exact q t ms _ (s3.trans (same_upd nt)) (s3.free nt) (.inr ⟨o, od, upd_same⟩) t3
end
end Lh

namespace Lh
open PySem PySem.Spec PyProof.Rows L2
section
variable {P : Program} {w : World} {K : PySem.W.Frag} {mg : Str → Option Value} {base : Heap}
def spBeaten (C : Addr) : Sp := fun vs H Q _ => ∃ (x st : Addr) (rs : List Rule) (ns : List Int), vs = [.ref x, .ref st] ∧ HallAt C H x rs ∧ Halls rs ∧ TupAt H st (ns.map V.int) ∧ ns.length = rs.length ∧
  ∀ (t : Addr) (ms : List Int) (H' : Hp), Same H H' → H t = none → TupAt H' t (ms.map V.int) → Beat rs ns ms → Q (.ref t) H'
theorem ok_beaten (T : Txt K mg w) : FnOk P w K mg base CX0 8 T.f_beaten T.fd_beaten p_beaten (spBeaten T.C_Hall) := by
  have G_turned := ok_turned (P := P) (w := w) (base := base) T
  have G_Hall_len := ok_Hall_len (P := P) (w := w) (base := base) T
  refine T.F_beaten.ok sc_beaten (fun vs H Q E h => ?_) (fun cdv A outer s H vs Q E hr h => ?_)
  · obtain ⟨x, st, rs, ns, rfl, _⟩ := h
    rfl
  · obtain ⟨x, st, rs, ns, rfl, hA, hh, hS, hn, q⟩ := h
    obtain ⟨dx, t0, vs0, hx, ht0, hv0⟩ := id hA
    have r1 := hh.2.1
    refine ⟨_, (pss_one (ps_ret (pe_call G_turned (hr.mono (by decide)) (by rfl) T.g_turned T.F_turned.kp T.b_turned .nil pass0 (pa_cons (pv 0) (pa_cons (pv 1) (pa_cons (pe_listRg (by rfl) (by rfl) T.m_list (prg_1 (by rfl) T.m_range (pe_callB (run_len T.me_Hall_len G_Hall_len T.b_Hall_len (hr.mono (by decide))) (by rfl) T.m_len (by decide +kernel) (pa_cons (pv 0) pa_nil)))) pa_nil)))))), ?_⟩
    refine ⟨.ref x, rfl, .ref st, rfl, .ref x, rfl, x, dx, _, rfl, hx, x, rs, rfl, hA, (rs.length : Int), rfl, by omega, Int.lt_of_le_of_lt (by omega : (rs.length : Int) ≤ 12) (by decide), (rs.length : Int), rfl, RgOk.of_le (by omega) (by omega) (by omega) (by omega), fun l nl => ?_⟩
    have s0 := same_upd (o := .lst (rgV 0 (rs.length : Int))) nl
    refine ⟨x, st, l, rs, ns, (List.range ((rs.length : Int)).toNat).map (fun k : Nat => (k : Int)), rfl, hA.keep s0, hh, hS.keep (Keep.same s0), hn, .inl (by rw [upd_same, rg_ints]), (rg_rising _ (by omega)).2, fun t ms H' s' nt ht tu => ?_⟩
    refine q t ms H' (s0.trans s') (s0.free nt) ht ⟨tu.1, fun i hi => ⟨fun _ => (tu.2 i hi).1 ?_, fun z => absurd trivial z⟩⟩
    exact List.mem_map.mpr ⟨i, List.mem_range.mpr (by omega), rfl⟩
end
end Lh

namespace Lh
open PySem PySem.Spec PyProof.Rows L2
theorem lc_onesL {K : PySem.W.Frag} {t : Addr} {seen : List Int} {H1 : Hp} {D : Addr} {σ : L2.St} {vs : List Nat} {Qd : Hp → Prop} {i : Nat} (ht : H1 t = some (.lst (seen.map V.int))) (hD : H1 D = none) (hl : seen.length ≤ 1000)
    (hw : ∀ a, wipe ((wipe σ vs).set i a) vs = wipe σ vs) (hi : ∀ a : V, ((wipe σ vs).set i (some a))[i]? = some (some a))
    (hq : ∀ H' ps, Same H1 H' → H' D = some (.lst (ps.map V.ref)) → Paired (PairAtH H') ps (seen.map fun n => (n, 1)) → Qd H') :
    ∃ W : Nat → Nat → Hp → Prop, (∃ m, W 0 m (upd H1 D (.lst []))) ∧ ∀ i1 m H, W i1 m H →
      ((Itl K t).stop i1 H ∧ Qd H) ∨ ((Itl K t).go i1 H ∧ ∃ Nx : Hp → Prop, (∀ H', Nx H' → ∃ m', m' < m ∧ W (i1 + 1) m' H') ∧ ∀ x H', (Itl K t).yld i1 H x H' → gName i x (wipe σ vs) H' fun σ2 H2 => wipe σ2 vs = wipe σ vs ∧ tYes σ2 H2 fun b H3 =>
        if b = true then tTup (tCons (tVar i) (tCons (tC (.int 1)) tNil)) σ2 H3 fun y H4 => ∃ acc, H4 D = some (.lst acc) ∧ acc.length < sizeLine ∧ Nx (upd H4 D (.lst (acc ++ [y]))) else Nx H3) := by
  refine lc_it (walk_list (xs := seen.map V.int)) (fun n H3 => ∃ ps : List Addr, Same H1 H3 ∧ H3 D = some (.lst (ps.map V.ref)) ∧ Paired (PairAtH H3) ps ((seen.take n).map fun n => (n, 1))) ⟨[], same_upd hD, upd_same, .nil⟩ ?_ ?_ ?_
  · rintro n H3 _ ⟨ps, sm, _⟩
    exact .inl (.inl (sm _ _ ht))
  · rintro n x H3 H4 hn ⟨ps, sm, h3, pr⟩ ⟨rfl, hx⟩
    rw [List.length_map] at hn
    rw [List.getElem?_map, List.getElem?_eq_getElem hn] at hx
    have ex : x = .int seen[n] := (Option.some.inj hx).symm
    subst ex
    have pl : ps.length = n := by rw [pr.length, List.length_map, List.length_take]; omega
    refine ⟨hw _, yes (iteT ⟨.int seen[n], hi _, by show 2 ≤ sizeLine; decide, fun p np => ?_⟩)⟩
    have nDp : D ≠ p := ne_of_none h3 np
    refine ⟨_, by rw [upd_ne nDp]; exact h3, by rw [List.length_map]; exact small1000 (by omega), ps ++ [p], ?_, ?_, ?_⟩
    · exact same_mut (sm.trans (same_upd np)) hD
    · rw [upd_same, List.map_append]; rfl
    · rw [List.take_add_one, List.getElem?_eq_getElem hn, List.map_append]
      have kT : Keep H4 (upd (upd H4 p (.tup [.int seen[n], .int 1])) D (.lst (ps.map V.ref ++ [.ref p]))) := by
        refine ⟨fun a xs h => ?_, fun a o u h => ?_⟩
        · rw [upd_ne (ne_of h h3 (by intro z; cases z)), upd_ne (ne_of_none h np)]; exact h
        · rw [upd_ne (ne_of h h3 (by intro z; cases z)), upd_ne (ne_of_none h np)]; exact h
      exact Paired.snoc (R := PairAtH _) (show PairAtH _ _ _ by show _ = _; rw [upd_ne nDp.symm]; exact upd_same) (pairs_keep kT pr)
  · rintro H3 ⟨ps, sm, h3, pr⟩
    rw [List.length_map, List.take_length] at pr
    exact hq H3 ps sm h3 pr
/-- a list at D put by for another -/
theorem keep_lst {H : Hp} {D : Addr} {xs ys : List V} (h : H D = some (.lst xs)) : Keep H (upd H D (.lst ys)) := by
  refine ⟨fun a xs h' => ?_, fun a o u h' => ?_⟩
  · rw [upd_ne (ne_of h' h (by intro z; cases z))]; exact h'
  · rw [upd_ne (ne_of h' h (by intro z; cases z))]; exact h'
theorem rules_of {H : Hp} {m : Int} : ∀ us : List V, (∀ (i : Nat) (h : i < us.length), ∃ r, RuleAt H us[i] r ∧ r.Wf m) → ∃ rs, RulesAt H us rs ∧ ∀ r ∈ rs, r.Wf m
  | [], _ => ⟨[], .nil, fun r h => absurd h (by simp)⟩
  | u :: us, h => by
    obtain ⟨r, h1, h2⟩ := h 0 (by simp)
    obtain ⟨rs, h3, h4⟩ := rules_of us (fun i hi => h (i + 1) (by simpa using hi))
    refine ⟨r :: rs, .cons h1 h3, fun x hx => ?_⟩
    rcases List.mem_cons.mp hx with rfl | hx
    · exact h2
    · exact h4 x hx
section
variable {P : Program} {w : World} {K : PySem.W.Frag} {mg : Str → Option Value} {base : Heap}
def spStrewn : Sp := fun vs H Q _ => ∃ (bx p : Addr) (c : Int) (ns : List Int), vs = [.ref bx, .ref p] ∧ c + ns.length ≤ 1000000000 ∧ ns.length ≤ 900 ∧ Box bx c H ∧ H p = some (.lst (ns.map V.int)) ∧ p ≠ bx ∧
  ∀ (l : Addr) (ms : List Int) (H' : Hp), Ext bx H H' → Box bx (c + ns.length) H' → H l = none → H' l = some (.lst (ms.map V.int)) → ms.Perm ns → Q (.ref l) H'
set_option maxHeartbeats 1000000 in
theorem ok_strewn (T : Txt K mg w) : FnOk P w K mg base CX0 2 T.f_strewn T.fd_strewn p_strewn spStrewn := by
  have G_take := ok_take (P := P) (w := w) (base := base) T
  refine T.F_strewn.ok sc_strewn (fun vs H Q E h => ?_) (fun cdv A outer s H vs Q E hr h => ?_)
  · obtain ⟨bx, p, c, ns, rfl, _⟩ := h
    rfl
  · obtain ⟨bx, p, c, ns, rfl, c1, hl, hB, hp, np, q⟩ := h
    refine ⟨_, (pss_cons (ps_set (i := 2) sc_strewn.nd rfl (.inl rfl) (pe_lst pa_nil))
      (pss_cons (ps_for PassesOwn.never rfl (pi_list (pv 1)) (pg_name (i := 3) sc_strewn.nd rfl (.inl rfl))
        (pss_one (ps_expr (pe_bm PySem.F.plainAttrs_list PySem.F.slot_list_insert PySem.F.type_list_insert mt_insert (pv 2) (pa_cons (pe_call G_take (hr.mono (by decide)) (by rfl) T.g_take T.F_take.kp T.b_take .nil pass0 (pa_cons (pv 0) (pa_cons (pe_op op_add (pe_callB call_len_seq (by rfl) T.m_len (by decide +kernel) (pa_cons (pv 2) pa_nil)) pe_int) pa_nil))) (pa_cons (pv 3) pa_nil))))))
      (pss_one (ps_ret (pv 2))))), ?_⟩
    refine ⟨by show 0 ≤ sizeLine; decide, fun l nl => ?_⟩
    have nlb := hB.ne nl
    refine ⟨.ref p, rfl, p, rfl, ⟨_, .inl (.inl (same_upd nl _ _ hp))⟩, ?_⟩
    refine for_it (walk_list (xs := ns.map V.int)) (fun i σ H3 => ∃ (y : Option V) (ms : List Int), σ = [some (.ref bx), some (.ref p), some (.ref l), y] ∧ Ext bx H H3 ∧ Box bx (c + i) H3 ∧ H3 l = some (.lst (ms.map V.int)) ∧ ms.Perm (ns.take i)) ⟨none, [], rfl, (Ext.refl _).new nl, by simpa using hB.new nl, upd_same, List.Perm.refl _⟩ ?_ ?_ ?_
    · rintro i σ H3 _ ⟨y, ms, rfl, e3, _⟩
      exact .inl (.inl (e3 _ _ np hp))
    · rintro i v σ H3 H4 hi ⟨y, ms, rfl, e3, b3, h3, pm⟩ ⟨rfl, hv⟩
      rw [List.length_map] at hi
      rw [List.getElem?_map, List.getElem?_eq_getElem hi] at hv
      cases hv
      have pl : ms.length = i := by rw [pm.length_eq, List.length_take]; omega
      have ml : ((ms.map V.int).length : Int) = i := by rw [List.length_map, pl]
      refine ⟨.ref l, rfl, .inl ⟨rfl, _, .inl (.inl h3)⟩, .ref bx, rfl, .ref l, rfl, l, _, rfl, .inl (.inl (.inl h3)), _, _, rfl, rfl, bx, _, _, rfl, by omega, by omega, by omega, b3, fun r H5 r0 r1 e5 b5 => ?_⟩
      refine ⟨.int ns[i], rfl, l, ms.map V.int, r, .int ns[i], rfl, rfl, e5 _ _ nlb h3, by rw [List.length_map]; exact small1000 (by omega), r0, Int.lt_of_lt_of_le r1 (by omega), ?_⟩
      refine ⟨_, ms.take r.toNat ++ [ns[i]] ++ ms.drop r.toNat, rfl, (e3.trans e5).new nl, (b5.at nlb).mono (by omega), ?_, ?_⟩
      · rw [upd_same, List.map_append, List.map_append, List.map_take, List.map_drop]; rfl
      · rw [List.take_add_one, List.getElem?_eq_getElem hi, List.append_assoc]
        refine List.perm_middle.trans ?_
        show (ns[i] :: (ms.take r.toNat ++ ms.drop r.toNat)).Perm _
        rw [List.take_append_drop]
        exact (pm.cons _).trans (List.perm_append_singleton _ _).symm
    · rintro σ H3 ⟨y, ms, rfl, e3, b3, h3, pm⟩
      rw [List.length_map] at b3 pm
      rw [List.take_length] at pm
      exact ⟨.ref l, rfl, q l ms H3 e3 b3 nl h3 pm⟩
def spHall : Sp := fun vs H Q _ => ∃ (bx : Addr) (c : Int), vs = [.ref bx] ∧ c + 100 ≤ 1000000000 ∧ Box bx c H ∧
  ∀ (l : Addr) (us : List V) (rs : List Rule) (H' : Hp), Ext bx H H' → Box bx (c + 100) H' → H l = none → H' l = some (.lst us) → RulesAt H' us rs → Halls rs → Q (.ref l) H'
set_option maxHeartbeats 2000000 in
theorem ok_hall (T : Txt K mg w) : FnOk P w K mg base CX0 4 T.f_hall T.fd_hall p_hall spHall := by
  have G_take := ok_take (P := P) (w := w) (base := base) T
  have G_some := ok_some (P := P) (w := w) (base := base) T
  have G_rule := ok_rule (P := P) (w := w) (base := base) T
  refine T.F_hall.ok sc_hall (fun vs H Q E h => ?_) (fun cdv A outer s H vs Q E hr h => ?_)
  · obtain ⟨bx, c, rfl, _⟩ := h
    rfl
  · obtain ⟨bx, c, rfl, c1, hB, q⟩ := h
    refine ⟨_, (pss_cons (ps_set (i := 1) sc_hall.nd rfl (.inr rfl) (pe_op op_add pe_int (pe_call G_take (hr.mono (by decide)) (by rfl) T.g_take T.F_take.kp T.b_take .nil pass0 (pa_cons (pv 0) (pa_cons pe_int pa_nil)))))
      (pss_cons (ps_if (pt_cmpR op_eq (pv 1) pe_int (nomark _))
        (pss_cons (ps_set (i := 2) sc_hall.nd rfl (.inl rfl) (pe_lst pa_nil))
        (pss_cons (ps_for PassesOwn.never rfl (pi_range1 (by rfl) T.m_range (pa_cons pe_int pa_nil)) (pg_name (i := 3) sc_hall.nd rfl (.inl rfl))
          (pss_cons (ps_set (i := 4) sc_hall.nd rfl (.inl rfl) (pe_call G_some (hr.mono (by decide)) (by rfl) T.g_some T.F_some.kp T.b_some .nil pass0 (pa_cons (pv 0) (pa_cons (pe_listRg (by rfl) (by rfl) T.m_list (prg_1 (by rfl) T.m_range pe_int)) (pa_cons pe_int pa_nil)))))
          (pss_one (ps_expr (pe_bm PySem.F.plainAttrs_list PySem.F.slot_list_append PySem.F.type_list_append mt_append (pv 2) (pa_cons (pe_tup (pa_cons pe_str (pa_cons (pe_call G_take (hr.mono (by decide)) (by rfl) T.g_take T.F_take.kp T.b_take .nil pass0 (pa_cons (pv 0) (pa_cons pe_int pa_nil))) (pa_cons (pe_callTy call_tupleF (by rfl) T.m_tuple (by decide +kernel) (pa_cons (pe_lc (own := [("_law_other", 5)]) (g := gName 5) (by rfl) sc_hall.nd (pi_list (pv 4)) (blkOk_by (own := [("_law_other", 5)]) (N := n_hall) (sc := defScope s_hall) (by decide +kernel)) (fun _ _ _ _ _ => (pg_name (i := 5) sc_hall.nd rfl (.inl rfl) (.inr rfl))) (fun _ _ _ _ _ => pts_nil) (fun _ _ _ _ _ => (pe_tup (pa_cons (pv 5) (pa_cons pe_int pa_nil))))) pa_nil)) pa_nil)))) pa_nil))))))
        (pss_one (ps_ret (pv 2)))))
        pss_nil)
      (pss_one (ps_ret (pe_lc (own := [("_law_one", 3)]) (g := gName 3) (by rfl) sc_hall.nd (pi_range1 (by rfl) T.m_range (pa_cons (pv 1) pa_nil)) (blkOk_by (own := [("_law_one", 3)]) (N := n_hall) (sc := defScope s_hall) (by decide +kernel)) (fun _ _ _ _ _ => (pg_name (i := 3) sc_hall.nd rfl (.inl rfl) (.inr rfl))) (fun _ _ _ _ _ => pts_nil) (fun _ _ _ _ _ => (pe_call G_rule (hr.mono (by decide)) (by rfl) T.g_rule T.F_rule.kp T.b_rule .nil pass0 (pa_cons (pv 0) (pa_cons (pv 1) (pa_cons (pe_listRg (by rfl) (by rfl) T.m_list (prg_1 (by rfl) T.m_range (pv 1))) (pa_cons pe_int pa_nil))))))))))), ?_⟩
    refine ⟨.ref bx, rfl, bx, _, 5, rfl, by decide, by decide, by omega, hB, fun r1 H1 r10 r11 e1 b1 => ⟨1, r1, rfl, rfl, ?_⟩⟩
    refine ⟨.int (1 + r1), rfl, rfl, _, rfl, ite2 (fun w0 => ?_) (fun w0 => ?_)⟩
    · refine ⟨by show 0 ≤ sizeLine; decide, fun l nl => ?_⟩
      have nlb := b1.ne nl
      have nlH : H l = none := e1.free nlb nl
      refine ⟨5, rfl, by decide, by decide, ?_⟩
      refine for_it walk_range (fun i σ H3 => ∃ (y3 y4 y5 : Option V) (us : List V) (rs : List Rule), σ = [some (.ref bx), some (.int (1 + r1)), some (.ref l), y3, y4, y5] ∧ Ext bx H H3 ∧ Box bx (c + 1 + 6 * i) H3 ∧ H3 l = some (.lst us) ∧ RulesAt H3 us rs ∧ rs.length = i ∧ ∀ r ∈ rs, r.Wf 5) ⟨none, none, none, [], [], rfl, e1.trans ((Ext.refl _).new nl), by simpa using b1.new nl, upd_same, .nil, rfl, fun r h => absurd h (by simp)⟩ (fun _ _ _ _ _ => trivial) ?_ ?_
      · rintro i x σ H3 H3' hi ⟨y3, y4, y5, us, rs, rfl, e3, b3, h3, ra3, l3, wf3⟩ ⟨rfl, rfl⟩
        have hi' : i < 5 := hi
        have lu : us.length = rs.length := ra3.length
        refine ⟨.ref bx, rfl, 5, rfl, RgOk.of_le (by decide) (by decide) (by decide) (by decide), fun pl npl => ?_⟩
        have nb := b3.ne npl
        have b4 := b3.new (o := .lst (rgV 0 5)) npl
        have len : ((List.range (5 : Int).toNat).map fun k : Nat => (k : Int)).length = 5 := by decide
        refine ⟨bx, pl, _, 2, (List.range (5 : Int).toNat).map (fun k : Nat => (k : Int)), rfl, by decide, by decide, by omega, by omega, b4, by rw [upd_same, rg_ints], nb, fun z ms H5 e5 b5 nz hz sub => ?_⟩
        have nzb : z ≠ bx := b4.ne nz
        have ml : ms.length ≤ 5 := by rw [← len]; exact sub.length_le
        have k35 : Keep H3' H5 := (Keep.same (same_upd npl)).trans (Keep.ext e5 b4)
        have e35 : Ext bx H H5 := (e3.trans ((Ext.refl _).new npl)).trans e5
        have h5 : H5 l = some (.lst us) := e5 _ _ nlb (same_upd npl _ _ h3)
        refine ⟨.ref l, rfl, .inl ⟨rfl, _, .inl (.inl h5)⟩, .ref bx, rfl, bx, _, 2, rfl, by decide, by decide, by omega, b5, fun r6 H6 r60 r61 e6 b6 => ?_⟩
        have hz6 := e6 _ _ nzb hz
        have h6 := e6 _ _ nlb h5
        refine ⟨.ref z, rfl, z, rfl, ⟨_, .inl (.inl hz6)⟩, fun D hD => ?_⟩
        refine lc_onesL hz6 hD (by omega) (fun _ => rfl) (fun _ => rfl) (fun H7 ps s7 h7 pr7 => ?_)
        refine ⟨D, _, rfl, .inl (.inl h7), fun t o nt od => ⟨by show 3 ≤ sizeLine; decide, fun a ha => ?_⟩⟩
        have s8 : Same H6 (upd (upd H7 t (.frz o (.tup (ps.map V.ref)))) a (.tup [.str "sum", .int r6, .ref t])) := (s7.trans (same_upd nt)).trans (same_upd ha)
        have h8 := s8 _ _ h6
        refine ⟨l, us, .ref a, rfl, rfl, h8, small1000 (by omega), ?_⟩
        have kL := keep_lst (ys := us ++ [.ref a]) h8
        have k38 := ((k35.trans (Keep.ext e6 b5)).trans (Keep.same s8)).trans kL
        refine ⟨_, _, _, us ++ [V.ref a], rs ++ [.sum r6 (ms.map fun n => (n, 1))], rfl, ?_, ?_, upd_same, ?_, ?_, ?_⟩
        · exact ((e35.trans e6).trans (Ext.of s8)).new nlH
        · exact ((b6.same s8).at nlb).mono (by omega)
        · refine Paired.snoc (R := RuleAt _) ?_ (ra3.keep k38)
          refine ⟨a, t, rfl, kL.tup _ _ upd_same, o, ps, od, kL.frz _ _ _ (same_upd ha _ _ upd_same), ?_⟩
          exact pairs_keep (((Keep.same (same_upd nt)).trans (Keep.same (same_upd ha))).trans kL) pr7
        · rw [List.length_append, l3]; rfl
        · intro r hr'
          rcases List.mem_append.mp hr' with h | h
          · exact wf3 r h
          · rw [List.mem_singleton.mp h]
            have ris : Rising 5 ms := (rg_rising 5 (by decide)).sub sub
            refine ⟨⟨r60, by omega⟩, ?_, fun q hq => ?_⟩
            · rw [List.map_map]
              have : (ms.map ((fun q : Int × Int => q.1) ∘ fun n => (n, 1))) = ms := by
                rw [show ((fun q : Int × Int => q.1) ∘ fun n : Int => (n, (1 : Int))) = id from rfl, List.map_id]
              rw [this]
              exact ris
            · obtain ⟨n, _, rfl⟩ := List.mem_map.mp hq
              exact ⟨Int.le_refl _, by show (1 : Int) ≤ 1000; decide⟩
      · rintro σ H3 ⟨y3, y4, y5, us, rs, rfl, e3, b3, h3, ra3, l3, wf3⟩
        have l3' : rs.length = 5 := l3
        exact ⟨.ref l, rfl, q l us rs H3 e3 (b3.mono (by show c + 1 + 6 * ((5 : Nat) : Int) ≤ c + 100; omega)) nlH h3 ra3 ⟨by omega, by omega, by rw [l3']; exact wf3⟩⟩
    · have w1 : ¬ 1 + r1 = 5 := fun z => w0 (decide_eq_true (by rw [z]))
      refine ⟨.int (1 + r1), rfl, _, rfl, by omega, by omega, fun D hD => ?_⟩
      have nDb := b1.ne hD
      have nDH : H D = none := e1.free nDb hD
      refine lc_it walk_range (fun i H3 => ∃ (us : List V) (rs : List Rule), Ext bx H1 H3 ∧ Box bx (c + 1 + 18 * i) H3 ∧ H3 D = some (.lst us) ∧ RulesAt H3 us rs ∧ rs.length = i ∧ ∀ r ∈ rs, r.Wf (1 + r1)) ⟨[], [], (Ext.refl _).new hD, by simpa using b1.new hD, upd_same, .nil, rfl, fun r h => absurd h (by simp)⟩ (fun _ _ _ _ => trivial) ?_ ?_
      · rintro i x H3 H4 hi ⟨us, rs, e3, b3, h3, ra3, l3, wf3⟩ ⟨rfl, rfl⟩
        have hi' : i < 4 := by omega
        have lu : us.length = rs.length := ra3.length
        refine ⟨rfl, yes (iteT ?_)⟩
        refine ⟨.ref bx, rfl, .int (1 + r1), rfl, .int (1 + r1), rfl, _, rfl, RgOk.of_le (by omega) (by omega) (by omega) (by omega), fun pl npl => ?_⟩
        have nb := b3.ne npl
        have b4 := b3.new (o := .lst (rgV 0 (1 + r1))) npl
        have len : ((List.range (1 + r1).toNat).map fun k : Nat => (k : Int)).length ≤ 4 := by rw [List.length_map, List.length_range]; omega
        refine ⟨bx, pl, _, 3, 1 + r1, .int (1 + r1), (List.range (1 + r1).toNat).map (fun k : Nat => (k : Int)), rfl, by decide, by decide, by omega, by omega, b4, by rw [upd_same, rg_ints], nb, rg_rising _ (by omega), fun v r H5 e5 b5 ra5 wf sub5 => ?_⟩
        have e35 : Ext bx H4 H5 := ((Ext.refl _).new npl).trans e5
        have k35 : Keep H4 H5 := (Keep.same (same_upd npl)).trans (Keep.ext e5 b4)
        have h5 := e35 _ _ nDb h3
        have kL := keep_lst (ys := us ++ [v]) h5
        refine ⟨us, h5, small1000 (by omega), us ++ [v], rs ++ [r], (e3.trans e35).new hD, (b5.at nDb).mono (by omega), upd_same, Paired.snoc (R := RuleAt _) (ra5.keep kL) (ra3.keep (k35.trans kL)), by rw [List.length_append, l3]; rfl, ?_⟩
        intro r' hr'
        rcases List.mem_append.mp hr' with h | h
        · exact wf3 r' h
        · rw [List.mem_singleton.mp h]; exact wf
      · rintro H3 ⟨us, rs, e3, b3, h3, ra3, l3, wf3⟩
        have l4 : (rs.length : Int) = 1 + r1 := by rw [l3]; omega
        refine q D us rs H3 (e1.trans e3) (b3.mono (by omega)) nDH h3 ra3 ⟨by omega, by omega, by rw [l4]; exact wf3⟩
end
end Lh

namespace Lh
open PySem PySem.Spec PyProof.Rows L2
/-! ### enumerate of a tuple -/
set_option maxHeartbeats 1000000 in
theorem enum_new1 {v : Value} {o : Obj} {G : Heap → Prop} (B : Begins v o G) :
    Meets (Builtin.«enumerate.__new__» ⟨[.type "enumerate", v], []⟩) (fun _ R z => G z.heap ∧
      R (.ok (.ret (.ref (z.heap.push o).objs.size))) { z with heap := (z.heap.push o).push { cls := .type "enumerate", data := .fields #[.none, .bool false, .ref z.heap.objs.size, rawInt 0, .none, .none] } }) := by
  refine .of_wp fun pr wo ar R z hh => ?_
  obtain ⟨h0, g0, d0, t0, o0⟩ := z
  obtain ⟨hG, hR⟩ := hh
  have hsub := sub_enumerate
  have it1 : ∀ {ar' : Around} {Ex : Value → Shared → Prop} {Q : Value → Shared → Prop}, Q (.ref h0.objs.size) ⟨h0.push o, g0, d0, t0, o0⟩ → wpAny (model pr wo) ar' (pyIter v) Q Ex ⟨h0, g0, d0, t0, o0⟩ :=
    fun q => B.iter pr wo _ _ ⟨h0, g0, d0, t0, o0⟩ _ hG q
  wp_walk using it1
  refine wpAny_stack_any fun _ => wpAny_pure ?_
  split
  · rename_i cc _ _ _ _ _
    cases (cc == Value.type "enumerate")
    all_goals
      wp_walk using it1
      exact ⟨_, rfl, hR⟩
  · wp_walk using it1
    exact ⟨_, rfl, hR⟩
theorem enum_made {pr : Program} {wo : World} {ar : Around} {Ex : Value → Shared → Prop} {z : Shared} {v : Value} {o : Obj} {G : Heap → Prop} {Q : Value → Shared → Prop} (B : Begins v o G) (hG : G z.heap)
    (h : ∀ h', IsEnum h' (z.heap.objs.size + 1) z.heap.objs.size 0 .none → h'.get? z.heap.objs.size = some o → (∀ b ob, z.heap.get? b = some ob → h'.get? b = some ob) → Q (.ref (z.heap.objs.size + 1)) { z with heap := h' }) :
    wpAny (model pr wo) ar (call (.type "enumerate") [v]) Q Ex z := by
  refine callType_new F.called_enumerate (by decide) (F.typeCall_enumerate_1 _) (F.newCall_enumerate_1 _) (fun x => F.args_object_init_2 x _) F.entry_enumerate_new (enum_new1 B) ⟨hG, ?_⟩
  have sz : (z.heap.push o).objs.size = z.heap.objs.size + 1 := Heap.size_push ..
  show _ ∧ _
  rw [sz]
  have he : IsEnum ((z.heap.push o).push { cls := .type "enumerate", data := .fields #[.none, .bool false, .ref z.heap.objs.size, rawInt 0, .none, .none] }) (z.heap.objs.size + 1) z.heap.objs.size 0 .none := by
    rw [← sz]
    exact Heap.get?_push_size (z.heap.push o) rfl
  exact ⟨⟨_, he, rfl⟩, h _ he (Heap.get?_push_of_some _ (Heap.get?_push_size _ B.free)) fun b ob x => Heap.get?_push_of_some _ (Heap.get?_push_of_some _ x)⟩
def IteT (K : PySem.W.Frag) (a : Addr) : It :=
  ⟨fun n H => ∃ (xs : List V) (x : V), SqT K H a xs ∧ xs[n]? = some x,
    fun n H v H' => ∃ T x, v = .ref T ∧ H T = none ∧ H' = upd H T (.tup [.int (n : Nat), x]) ∧ ∀ xs, SqT K H a xs → xs[n]? = some x,
    fun n H => ∃ xs : List V, SqT K H a xs ∧ xs.length ≤ n⟩
theorem draws_end {pr : Program} {wo : World} {ar : Around} (hh : ar.handled = none) (it a : Addr) (items : Array Value) (n : Nat) (hx : items[n]? = none) :
    Draws pr wo ar it [it, a] n (fun _ _ => False) (fun j h => j = n ∧ h.IsTupleIter it a n ∧ h.IsTuple a items) where
  live := fun _ _ st => let ⟨ob, hb, _⟩ := st.2.1; ⟨ob, hb⟩
  frame := fun _ _ _ st hk => ⟨st.1, st.2.1.at fun ob e => hk it (by simp) ob e, st.2.2.at fun ob e => hk a (by simp) ob e⟩
  item := fun j _ _ _ hj st _ => absurd st.1 (by omega)
  done := fun _ _ _ st hE => wpAny_nextOf_tuple_end hh st.2.1 st.2.2 hx hE
theorem turn_enumT {P : Program} {w : World} {K : PySem.W.Frag} {elts : List Expr} {kk : Nat} {tpos : Pos} (a e it : Addr) :
    Turn P w K (.Tuple elts kk tpos) (IteT K a) [e, it] e (fun n h => (∃ old, IsEnum h e it ((n : Nat) : Int) old) ∧ h.IsTupleIter it a n ∧ e ≠ it ∧ a ≠ it ∧ e ≠ a) where
  mem := by simp
  obj := fun n h st b hb => by
    obtain ⟨⟨old, he⟩, ⟨ob, ho, _, hd⟩, _⟩ := st
    rcases (show b = e ∨ b = it by simpa using hb) with rfl | rfl
    · exact ⟨_, he, fun v q => nomatch q⟩
    · exact ⟨ob, ho, fun v q => by rw [hd] at q; cases q⟩
  keep := fun n h h' st k => let ⟨⟨old, he⟩, hi, r⟩ := st; ⟨⟨old, k e (by simp) _ he⟩, hi.at fun ob q => k it (by simp) ob q, r⟩
  item := by
    intro X hP hw hK hc n pins s σ H E I hf st hg
    subst hP hw hK
    obtain ⟨⟨old, he⟩, hit, hne, nai, nea⟩ := st
    obtain ⟨xs, x, hq, hx⟩ := hg
    obtain ⟨its, rv, p, hz⟩ := I.tuple hq
    obtain ⟨u, hu, ru⟩ := rv.get hx
    have hu' : its.toArray[n]? = some u := by simpa using hu
    have hel : e < s.heap.objs.size := Heap.lt_size he
    have hil : it < s.heap.objs.size := by obtain ⟨_, q, _⟩ := hit; exact Heap.lt_size q
    have lt : n < its.toArray.size := (Array.getElem?_eq_some_iff.mp hu').1
    refine wpAny_pyNext_enum_itemD (Draws.tuple (A := X.A.in1) (I.ok.hd hc) it a nai its.toArray) he ⟨hit, p⟩ lt hne (by simp [hne, nea]) fun y h' tk hy ho st' hT hsz hk => ?_
    have ey : y = u := Option.some.inj (hy.symm.trans hu')
    subst ey
    refine ⟨_, rfl, wpAny_letOwnedTupleGo_enum (s := { s with heap := h', toks := tk + 1 }) ho fun h2 he2 sb => ?_⟩
    have hT2 : h2.get? s.heap.objs.size = some { cls := .type "tuple", data := .seq #[.int n tk, y] } := (sb.2 _ (Nat.ne_of_gt hel)).trans hT
    have new : ObjOk X.prog X.w (upd H s.heap.objs.size (.tup [.int (n : Nat), x])) h2 s.heap.objs.size (.tup [.int (n : Nat), x]) := by
      refine ⟨by show 2 ≤ sizeLine; decide, [.int n tk, y], .cons ⟨_, rfl⟩ (.cons ru .nil), ?_⟩
      exact ⟨_, hT2, rfl, _, rfl⟩
    have J : Inv X pins σ (upd H s.heap.objs.size (.tup [.int (n : Nat), x])) { s with heap := h2, toks := tk + 1 } := by
      refine I.turnedNew (ch := [e, it]) (fun b ob hb q => ?_) hf (Nat.le_refl _) new
      exact (sb.2 b (fun z => hb (by simp [z]))).trans (hk b ob (fun z => hb (by simp [z])) (fun z => hb (by simp [z])) q)
    refine ⟨.ref s.heap.objs.size, _, J, rfl, ⟨_, x, rfl, I.hok.fresh (Nat.le_refl _), rfl, fun ys hy => by rw [I.tuple_inj hy hq]; exact hx⟩, ⟨⟨y, ?_⟩, st'.1.at fun ob q => (sb.2 it (Ne.symm hne)).trans q, hne, nai, nea⟩, fun b hb => ?_⟩
    · rw [show ((n + 1 : Nat) : Int) = (n : Int) + 1 by omega]
      exact he2
    · have hb' : b < s.heap.objs.size := by
        rcases (show b = e ∨ b = it by simpa using hb) with rfl | rfl
        · exact hel
        · exact hil
      rw [upd_ne (Nat.ne_of_lt hb')]
      exact (hf b hb).1
  done := by
    intro X hP hw hK hc n pins s σ H E I hf st hg
    subst hP hw hK
    obtain ⟨⟨old, he⟩, hit, hne, nai, nea⟩ := st
    obtain ⟨xs, hq, hx⟩ := hg
    obtain ⟨its, rv, p, hz⟩ := I.tuple hq
    obtain ⟨f0, f1, f2, f3, f4, f5⟩ := hf it (by simp)
    have hl := rv.length
    have hn : its.toArray[n]? = none := by simp; omega
    exact wpAny_pyNext_enum_endD (draws_end (ar := X.A.in1) (I.ok.hd hc) it a its.toArray n hn) he ⟨rfl, hit, p⟩ fun h' eb => ⟨rfl, I.turned (t' := s.toks) (fun b ob hb q => eb b ob hb q) f0 f1 f3 f4 f5⟩
  self := fun ar n s Q E st h => let ⟨⟨_, he⟩, _⟩ := st; wpAny_pyIter_enum he h
def iEnumT (K : PySem.W.Frag) (ta : TA) : TI := fun σ H R => ta σ H fun vs H1 => ∃ a xs, vs = [.ref a] ∧ SqT K H1 a xs ∧ R (IteT K a) H1
theorem pi_enumT {X : Cx} {e : Expr} {ta : TA} {p pos tpos : Pos} {elts : List Expr} {kk : Nat} (hg : Gl X "enumerate") (hm : X.mg "enumerate" = none) (ha : PA X [e] ta) (hs : starEach [e] X.env = [(false, eval e X.env)] := by rfl) : PI X (.Tuple elts kk tpos) (.Call (.Name "enumerate" p) [e] [] pos) (iEnumT X.K ta) := by
  refine ⟨fun pins s σ H R I h => ?_⟩
  refine Call_ (ld_blt I hg hm PyProof.Rows.boot_enumerate (PyProof.Rows.callWith_type1 (thn (ha.run pos pins s σ H _ I h) fun us s1 ⟨vs, H1, I1, r1, a, xs, ex, hq, q⟩ => ?_) hs rfl))
  subst ex
  rw [Vals.ref1 r1]
  obtain ⟨its, rv, p', hz⟩ := I1.tuple hq
  obtain ⟨oa, hoa, _⟩ := id p'
  have la : a < s1.heap.objs.size := Heap.lt_size hoa
  refine enum_made (begins_tuple a its.toArray) p' fun h' he hit hk => wpAny_pyIter_enum he ?_
  have I2 : Inv X pins σ H1 { s1 with heap := h' } := I1.kept (t' := s1.toks) hk
  refine ⟨s1.heap.objs.size + 1, [s1.heap.objs.size + 1, s1.heap.objs.size], _, _, H1, rfl, I2, turn_enumT a (s1.heap.objs.size + 1) s1.heap.objs.size, ⟨⟨.none, he⟩, ⟨_, hit, rfl, rfl⟩, Nat.succ_ne_self _, Nat.ne_of_lt la, Nat.ne_of_gt (Nat.lt_succ_of_lt la)⟩, fun b hb => ?_, q⟩
  have hle : s1.heap.objs.size ≤ b := by
    rcases (show b = s1.heap.objs.size + 1 ∨ b = s1.heap.objs.size by simpa using hb) with z | z
    · rw [z]; exact Nat.le_add_right _ _
    · rw [z]; exact Nat.le_refl _
  exact I1.fpOk hle (I1.hok.fresh hle)
theorem walk_enumT {K : PySem.W.Frag} {a : Addr} {xs : List V} : Walk (IteT K a) xs.length (fun H => SqT K H a xs) (YPair (fun n => some (.int (n : Nat))) (fun n => xs[n]?)) := by
  refine ⟨fun n _ hn q => ⟨xs, xs[n], q, by simp [hn]⟩, fun _ q => ⟨xs, q, Nat.le_refl _⟩, fun n H v H' _ q y => ?_⟩
  obtain ⟨T, x, h1, h2, h3, h4⟩ := y
  exact ⟨T, .int (n : Nat), x, h1, h2, h3, rfl, h4 xs q⟩
end Lh

namespace Lh
open PySem PySem.Spec PyProof.Rows L2
/-! ### comprehensions that leave all as it was -/
theorem lc_map {J : It} {n : Nat} {G : Hp → Prop} {Y : Nat → Hp → V → Hp → Prop} (wk : Walk J n G Y) {g : TG} {te : TE} {vs : List Nat} {σ : L2.St} {H1 : Hp} {D : Addr} {Qd : Hp → Prop} (f : Nat → V) (hD : H1 D = none) (hn : n ≤ 1000) (hG : ∀ H3, Same H1 H3 → G H3)
    (hs : ∀ i x H3 H4, i < n → Same H1 H3 → Y i H3 x H4 → ∀ (Q : VK) (Z : Hp → Prop), (∀ H5, Same H3 H5 → Q (f i) H5) → g x (wipe σ vs) H4 fun σ2 H2 => wipe σ2 vs = wipe σ vs ∧ tYes σ2 H2 fun b H3 => if b = true then te σ2 H3 Q else Z H3)
    (hq : ∀ H', Same H1 H' → H' D = some (.lst ((List.range n).map f)) → Qd H') :
    ∃ W : Nat → Nat → Hp → Prop, (∃ m, W 0 m (upd H1 D (.lst []))) ∧ ∀ i m H, W i m H →
      (J.stop i H ∧ Qd H) ∨ (J.go i H ∧ ∃ Nx : Hp → Prop, (∀ H', Nx H' → ∃ m', m' < m ∧ W (i + 1) m' H') ∧ ∀ x H', J.yld i H x H' → g x (wipe σ vs) H' fun σ2 H2 => wipe σ2 vs = wipe σ vs ∧ tYes σ2 H2 fun b H3 =>
        if b = true then te σ2 H3 fun y H4 => ∃ acc, H4 D = some (.lst acc) ∧ acc.length < sizeLine ∧ Nx (upd H4 D (.lst (acc ++ [y]))) else Nx H3) := by
  refine lc_it wk (fun i H3 => Same H1 H3 ∧ H3 D = some (.lst ((List.range i).map f))) ⟨same_upd hD, upd_same⟩ (fun i H3 _ h => hG H3 h.1) ?_ (fun H3 h => hq H3 h.1 h.2)
  rintro i x H3 H4 hi ⟨sm, h3⟩ hy
  refine hs i x H3 H4 hi sm hy _ _ (fun H5 s5 => ⟨_, s5 _ _ h3, ?_, same_mut (sm.trans s5) hD, ?_⟩)
  · rw [List.length_map, List.length_range]; exact small1000 (by omega)
  · rw [upd_same, List.range_succ, List.map_append]; rfl
theorem lc_filt {J : It} {n : Nat} {G : Hp → Prop} {Y : Nat → Hp → V → Hp → Prop} (wk : Walk J n G Y) {g : TG} {tt : TT} {te : TE} {vs : List Nat} {σ : L2.St} {H1 : Hp} {D : Addr} {Qd : Hp → Prop} (p : Nat → Bool) (f : Nat → V) (hD : H1 D = none) (hn : n ≤ 1000) (hG : ∀ H3, Same H1 H3 → G H3)
    (hs : ∀ i x H3 H4, i < n → Same H1 H3 → Y i H3 x H4 → ∀ (Q : VK) (Z : Hp → Prop), (p i = true → ∀ H5, Same H3 H5 → Q (f i) H5) → (p i = false → ∀ H5, Same H3 H5 → Z H5) → g x (wipe σ vs) H4 fun σ2 H2 => wipe σ2 vs = wipe σ vs ∧ tt σ2 H2 fun b H3 => if b = true then te σ2 H3 Q else Z H3)
    (hq : ∀ H', Same H1 H' → H' D = some (.lst (((List.range n).filter p).map f)) → Qd H') :
    ∃ W : Nat → Nat → Hp → Prop, (∃ m, W 0 m (upd H1 D (.lst []))) ∧ ∀ i m H, W i m H →
      (J.stop i H ∧ Qd H) ∨ (J.go i H ∧ ∃ Nx : Hp → Prop, (∀ H', Nx H' → ∃ m', m' < m ∧ W (i + 1) m' H') ∧ ∀ x H', J.yld i H x H' → g x (wipe σ vs) H' fun σ2 H2 => wipe σ2 vs = wipe σ vs ∧ tt σ2 H2 fun b H3 =>
        if b = true then te σ2 H3 fun y H4 => ∃ acc, H4 D = some (.lst acc) ∧ acc.length < sizeLine ∧ Nx (upd H4 D (.lst (acc ++ [y]))) else Nx H3) := by
  refine lc_it wk (fun i H3 => Same H1 H3 ∧ H3 D = some (.lst (((List.range i).filter p).map f))) ⟨same_upd hD, upd_same⟩ (fun i H3 _ h => hG H3 h.1) ?_ (fun H3 h => hq H3 h.1 h.2)
  rintro i x H3 H4 hi ⟨sm, h3⟩ hy
  refine hs i x H3 H4 hi sm hy _ _ (fun z H5 s5 => ⟨_, s5 _ _ h3, ?_, same_mut (sm.trans s5) hD, ?_⟩) (fun z H5 s5 => ⟨sm.trans s5, ?_⟩)
  · rw [List.length_map]; exact small1000 (Nat.le_trans (List.length_filter_le _ _) (by rw [List.length_range]; omega))
  · rw [upd_same, List.range_succ, List.filter_append, List.map_append, List.filter_cons, if_pos z]; rfl
  · rw [s5 _ _ h3, List.range_succ, List.filter_append, List.filter_cons, if_neg (by rw [z]; exact Bool.false_ne_true), List.filter_nil, List.append_nil]
end Lh

namespace Lh
open PySem PySem.Spec PyProof.Rows L2
section
variable {P : Program} {w : World} {K : PySem.W.Frag} {mg : Str → Option Value} {base : Heap}
def spHouseInit (C CH : Addr) : Sp := fun vs H Q _ => ∃ (x dx hx st : Addr) (rs : List Rule) (ns : List Int), vs = [.ref x, .ref hx, .ref st] ∧ H x = some (.ins C dx []) ∧ HallAt CH H hx rs ∧ TupAt H st (ns.map V.int) ∧
  ∀ (pa en : Addr) (H' : Hp), (∀ b o, b ≠ x → H b = some o → H' b = some o) → H pa = none → H en = none → HouseAt C CH H' x pa en ⟨rs, [], ns, 0⟩ [] → Q .non H'
set_option maxHeartbeats 2000000 in
theorem ok_House_init (T : Txt K mg w) : FnOk P w K mg base CX0 1 T.f_House_init T.fd_House_init p_House_init (spHouseInit T.C_House T.C_Hall) := by
  refine T.F_House_init.ok sc_House_init (fun vs H Q E h => ?_) (fun cdv A outer s H vs Q E hr h => ?_)
  · obtain ⟨x, dx, hx, st, rs, ns, rfl, _⟩ := h
    rfl
  · obtain ⟨x, dx, hx, st, rs, ns, rfl, hX, hA, hS, q⟩ := h
    refine ⟨_, (pss_cons (ps_fld (pv 0) (pv 1) rfl)
      (pss_cons (ps_fld (pv 0) (pe_tup pa_nil) rfl)
      (pss_cons (ps_fld (pv 0) (pv 2) rfl)
      (pss_cons (ps_fld (pv 0) pe_int rfl)
      (pss_cons (ps_fld (pv 0) (pe_lst pa_nil) rfl)
      (pss_one (ps_fld (pv 0) (pe_lst pa_nil) rfl))))))), ?_⟩
    refine ⟨.ref hx, rfl, .ref x, rfl, x, T.C_House, dx, [], rfl, hX, T.cl_House, T.na_House_own, by show 0 < 1000; decide, ?_⟩
    dsimp only
    have g1 := upd_same (H := H) (a := x) (o := HO.ins T.C_House dx (putF "own" (.ref hx) []))
    have a1 : Aw [x] H (upd H x (.ins T.C_House dx (putF "own" (.ref hx) []))) := Aw.one
    generalize upd H x (.ins T.C_House dx (putF "own" (.ref hx) [])) = H1 at g1 a1 ⊢
    refine ⟨by show 0 ≤ sizeLine; decide, fun t0 nt0 => ?_⟩
    have s2 := same_upd (o := .tup []) nt0
    have gt := upd_same (H := H1) (a := t0) (o := HO.tup [])
    generalize upd H1 t0 (.tup []) = H2 at s2 gt ⊢
    have g2 := s2 _ _ g1
    refine ⟨.ref x, rfl, x, T.C_House, dx, _, rfl, g2, T.cl_House, T.na_House_pins, by show 1 < 1000; decide, ?_⟩
    dsimp only
    have g3 := upd_same (H := H2) (a := x) (o := HO.ins T.C_House dx (putF "pins" (.ref t0) (putF "own" (.ref hx) [])))
    have a3 : Aw [x] H2 (upd H2 x (.ins T.C_House dx (putF "pins" (.ref t0) (putF "own" (.ref hx) [])))) := Aw.one
    generalize upd H2 x (.ins T.C_House dx (putF "pins" (.ref t0) (putF "own" (.ref hx) []))) = H3 at g3 a3 ⊢
    have e3 : putF "pins" (.ref t0) (putF "own" (.ref hx) []) = [(("own" : Str), V.ref hx), ("pins", .ref t0)] := by
      show putF "pins" (.ref t0) [(("own" : Str), V.ref hx)] = _
      rw [pf_ne (by decide +kernel)]
      rfl
    rw [e3] at g3
    refine ⟨.ref st, rfl, .ref x, rfl, x, T.C_House, dx, _, rfl, g3, T.cl_House, T.na_House_shown, by show 2 < 1000; decide, ?_⟩
    dsimp only
    have e4 : putF "shown" (.ref st) [(("own" : Str), V.ref hx), ("pins", .ref t0)] = [(("own" : Str), V.ref hx), ("pins", .ref t0), ("shown", .ref st)] := by
      rw [pf_ne (by decide +kernel), pf_ne (by decide +kernel)]
      rfl
    rw [e4]
    have g4 := upd_same (H := H3) (a := x) (o := HO.ins T.C_House dx [(("own" : Str), V.ref hx), ("pins", .ref t0), ("shown", .ref st)])
    have a4 : Aw [x] H3 (upd H3 x (.ins T.C_House dx [(("own" : Str), V.ref hx), ("pins", .ref t0), ("shown", .ref st)])) := Aw.one
    generalize upd H3 x (.ins T.C_House dx [(("own" : Str), V.ref hx), ("pins", .ref t0), ("shown", .ref st)]) = H4 at g4 a4 ⊢
    refine ⟨.ref x, rfl, x, T.C_House, dx, _, rfl, g4, T.cl_House, T.na_House_changes, by show 3 < 1000; decide, ?_⟩
    dsimp only
    have e5 : putF "changes" (.int 0) [(("own" : Str), V.ref hx), ("pins", .ref t0), ("shown", .ref st)] = [(("own" : Str), V.ref hx), ("pins", .ref t0), ("shown", .ref st), ("changes", .int 0)] := by
      rw [pf_ne (by decide +kernel), pf_ne (by decide +kernel), pf_ne (by decide +kernel)]
      rfl
    rw [e5]
    have g5 := upd_same (H := H4) (a := x) (o := HO.ins T.C_House dx [(("own" : Str), V.ref hx), ("pins", .ref t0), ("shown", .ref st), ("changes", .int 0)])
    have a5 : Aw [x] H4 (upd H4 x (.ins T.C_House dx [(("own" : Str), V.ref hx), ("pins", .ref t0), ("shown", .ref st), ("changes", .int 0)])) := Aw.one
    generalize upd H4 x (.ins T.C_House dx [(("own" : Str), V.ref hx), ("pins", .ref t0), ("shown", .ref st), ("changes", .int 0)]) = H5 at g5 a5 ⊢
    refine ⟨by show 0 ≤ sizeLine; decide, fun pa npa => ?_⟩
    have s6 := same_upd (o := .lst []) npa
    have gp := upd_same (H := H5) (a := pa) (o := HO.lst [])
    generalize upd H5 pa (.lst []) = H6 at s6 gp ⊢
    have g6 := s6 _ _ g5
    refine ⟨.ref x, rfl, x, T.C_House, dx, _, rfl, g6, T.cl_House, T.na_House_past, by show 4 < 1000; decide, ?_⟩
    dsimp only
    have e7 : putF "past" (.ref pa) [(("own" : Str), V.ref hx), ("pins", .ref t0), ("shown", .ref st), ("changes", .int 0)] = [(("own" : Str), V.ref hx), ("pins", .ref t0), ("shown", .ref st), ("changes", .int 0), ("past", .ref pa)] := by
      rw [pf_ne (by decide +kernel), pf_ne (by decide +kernel), pf_ne (by decide +kernel), pf_ne (by decide +kernel)]
      rfl
    rw [e7]
    have g7 := upd_same (H := H6) (a := x) (o := HO.ins T.C_House dx [(("own" : Str), V.ref hx), ("pins", .ref t0), ("shown", .ref st), ("changes", .int 0), ("past", .ref pa)])
    have a7 : Aw [x] H6 (upd H6 x (.ins T.C_House dx [(("own" : Str), V.ref hx), ("pins", .ref t0), ("shown", .ref st), ("changes", .int 0), ("past", .ref pa)])) := Aw.one
    generalize upd H6 x (.ins T.C_House dx [(("own" : Str), V.ref hx), ("pins", .ref t0), ("shown", .ref st), ("changes", .int 0), ("past", .ref pa)]) = H7 at g7 a7 ⊢
    refine ⟨by show 0 ≤ sizeLine; decide, fun en nen => ?_⟩
    have s8 := same_upd (o := .lst []) nen
    have ge := upd_same (H := H7) (a := en) (o := HO.lst [])
    generalize upd H7 en (.lst []) = H8 at s8 ge ⊢
    have g8 := s8 _ _ g7
    refine ⟨.ref x, rfl, x, T.C_House, dx, _, rfl, g8, T.cl_House, T.na_House_entries, by show 5 < 1000; decide, ?_⟩
    have e9 : putF "entries" (.ref en) [(("own" : Str), V.ref hx), ("pins", .ref t0), ("shown", .ref st), ("changes", .int 0), ("past", .ref pa)] = hsF hx t0 st 0 pa en := by
      rw [pf_ne (by decide +kernel), pf_ne (by decide +kernel), pf_ne (by decide +kernel), pf_ne (by decide +kernel), pf_ne (by decide +kernel)]
      rfl
    rw [e9]
    have xp : pa ≠ x := (ne_of_none g5 npa).symm
    have xe : en ≠ x := (ne_of_none g7 nen).symm
    have gp7 := a7 _ _ (by rw [List.mem_singleton]; exact xp) gp
    have pe : pa ≠ en := ne_of_none gp7 nen
    have back : ∀ {Ha Hb : Hp} {z : Addr}, Aw [x] Ha Hb → z ≠ x → Hb z = none → Ha z = none := fun {Ha Hb z} a n h => by
      cases e : Ha z with
      | none => rfl
      | some o => rw [a z o (by rw [List.mem_singleton]; exact n) e] at h; cases h
    have npH : H pa = none := back a1 xp (s2.free (back a3 xp (back a4 xp (back a5 xp npa))))
    have neH : H en = none := back a1 xe (s2.free (back a3 xe (back a4 xe (back a5 xe (s6.free (back a7 xe nen))))))
    have aw : Aw [x] H (upd H8 x (.ins T.C_House dx (hsF hx t0 st 0 pa en))) := a1.trans ((Aw.of s2).trans (a3.trans (a4.trans (a5.trans ((Aw.of s6).trans (a7.trans ((Aw.of s8).trans Aw.one)))))))
    have nhx : hx ≠ x := fun e => by
      obtain ⟨_, _, _, h1, _⟩ := hA
      rw [e, hX] at h1
      have := (HO.ins.inj (Option.some.inj h1)).2.2
      cases this
    have kk : KeepM H (upd H8 x (.ins T.C_House dx (hsF hx t0 st 0 pa en))) := by
      have nm : ∀ {a o}, H a = some o → o ≠ .ins T.C_House dx [] → (upd H8 x (.ins T.C_House dx (hsF hx t0 st 0 pa en))) a = some o := fun {a o} h n => aw a o (by rw [List.mem_singleton]; intro e; subst e; exact n (Option.some.inj (h.symm.trans hX))) h
      exact ⟨⟨fun a xs h => nm h (by intro z; cases z), fun a o u h => nm h (by intro z; cases z)⟩, fun a C d v h => nm h (by intro z; have := (HO.ins.inj z).2.2; cases this)⟩
    have nt : t0 ≠ x := (ne_of_none g1 nt0).symm
    have nm1 : ∀ {z : Addr}, z ≠ x → z ∉ [x] := fun h => by rw [List.mem_singleton]; exact h
    have gtE : (upd H8 x (.ins T.C_House dx (hsF hx t0 st 0 pa en))) t0 = some (.tup []) := by
      rw [upd_ne nt]
      exact s8 _ _ (a7 _ _ (nm1 nt) (s6 _ _ (a5 _ _ (nm1 nt) (a4 _ _ (nm1 nt) (a3 _ _ (nm1 nt) gt)))))
    refine q pa en _ (fun b o nb hb => aw b o (nm1 nb) hb) npH neH ⟨⟨dx, hx, t0, st, upd_same, hA.keepM kk, ⟨[], .inl gtE, .nil⟩, hS.keep kk.k⟩, ⟨[], by rw [upd_ne xp]; exact s8 _ _ gp7, .nil⟩, ⟨[], by rw [upd_ne xe]; exact ge⟩, pe⟩
def spState (C CH : Addr) : Sp := fun vs H Q _ => ∃ (x pa en : Addr) (s : HS) (past : List HS), vs = [.ref x] ∧ HouseAt C CH H x pa en s past ∧
  ∀ (v : V) (H' : Hp), Same H H' → PastAt CH H' v s → Q v H'
theorem ok_House_state (T : Txt K mg w) : FnOk P w K mg base CX0 1 T.f_House_state T.fd_House_state p_House_state (spState T.C_House T.C_Hall) := by
  refine T.F_House_state.ok sc_House_state (fun vs H Q E h => ?_) (fun cdv A outer s H vs Q E hr h => ?_)
  · obtain ⟨x, pa, en, s, past, rfl, _⟩ := h
    rfl
  · obtain ⟨x, pa, en, s, past, rfl, hO, q⟩ := h
    obtain ⟨dx, hx, pt, st, hX, co⟩ := hO.ex
    refine ⟨_, (pss_one (ps_ret (pe_tup (pa_cons (pe_fld (pv 0) rfl) (pa_cons (pe_fld (pv 0) rfl) (pa_cons (pe_fld (pv 0) rfl) (pa_cons (pe_fld (pv 0) rfl) pa_nil))))))), ?_⟩
    refine ⟨.ref x, rfl, x, T.C_House, dx, _, _, rfl, hX, T.cl_House, T.na_House_own, hs_own, .ref x, rfl, x, T.C_House, dx, _, _, rfl, hX, T.cl_House, T.na_House_pins, hs_pins, .ref x, rfl, x, T.C_House, dx, _, _, rfl, hX, T.cl_House, T.na_House_shown, hs_shown, .ref x, rfl, x, T.C_House, dx, _, _, rfl, hX, T.cl_House, T.na_House_changes, hs_changes, by show 4 ≤ sizeLine; decide, fun t nt => ?_⟩
    have s1 := same_upd (o := .tup [.ref hx, .ref pt, .ref st, .int s.ch]) nt
    exact q _ _ s1 ⟨t, hx, pt, st, rfl, upd_same, co.keepM (KeepM.of s1)⟩
def spRemember (C CH : Addr) : Sp := fun vs H Q _ => ∃ (x pa en : Addr) (s : HS) (past : List HS), vs = [.ref x] ∧ HouseAt C CH H x pa en s past ∧ past.length ≤ 999 ∧
  ∀ (H' : Hp), Aw [pa] H H' → HouseAt C CH H' x pa en s (past ++ [s]) → Q .non H'
theorem ok_House_remember (T : Txt K mg w) : FnOk P w K mg base CX0 2 T.f_House_remember T.fd_House_remember p_House_remember (spRemember T.C_House T.C_Hall) := by
  have G_House_state := ok_House_state (P := P) (w := w) (base := base) T
  refine T.F_House_remember.ok sc_House_remember (fun vs H Q E h => ?_) (fun cdv A outer s H vs Q E hr h => ?_)
  · obtain ⟨x, pa, en, s, past, rfl, _⟩ := h
    rfl
  · obtain ⟨x, pa, en, s, past, rfl, hO, l1, q⟩ := h
    obtain ⟨dx, hx, pt, st, hX, co⟩ := hO.ex
    obtain ⟨us, hp, ps⟩ := hO.hp
    refine ⟨_, (pss_one (ps_expr (pe_bm PySem.F.plainAttrs_list PySem.F.slot_list_append PySem.F.type_list_append mt_append (pe_fld (pv 0) rfl) (pa_cons (pe_meth0 (pv 0) T.cl_House T.me_House_state G_House_state (hr.mono (by decide)) T.b_House_state .nil pass0) pa_nil)))), ?_⟩
    refine ⟨.ref x, rfl, x, T.C_House, dx, _, _, rfl, hX, T.cl_House, T.na_House_past, hs_past, .inl ⟨rfl, _, .inl (.inl hp)⟩, .ref x, rfl, x, dx, _, rfl, hX, hs_no (by decide +kernel), x, pa, en, s, past, rfl, hO, fun v H1 s1 pv => ?_⟩
    refine ⟨pa, us, v, rfl, rfl, s1 _ _ hp, small1000 (by rw [Paired.length ps]; omega), ?_⟩
    have a1 : Aw [pa] H1 (upd H1 pa (.lst (us ++ [v]))) := Aw.one
    have k1 := a1.keepM fun f hf => by rw [List.mem_singleton.mp hf]; exact .inl ⟨us, s1 _ _ hp⟩
    have aw := (Aw.of s1).trans a1
    obtain ⟨n1, n2⟩ := hO.x_pa
    obtain ⟨es, he⟩ := hO.he
    refine q _ aw ⟨⟨dx, hx, pt, st, by rw [upd_ne n1]; exact s1 _ _ hX, (co.keepM (KeepM.of s1)).keepM k1⟩, ⟨_, upd_same, Lh.Paired.snoc (pv.keepM k1) ((PastsAt.keepM (KeepM.of s1) ps).keepM k1)⟩, ⟨es, by rw [upd_ne hO.ne.symm]; exact s1 _ _ he⟩, hO.ne⟩
def spMove (C CH : Addr) : Sp := fun vs H Q _ => ∃ (x pa en bt : Addr) (s : HS) (past : List HS) (ms : List Int), vs = [.ref x, .ref bt] ∧ HouseAt C CH H x pa en s past ∧ TupAt H bt (ms.map V.int) ∧ ms.length = s.shown.length ∧ ms.length ≤ 60 ∧
  ∀ (l : Addr) (H' : Hp), Aw [x] H H' → H l = none → H' l = some (.lst ((chgL s.shown ms).map V.int)) → HouseAt C CH H' x pa en ⟨s.own, s.pins, ms, s.ch + (chgL s.shown ms).length⟩ past → Q (.ref l) H'
set_option maxHeartbeats 2000000 in
theorem ok_House_move (T : Txt K mg w) : FnOk P w K mg base CX0 1 T.f_House_move T.fd_House_move p_House_move (spMove T.C_House T.C_Hall) := by
  refine T.F_House_move.ok sc_House_move (fun vs H Q E h => ?_) (fun cdv A outer s H vs Q E hr h => ?_)
  · obtain ⟨x, pa, en, bt, s, past, ms, rfl, _⟩ := h
    rfl
  · obtain ⟨x, pa, en, bt, s, past, ms, rfl, hO, hB, lm, l60, q⟩ := h
    obtain ⟨dx, hx, pt, st, hX, co⟩ := hO.ex
    refine ⟨_, (pss_cons (ps_setLc (i := 2) (own := [("person", 3), ("shown", 4)]) (g := gTup K 2 (gCons (gName 3) (gCons (gName 4) gNil))) (by rfl) sc_House_move.nd rfl rfl (sw_true rfl rfl rfl (by decide +kernel)) (pi_enumT (by rfl) T.m_enumerate (pa_cons (pv 1) pa_nil)) (blkOk_by (own := [("person", 3), ("shown", 4)]) (N := n_House_move) (sc := defScope s_House_move) (by decide +kernel)) (fun _ _ _ _ _ => (pg_tup rfl (pgs_cons (pg_name (i := 3) sc_House_move.nd rfl (.inl rfl) (.inr rfl)) (pgs_cons (pg_name (i := 4) sc_House_move.nd rfl (.inl rfl) (.inr rfl)) pgs_nil)))) (fun _ _ _ _ _ => (pts_one (pt_cmpR op_ne (pv 4) (pe_ix (r := rIxT K) ix_tup (pe_fldK (K := K) rfl (pv 0) rfl) (pv 3) (fun _ _ => rfl)) (nomark _)))) (fun _ _ _ _ _ => (pv 3)))
      (pss_cons (ps_fld (pv 0) (pv 1) rfl)
      (pss_cons (ps_fldaug (pv 0) (pe_callB call_len_seq (by rfl) T.m_len (by decide +kernel) (pa_cons (pv 2) pa_nil)) in_add)
      (pss_one (ps_ret (pv 2)))))), ?_⟩
    refine ⟨.ref bt, rfl, bt, _, rfl, hB.sq, fun D hD => ?_⟩
    refine lc_filt (walk_enumT (xs := ms.map V.int)) (fun k => decide (nth ms (k : Nat) ≠ nth s.shown (k : Nat))) (fun k => .int (k : Nat)) hD (by rw [List.length_map]; omega) (fun H3 s3 => (hB.keep (Keep.same s3)).sq) ?_ ?_
    · rintro k z H3 H4 hk s3 ⟨t, x1, x2, rfl, nt, rfl, e1, e2⟩ Q' Z hQ hZ
      rw [List.length_map] at hk
      have f1 : x1 = .int (k : Nat) := (Option.some.inj e1).symm
      have f3 := nth_get (ns := ms) (p := (k : Int)) (by omega) (by omega)
      rw [Int.toNat_natCast] at f3
      have f2 : x2 = .int (nth ms k) := Option.some.inj (e2.symm.trans f3)
      subst f1 f2
      have sT := same_upd (o := .tup [.int (k : Nat), .int (nth ms k)]) nt
      have s34 := s3.trans sT
      refine ⟨t, _, rfl, .inl (.inl upd_same), rfl, _, _, rfl, _, _, rfl, rfl, rfl, ?_⟩
      refine ⟨.int (nth ms k), rfl, .ref x, rfl, x, T.C_House, dx, _, _, rfl, s34 _ _ hX, T.cl_House, T.na_House_shown, hs_shown, .int (k : Nat), rfl, st, _, (k : Int), _, rfl, rfl, (co.hs.keep (Keep.same s34)).sq, nth_at (by omega) (by omega), ?_⟩
      refine ⟨rfl, ?_⟩
      rw [dec_int]
      refine ⟨_, rfl, ite2 (fun z => ?_) (fun z => ?_)⟩
      · exact ⟨.int (k : Nat), rfl, hQ (decide_eq_true (by simpa using z)) _ sT⟩
      · exact hZ (by simpa using z) _ sT
    intro H3 s3 h3
    have e3 : (List.filter (fun k => decide (nth ms (k : Nat) ≠ nth s.shown (k : Nat))) (List.range (List.map V.int ms).length)).map (fun k : Nat => V.int (k : Nat)) = (chgL s.shown ms).map V.int := by
      unfold chgL
      rw [List.length_map, List.map_map]
      rfl
    rw [e3] at h3
    have hX3 := s3 _ _ hX
    refine ⟨.ref bt, rfl, .ref x, rfl, x, T.C_House, dx, _, rfl, hX3, T.cl_House, T.na_House_shown, by show 6 < 1000; decide, ?_⟩
    rw [pf_shown]
    have a4 : Aw [x] H3 (upd H3 x (.ins T.C_House dx (hsF hx pt bt s.ch pa en))) := Aw.one
    have g4 := upd_same (H := H3) (a := x) (o := HO.ins T.C_House dx (hsF hx pt bt s.ch pa en))
    have xD : D ≠ x := (ne_of_none hX hD).symm
    have h4 := a4 _ _ (by rw [List.mem_singleton]; exact xD) h3
    dsimp only
    generalize upd H3 x (.ins T.C_House dx (hsF hx pt bt s.ch pa en)) = H4 at a4 g4 h4 ⊢
    refine ⟨.ref x, rfl, x, T.C_House, dx, _, _, rfl, g4, T.cl_House, T.na_House_changes, hs_changes, .ref D, rfl, D, _, rfl, .inl (.inl (.inl h4)), s.ch, _, rfl, rfl, dx, _, g4, by show 6 < 1000; decide, ?_⟩
    rw [pf_changes]
    have a5 : Aw [x] H4 (upd H4 x (.ins T.C_House dx (hsF hx pt bt (s.ch + ((chgL s.shown ms).map V.int).length) pa en))) := Aw.one
    have g5 := upd_same (H := H4) (a := x) (o := HO.ins T.C_House dx (hsF hx pt bt (s.ch + ((chgL s.shown ms).map V.int).length) pa en))
    have h5 := a5 _ _ (by rw [List.mem_singleton]; exact xD) h4
    generalize upd H4 x (.ins T.C_House dx (hsF hx pt bt (s.ch + ((chgL s.shown ms).map V.int).length) pa en)) = H5 at a5 g5 h5 ⊢
    rw [List.length_map] at g5
    have aw : Aw [x] H H5 := (Aw.of s3).trans (a4.trans a5)
    have km := aw.keepM fun f hf => hO.mut f (by rw [List.mem_singleton.mp hf]; exact List.mem_cons_self)
    obtain ⟨us, hp, ps⟩ := hO.hp
    obtain ⟨es, he⟩ := hO.he
    obtain ⟨n1, n2⟩ := hO.x_pa
    exact ⟨.ref D, rfl, q D H5 aw hD h5 ⟨⟨dx, hx, pt, bt, g5, ⟨(co.keepM km).ha, (co.keepM km).hp, hB.keep km.k⟩⟩, ⟨us, aw _ _ (by rw [List.mem_singleton]; exact n1.symm) hp, ps.keepM km⟩, ⟨es, aw _ _ (by rw [List.mem_singleton]; exact n2.symm) he⟩, hO.ne⟩⟩
def spStanding (C CH : Addr) : Sp := fun vs H Q _ => ∃ (x pa en : Addr) (s : HS) (past : List HS), vs = [.ref x] ∧ HouseAt C CH H x pa en s past ∧ ∀ st, TupAt H st (s.shown.map V.int) → Q (.ref st) H
theorem ok_House_standing (T : Txt K mg w) : FnOk P w K mg base CX0 1 T.f_House_standing T.fd_House_standing p_House_standing (spStanding T.C_House T.C_Hall) := by
  refine T.F_House_standing.ok sc_House_standing (fun vs H Q E h => ?_) (fun cdv A outer s H vs Q E hr h => ?_)
  · obtain ⟨x, pa, en, s, past, rfl, _⟩ := h
    rfl
  · obtain ⟨x, pa, en, s, past, rfl, hO, q⟩ := h
    obtain ⟨dx, hx, pt, st, hX, co⟩ := hO.ex
    refine ⟨_, (pss_one (ps_ret (pe_fld (pv 0) rfl))), ?_⟩
    exact ⟨.ref x, rfl, x, T.C_House, dx, _, _, rfl, hX, T.cl_House, T.na_House_shown, hs_shown, q st co.hs⟩
def spTurnsM (C CH : Addr) : Sp := fun vs H Q _ => ∃ (x pa en : Addr) (s : HS) (past : List HS), vs = [.ref x] ∧ HouseAt C CH H x pa en s past ∧ Q (.int s.ch) H
theorem ok_House_turns (T : Txt K mg w) : FnOk P w K mg base CX0 1 T.f_House_turns T.fd_House_turns p_House_turns (spTurnsM T.C_House T.C_Hall) := by
  refine T.F_House_turns.ok sc_House_turns (fun vs H Q E h => ?_) (fun cdv A outer s H vs Q E hr h => ?_)
  · obtain ⟨x, pa, en, s, past, rfl, _⟩ := h
    rfl
  · obtain ⟨x, pa, en, s, past, rfl, hO, q⟩ := h
    obtain ⟨dx, hx, pt, st, hX, co⟩ := hO.ex
    refine ⟨_, (pss_one (ps_ret (pe_fld (pv 0) rfl))), ?_⟩
    exact ⟨.ref x, rfl, x, T.C_House, dx, _, _, rfl, hX, T.cl_House, T.na_House_changes, hs_changes, q⟩
def spLenM (C CH : Addr) : Sp := fun vs H Q _ => ∃ (x pa en : Addr) (s : HS) (past : List HS), vs = [.ref x] ∧ HouseAt C CH H x pa en s past ∧ s.own.length ≤ 12 ∧ Q (.int s.own.length) H
theorem ok_House_len (T : Txt K mg w) : FnOk P w K mg base CX0 4 T.f_House_len T.fd_House_len p_House_len (spLenM T.C_House T.C_Hall) := by
  have G_Hall_len := ok_Hall_len (P := P) (w := w) (base := base) T
  refine T.F_House_len.ok sc_House_len (fun vs H Q E h => ?_) (fun cdv A outer s H vs Q E hr h => ?_)
  · obtain ⟨x, pa, en, s, past, rfl, _⟩ := h
    rfl
  · obtain ⟨x, pa, en, s, past, rfl, hO, l12, q⟩ := h
    obtain ⟨dx, hx, pt, st, hX, co⟩ := hO.ex
    obtain ⟨dh, t0, vs0, hH, _, _⟩ := id co.ha
    refine ⟨_, (pss_one (ps_ret (pe_callB (run_len T.me_Hall_len G_Hall_len T.b_Hall_len (hr.mono (by decide))) (by rfl) T.m_len (by decide +kernel) (pa_cons (pe_fld (pv 0) rfl) pa_nil)))), ?_⟩
    exact ⟨.ref x, rfl, x, T.C_House, dx, _, _, rfl, hX, T.cl_House, T.na_House_own, hs_own, hx, dh, _, rfl, hH, hx, s.own, rfl, co.ha, (s.own.length : Int), rfl, by omega, Int.lt_of_le_of_lt (by omega : (s.own.length : Int) ≤ 12) (by decide), q⟩
def spHeldM (C CH : Addr) : Sp := fun vs H Q _ => ∃ (x pa en : Addr) (s : HS) (past : List HS), vs = [.ref x] ∧ HouseAt C CH H x pa en s past ∧ s.pins.length ≤ 60 ∧
  ∀ (l : Addr) (H' : Hp), Same H H' → H l = none → H' l = some (.lst ((s.pins.map (·.1)).map V.int)) → Q (.ref l) H'
theorem pins_get {H : Hp} : ∀ {ps : List Addr} {pins : List (Int × Int)}, Paired (fun p (q : Int × Int) => TupAt H p [.int q.1, .int q.2]) ps pins → ∀ (i : Nat) (h : i < pins.length), ∃ p, (ps.map V.ref)[i]? = some (.ref p) ∧ TupAt H p [.int pins[i].1, .int pins[i].2]
  | _, _, .nil, i, h => absurd h (by simp)
  | _, _, .cons a t, 0, h => ⟨_, rfl, a⟩
  | _, _, .cons a t, i + 1, h => by
    obtain ⟨p, e1, e2⟩ := pins_get t i (by simpa using h)
    exact ⟨p, by simpa using e1, by simpa using e2⟩
set_option maxHeartbeats 1000000 in
theorem ok_House_held (T : Txt K mg w) : FnOk P w K mg base CX0 1 T.f_House_held T.fd_House_held p_House_held (spHeldM T.C_House T.C_Hall) := by
  refine T.F_House_held.ok sc_House_held (fun vs H Q E h => ?_) (fun cdv A outer s H vs Q E hr h => ?_)
  · obtain ⟨x, pa, en, s, past, rfl, _⟩ := h
    rfl
  · obtain ⟨x, pa, en, s, past, rfl, hO, l60, q⟩ := h
    obtain ⟨dx, hx, pt, st, hX, co⟩ := hO.ex
    obtain ⟨ps, hp, pr⟩ := co.hp
    have lp : ps.length = s.pins.length := Paired.length pr
    refine ⟨_, (pss_one (ps_ret (pe_lc (own := [("person", 1), ("number", 2)]) (g := gTup K 2 (gCons (gName 1) (gCons (gName 2) gNil))) (by rfl) sc_House_held.nd (pi_tup (pe_fld (pv 0) rfl)) (blkOk_by (own := [("person", 1), ("number", 2)]) (N := n_House_held) (sc := defScope s_House_held) (by decide +kernel)) (fun _ _ _ _ _ => (pg_tup rfl (pgs_cons (pg_name (i := 1) sc_House_held.nd rfl (.inl rfl) (.inr rfl)) (pgs_cons (pg_name (i := 2) sc_House_held.nd rfl (.inl rfl) (.inr rfl)) pgs_nil)))) (fun _ _ _ _ _ => pts_nil) (fun _ _ _ _ _ => (pv 1))))), ?_⟩
    refine ⟨.ref x, rfl, x, T.C_House, dx, _, _, rfl, hX, T.cl_House, T.na_House_pins, hs_pins, pt, rfl, ⟨_, hp.sq⟩, fun D hD => ?_⟩
    refine lc_map (walk_tup (xs := ps.map V.ref)) (fun k => .int ((s.pins.map (·.1)).getD k 0)) hD (by rw [List.length_map]; omega) (fun H3 s3 => (hp.keep (Keep.same s3)).sq) ?_ ?_
    · rintro k z H3 H4 hk s3 ⟨rfl, hz⟩ Q' Z hQ
      rw [List.length_map] at hk
      obtain ⟨p, e1, e2⟩ := pins_get pr k (by omega)
      obtain rfl : z = .ref p := Option.some.inj (hz.symm.trans e1)
      have eg : (s.pins.map (·.1)).getD k 0 = (s.pins[k]'(by omega)).1 := by
        rw [List.getD_eq_getElem?_getD, List.getElem?_map, List.getElem?_eq_getElem (by omega)]
        rfl
      rw [eg] at hQ
      exact ⟨p, _, rfl, (e2.keep (Keep.same s3)).sq, rfl, _, _, rfl, _, _, rfl, rfl, rfl, yes (iteT ⟨.int _, rfl, hQ _ (Same.refl _)⟩)⟩
    intro H3 s3 h3
    refine q D H3 s3 hD ?_
    rw [h3]
    congr 2
    refine List.ext_getElem (by simp [lp]) fun i h1 h2 => ?_
    have hi : i < s.pins.length := by simpa using h2
    rw [List.getElem_map, List.getElem_map, List.getElem_range, List.getD_eq_getElem?_getD, List.getElem?_eq_getElem (by simpa using hi)]
    rfl
end
end Lh

namespace Lh
open PySem PySem.Spec PyProof.Rows L2
section
variable {P : Program} {w : World} {K : PySem.W.Frag} {mg : Str → Option Value} {base : Heap}
def spRestByBeats (C : Addr) : Sp := fun vs H Q _ => ∃ (x st : Addr) (rs : List Rule) (ns : List Int), vs = [.ref x, .ref st] ∧ HallAt C H x rs ∧ Halls rs ∧ TupAt H st (ns.map V.int) ∧ ns.length = rs.length ∧ (∀ n ∈ ns, 0 ≤ n) ∧
  ∀ (p t : Addr) (m : List Int) (b : Nat) (H' : Hp), Same H H' → H p = none → H' p = some (.tup [.ref t, .int b]) → TupAt H' t (m.map V.int) → Come rs ns m b → Q (.ref p) H'
set_option maxHeartbeats 1000000 in
theorem ok_rest_by_beats (T : Txt K mg w) : FnOk P w K mg base CX0 9 T.f_rest_by_beats T.fd_rest_by_beats p_rest_by_beats (spRestByBeats T.C_Hall) := by
  have G_beaten := ok_beaten (P := P) (w := w) (base := base) T
  refine T.F_rest_by_beats.ok sc_rest_by_beats (fun vs H Q E h => ?_) (fun cdv A outer s H vs Q E hr h => ?_)
  · obtain ⟨x, st, rs, ns, rfl, _⟩ := h
    rfl
  · obtain ⟨x, st, rs, ns, rfl, hA, hh, hS, hn, pos, q⟩ := h
    obtain ⟨N, still, rest⟩ := beat_rest hh hn pos
    refine ⟨_, (pss_cons (ps_set (i := 2) sc_rest_by_beats.nd rfl (.inl rfl) pe_int)
      (pss_cons (ps_set (i := 3) sc_rest_by_beats.nd rfl (.inl rfl) (pv 1))
      (pss_cons (ps_set (i := 4) sc_rest_by_beats.nd rfl (.inl rfl) (pe_call G_beaten (hr.mono (by decide)) (by rfl) T.g_beaten T.F_beaten.kp T.b_beaten .nil pass0 (pa_cons (pv 0) (pa_cons (pv 3) pa_nil))))
      (pss_cons (ps_while PassesOwn.never (pt_cmpR (op_neD hr.units) (pv 4) (pv 3) (nomark _))
        (pss_cons (ps_aug (i := 2) sc_rest_by_beats.nd rfl (.inl rfl) pe_int ip_add)
        (pss_cons (ps_set (i := 3) sc_rest_by_beats.nd rfl (.inl rfl) (pv 4))
        (pss_one (ps_set (i := 4) sc_rest_by_beats.nd rfl (.inl rfl) (pe_call G_beaten (hr.mono (by decide)) (by rfl) T.g_beaten T.F_beaten.kp T.b_beaten .nil pass0 (pa_cons (pv 0) (pa_cons (pv 3) pa_nil))))))))
      (pss_one (ps_ret (pe_tup (pa_cons (pv 3) (pa_cons (pv 2) pa_nil))))))))), ?_⟩
    refine ⟨.ref st, rfl, .ref x, rfl, .ref st, rfl, x, st, rs, ns, rfl, hA, hh, hS, hn, fun t1 m1 H1 s1 n1 h1 be1 => ?_⟩
    have e1 : m1 = beatN rs ns 1 := be1.unique hn (beatN_step hn 0)
    refine while_by (fun σ H3 => ∃ (k : Nat) (t t' : Addr), σ = [some (.ref x), some (.ref st), some (.int (k : Int)), some (.ref t), some (.ref t')] ∧ Same H H3 ∧ TupAt H3 t ((beatN rs ns k).map V.int) ∧ TupAt H3 t' ((beatN rs ns (k + 1)).map V.int) ∧ ∀ i, i < k → beatN rs ns i ≠ beatN rs ns (i + 1))
      (fun σ _ => N - cntOf 2 σ) ⟨0, st, t1, rfl, s1, hS.keep (Keep.same s1), by rw [← e1]; exact h1, fun i h => absurd h (by omega)⟩ ?_ ?_
    · rintro σ H3 ⟨k, t, t', rfl, s3, ht, ht', nw⟩
      refine ⟨.ref t', rfl, .ref t, rfl, _, _, ht'.dp, ht.dp, shaped_tup _, shaped_tup _, _, rfl, ?_⟩
      rw [eqv_tups]
      refine ite2 (fun z => ?_) (fun z => ?_)
      · have ne : ¬ beatN rs ns (k + 1) = beatN rs ns k := by simpa using z
        have lt : k < N := by
          rcases Nat.lt_or_ge k N with c | c
          · exact c
          · exact absurd ((still (k + 1) (by omega)).trans (still k c).symm) ne
        refine ⟨.int k, rfl, _, _, rfl, rfl, .ref t', rfl, .ref x, rfl, .ref t', rfl, x, t', rs, beatN rs ns (k + 1), rfl, hA.keep s3, hh, ht', beatN_len hn _, fun t2 m2 H4 s4 n4 h4 be4 => ?_⟩
        have e4 : m2 = beatN rs ns (k + 2) := be4.unique (beatN_len hn _) (beatN_step hn (k + 1))
        refine ⟨⟨k + 1, t', t2, rfl, s3.trans s4, ht'.keep (Keep.same s4), by rw [← e4]; exact h4, fun i hi => ?_⟩, ?_⟩
        · by_cases c : i = k
          · subst c; exact fun z => ne z.symm
          · exact nw i (by omega)
        · show N - (((k : Nat) : Int) + 1).toNat < N - ((k : Nat) : Int).toNat
          omega
      · have eq : beatN rs ns (k + 1) = beatN rs ns k := by simpa using z
        refine ⟨.ref t, rfl, .int k, rfl, by show 2 ≤ sizeLine; decide, fun p np => ?_⟩
        have sp := same_upd (o := .tup [.ref t, .int (k : Int)]) np
        refine q p t (beatN rs ns k) k _ (s3.trans sp) (s3.free np) upd_same (ht.keep (Keep.same sp)) ⟨rfl, ?_, nw⟩
        have := beatN_step hn k
        rw [eq] at this
        exact this
    · intro σ H3 Q1 Q2 hQ h
      obtain ⟨v, h1, u, h2, d, e, a1, a2, a3, a4, k, e3, h3⟩ := h
      exact ⟨v, h1, u, h2, d, e, a1, a2, a3, a4, k, e3, hQ _ _ h3⟩
end
end Lh

namespace Lh
open PySem PySem.Spec PyProof.Rows L2
/-! ### a dict comprehension of two clauses without tests -/
abbrev dc2 (kx vx a b c d : Expr) (scope : Scope) (pos : Pos) : Expr := .DictComp kx vx [⟨a, b, [], 0⟩, ⟨c, d, [], 0⟩] scope pos
theorem dc2_turn0 (kx vx a b c d : Expr) (scope : Scope) (pos : Pos) (it acc : Value) (env : Env) : compTurn (dc2 kx vx a b c d scope pos) 0 it acc env = (do
    standAt b.pos
    match ← pyNext it with
    | none => pure (.done .next)
    | some v =>
      letOwnedTupleGo a it v
      assign a env v
      let x ← eval d env
      standAt d.pos
      let x ← foldedSetIterable d env x
      let _ ← runOwn (.compStart (dc2 kx vx a b c d scope pos) 1 (← holding [x] (pyIter x)) acc env) env
      again (.compLoop (dc2 kx vx a b c d scope pos) 0 it acc env)) := by rfl
theorem dc2_turn1 (kx vx a b c d : Expr) (scope : Scope) (pos : Pos) (it : Value) (D : Addr) (env : Env) : compTurn (dc2 kx vx a b c d scope pos) 1 it (.ref D) env = (do
    standAt d.pos
    match ← pyNext it with
    | none => pure (.done .next)
    | some v =>
      letOwnedTupleGo c it v
      assign c env v
      (do
        let kv ← eval kx env
        let vv ← holding [kv] (eval vx env)
        standAt { kx.pos with endLine := vx.pos.endLine, endCol := vx.pos.endCol }
        holding [kv, vv] (dictSet D kv vv))
      again (.compLoop (dc2 kx vx a b c d scope pos) 1 it (.ref D) env)) := by rfl
section
variable {prog : Program} {w : World} {A : Around} {R : Result → Shared → Prop} {s : Shared} {kx vx a b c d : Expr} {scope : Scope} {pos : Pos} {it acc : Value} {env : Env}
/-- turns of the outer clause, each measured -/
theorem dc2_outer (hf : ∀ x, foldedSetIterable d env x = pure x) (Inn : Nat → Shared → Prop)
    (one : ∀ n s, Inn n s → wpAny (model prog w) A (pyNext it) (fun o z1 => match o with
      | none => R (.ok .next) z1
      | some v => wpAny (model prog w) A (letOwnedTupleGo a it v) (fun _ z2 => wpAny (model prog w) A (assign a env v) (fun _ z3 => wpAny (model prog w) A (eval d env) (fun x z4 => wpAny (model prog w) A (pyIter x) (fun it1 z5 =>
          codeAny (model prog w) A (.compStart (dc2 kx vx a b c d scope pos) 1 it1 acc env) (fun o z6 => match o with | .ok _ => ∃ m, m < n ∧ Inn m z6 | .error _ => False) z5) (notedBy (model prog w) A env fun e z => R (.error e) z) z4) (notedBy (model prog w) A env fun e z => R (.error e) z) z3) (notedBy (model prog w) A env fun e z => R (.error e) z) z2) (notedBy (model prog w) A env fun e z => R (.error e) z) z1) (notedBy (model prog w) A env fun e z => R (.error e) z) s)
    (n : Nat) (h0 : Inn n s) : codeAny (model prog w) A (.compLoop (dc2 kx vx a b c d scope pos) 0 it acc env) R s := by
  refine codeAny_loop rfl Inn (fun n s hn => ?_) n h0
  show wpAny _ A ((compTurn (dc2 kx vx a b c d scope pos) 0 it acc env).onRaise (fun x => do noteFrame x env; theTreesLotGoes x)) _ _ s
  rw [dc2_turn0]
  refine wpAny_noted (wpAny_bind (wpAny_standAt (wpAny_bind (wpAny_mono (one n s hn) (fun o z1 k1 => ?_) fun _ _ q => q))))
  match o, k1 with
  | none, k1 => exact wpAny_pure k1
  | some v, k1 =>
    refine wpAny_bind (wpAny_mono k1 (fun _ z2 k2 => wpAny_bind (wpAny_mono k2 (fun _ z3 k3 => wpAny_bind (wpAny_mono k3 (fun x z4 k4 => ?_) fun _ _ q => q)) fun _ _ q => q)) fun _ _ q => q)
    refine wpAny_bind (wpAny_standAt (wpAny_bind (wpAny_of_eq (hf x) (wpAny_bind (wpAny_holding (wpAny_mono k4 (fun it1 z5 k5 => wpAny_bind (wpAny_runOwn ?_)) fun _ _ q => q))))))
    rw [Around.mark_none]
    refine codeAny_mono k5 fun o z6 k6 => ?_
    cases o with
    | error e => exact k6.elim
    | ok f =>
      first
        | exact wpAny_pure ⟨rfl, k6⟩
        | exact wpAny_bind (wpAny_pure (wpAny_pure ⟨rfl, k6⟩))
/-- turns of the inner clause -/
theorem dc2_inner {D : Addr} (Inn : Nat → Shared → Prop)
    (one : ∀ n s, Inn n s → wpAny (model prog w) A (pyNext it) (fun o z1 => match o with
      | none => R (.ok .next) z1
      | some v => wpAny (model prog w) A (letOwnedTupleGo c it v) (fun _ z2 => wpAny (model prog w) A (assign c env v) (fun _ z3 => wpAny (model prog w) A (eval kx env) (fun kv z4 => wpAny (model prog w) A (eval vx env) (fun vv z5 =>
          wpAny (model prog w) A (dictSet D kv vv) (fun _ z6 => ∃ m, m < n ∧ Inn m z6) (notedBy (model prog w) A env fun e z => R (.error e) z) z5) (notedBy (model prog w) A env fun e z => R (.error e) z) z4) (notedBy (model prog w) A env fun e z => R (.error e) z) z3) (notedBy (model prog w) A env fun e z => R (.error e) z) z2) (notedBy (model prog w) A env fun e z => R (.error e) z) z1) (notedBy (model prog w) A env fun e z => R (.error e) z) s)
    (n : Nat) (h0 : Inn n s) : codeAny (model prog w) A (.compLoop (dc2 kx vx a b c d scope pos) 1 it (.ref D) env) R s := by
  refine codeAny_loop rfl Inn (fun n s hn => ?_) n h0
  show wpAny _ A ((compTurn (dc2 kx vx a b c d scope pos) 1 it (.ref D) env).onRaise (fun x => do noteFrame x env; theTreesLotGoes x)) _ _ s
  rw [dc2_turn1]
  refine wpAny_noted (wpAny_bind (wpAny_standAt (wpAny_bind (wpAny_mono (one n s hn) (fun o z1 k1 => ?_) fun _ _ q => q))))
  match o, k1 with
  | none, k1 => exact wpAny_pure k1
  | some v, k1 =>
    refine wpAny_bind (wpAny_mono k1 (fun _ z2 k2 => wpAny_bind (wpAny_mono k2 (fun _ z3 k3 => ?_) fun _ _ q => q)) fun _ _ q => q)
    refine wpAny_bind (wpAny_bind (wpAny_mono k3 (fun kv z4 k4 => wpAny_bind (wpAny_holding (wpAny_mono k4 (fun vv z5 k5 => wpAny_bind (wpAny_standAt (wpAny_holding (wpAny_mono k5 (fun _ z6 k6 => ?_) fun _ _ q => q)))) fun _ _ q => q))) fun _ _ q => q))
    exact wpAny_pure ⟨rfl, k6⟩
theorem dc2_begin1 (h0 : codeAny (model prog w) A (.compLoop (dc2 kx vx a b c d scope pos) 1 it acc env) R s)
    (h1 : wpAny (model prog w) A (pyIter it) (fun it' z => codeAny (model prog w) A (.compLoop (dc2 kx vx a b c d scope pos) 1 it' acc env) R z) (notedBy (model prog w) A env fun x z => R (.error x) z) s) : codeAny (model prog w) A (.compStart (dc2 kx vx a b c d scope pos) 1 it acc env) R s := by
  refine codeAny_of_tree (show wpAny _ _ ((compStart (dc2 kx vx a b c d scope pos) 1 it acc env).onRaise (fun x => do noteFrame x env; standAt theWindowsPlace)) _ _ s from wpAny_notedAt ?_)
  unfold compStart
  refine (show wpAny _ _ (ask >>= _) _ _ s from wpAny_bind (wpAny_askSetting (wpAny_ite ?_)))
  split
  · first
      | exact wpAny_pure ⟨rfl, h0⟩
      | exact wpAny_bind (wpAny_pure (wpAny_pure ⟨rfl, h0⟩))
  · refine wpAny_bind (wpAny_rule ?_)
    refine (show wpAny _ _ (standAt d.pos >>= _) _ _ s from wpAny_bind (wpAny_standAt (wpAny_bind (wpAny_mono h1 (fun it' z k => wpAny_pure ⟨rfl, k⟩) fun _ _ q => q))))
end
section
variable {X : Cx}
/-- {k: v for a in b for c in d}: D the new dict; vs the block's own slots, vs1 those of the inner target -/
def tDc2 (wi : TI) (g : TG) (wi1 : TI) (g1 : TG) (tk tv : TE) (vs vs1 : List Nat) : TE := fun σ H Q => wi σ H fun J H1 => ∀ D, H1 D = none → ∃ W : Nat → Nat → Hp → Prop, (∃ m, W 0 m (upd H1 D (.dK []))) ∧ ∀ i m H, W i m H →
  (J.stop i H ∧ Q (.ref D) H) ∨ (J.go i H ∧ ∃ Nx : Hp → Prop, (∀ H', Nx H' → ∃ m', m' < m ∧ W (i + 1) m' H') ∧ ∀ x H', J.yld i H x H' → g x (wipe σ vs) H' fun σ2 H2 => wipe σ2 vs = wipe σ vs ∧ wi1 σ2 H2 fun J1 H4 => ∃ W1 : Nat → Nat → Hp → Prop, (∃ m, W1 0 m H4) ∧ ∀ j k H, W1 j k H →
    (J1.stop j H ∧ Nx H) ∨ (J1.go j H ∧ ∃ Nx1 : Hp → Prop, (∀ H', Nx1 H' → ∃ k', k' < k ∧ W1 (j + 1) k' H') ∧ ∀ x H', J1.yld j H x H' → g1 x (wipe σ2 vs1) H' fun σ3 H5 => wipe σ3 vs1 = wipe σ2 vs1 ∧ tk σ3 H5 fun y H6 => tv σ3 H6 fun z H7 => ∃ kvs key, y = kV key ∧ H7 D = some (.dK kvs) ∧ kvs.length < sizeLine ∧ Nx1 (upd H7 D (.dK (putK kvs key z)))))
abbrev BkX (X : Cx) (scope : Scope) (G : Cx → Prop) : Prop := ∀ (s : Shared) (H : Hp) (C : Addr) (cl : List (Str × Addr)) (fp : List Addr), G (X.blk s H scope (compEnvC scope cl C X.env) fp)
set_option maxHeartbeats 4000000 in
theorem pe_dc2 {kx vx a b c d : Expr} {scope : Scope} {own : List (Str × Nat)} {vs1 : List Nat} {pos : Pos} {wi wi1 : TI} {g g1 : TG} {tk tv : TE} (hc : X.calm = true) (hN : X.N.Nodup) (hi : PI X a b wi) (ok : BlkOk X.N X.env.scope scope own) (hv : ∀ i ∈ vs1, i ∈ own.map (·.2))
    (hg : BkX X scope fun Y => PG Y a g) (hi1 : BkX X scope fun Y => PI Y c d wi1) (hg1 : BkX X scope fun Y => PG Y c g1) (hk : BkX X scope fun Y => PE Y kx tk) (he : BkX X scope fun Y => PE Y vx tv) (hs : ∀ x, foldedSetIterable b X.env x = pure x := by intro _; rfl) (hs1 : ∀ env x, foldedSetIterable d env x = pure x := by intro _ _; rfl) :
    PE X (.DictComp kx vx [⟨a, b, [], 0⟩, ⟨c, d, [], 0⟩] scope pos) (tDc2 wi g wi1 g1 tk tv (own.map (·.2)) vs1) := by
  refine ⟨fun pins s σ H Q I h => ?_⟩
  rw [arm_eval_DictComp]
  have cellsOk : ∀ y ∈ scope.names, y.2 = .free → ∃ c, X.env.cells.lookup y.1 = some c := fun y hy e => (ok.free y hy e).elim (fun z => I.ok.has _ (.inl z)) (fun z => I.ok.has _ (.inr z))
  refine wpAny_comprehension_free rfl hs (closure_ok cellsOk) ok.kind (fun y hy e => by rw [ok.uniq y hy, e]) (thn (hi.run pins s σ H _ I h) fun xv s1 hx => thn hx fun itv s2 h2 => ?_)
  obtain ⟨it, fp, tn, J, H2, eit, I2, TT, st2, f2, q⟩ := h2
  subst eit
  refine wpAny_newObj_type (newEnv_comp ?_)
  -- the new dict
  obtain ⟨D, hD⟩ : ∃ D, D = s2.heap.objs.size := ⟨_, rfl⟩
  rw [← hD]
  obtain ⟨W, ⟨m0, w0⟩, turn⟩ := q D (I2.hok.fresh (Nat.le_of_eq hD.symm))
  obtain ⟨s3, es3⟩ : ∃ s3 : Shared, s3 = { s2 with heap := s2.heap.push { cls := .type "dict", data := .dict #[] } } := ⟨_, rfl⟩
  have hp3 : s3.heap = s2.heap.push { cls := .type "dict", data := .dict #[] } := by rw [es3]
  obtain ⟨H3, eH3⟩ : ∃ H3 : Hp, H3 = upd H2 D (.dK []) := ⟨_, rfl⟩
  have I3 : Inv X pins σ H3 s3 := by
    rw [es3, eH3]
    exact I2.laid (t' := s2.toks) (fun _ _ e => Heap.get?_push_of_some _ e) (Nat.le_of_eq hD.symm) (by rw [hD]; exact dk_empty s2.heap I2.big)
  have low : ∀ z ∈ fp, z < s2.heap.objs.size := fun z hz => (TT.obj _ _ st2 z hz).elim fun o e => Heap.lt_size e.1
  have f3 : ∀ z ∈ fp, FpOk X pins H3 z ∧ z < s3.heap.objs.size := fun z hz => by
    refine ⟨⟨?_, (f2 z hz).2⟩, by rw [hp3, Heap.size_push]; exact Nat.lt_succ_of_lt (low z hz)⟩
    rw [eH3, upd_ne (fun e => Nat.lt_irrefl _ (by have := low z hz; rw [← hD, ← e] at this; exact this))]
    exact (f2 z hz).1
  have st3 : tn 0 s3.heap := TT.keep _ _ _ st2 fun z _ o e => by rw [hp3]; exact Heap.get?_push_of_some _ e
  have I4 := block_start I3 ok hN f3
  rw [← eH3] at w0
  rw [← es3]
  obtain ⟨cl, ecl⟩ : ∃ cl, cl = cellsFrom (s3.heap.objs.size + 1) scope.names (cloFrom X.env.cells scope.names []) := ⟨_, rfl⟩
  rw [← ecl] at I4
  have pg := hg s3 H3 s3.heap.objs.size cl fp
  have pi1 := hi1 s3 H3 s3.heap.objs.size cl fp
  have pg1 := hg1 s3 H3 s3.heap.objs.size cl fp
  have pk := hk s3 H3 s3.heap.objs.size cl fp
  have pv := he s3 H3 s3.heap.objs.size cl fp
  obtain ⟨ce, ece⟩ : ∃ ce, ce = compEnvC scope cl s3.heap.objs.size X.env := ⟨_, rfl⟩
  have cL : ce.locals = s3.heap.objs.size := by rw [ece]; rfl
  rw [← ece] at I4 pg pi1 pg1 pk pv
  obtain ⟨s4, es4⟩ : ∃ s4 : Shared, s4 = { s3 with heap := pushCells (s3.heap.push { cls := .type "dict", data := .dict #[] }) scope.names } := ⟨_, rfl⟩
  rw [← es4] at I4
  have st4 : tn 0 s4.heap := TT.keep _ _ _ st3 fun z _ o e => by rw [es4]; exact pushCells_keeps _ _ _ _ (Heap.get?_push_of_some _ e)
  obtain ⟨Y, eY⟩ : ∃ Y : Cx, Y = X.blk s3 H3 scope ce fp := ⟨_, rfl⟩
  have still : ∀ {σ' : L2.St} {H' : Hp} {s' : Shared}, Inv (X.blk s3 H3 scope ce fp) [] σ' H' s' → (∀ z ∈ fp, H' z = none) → ∀ z ∈ fp, FpOk (X.blk s3 H3 scope ce fp) [] H' z := fun J' hn z hz =>
    ⟨hn z hz, (J'.ok.exf z hz).1, J'.ok.exfs z hz, .inl hz, fun x c e => (J'.ok.exf z hz).2 x c e, fun p hp => absurd (show p ∈ ([] : List (Addr × Obj)) ++ [] from hp) (by simp)⟩
  have outer : codeAny (model X.prog X.w) X.A (.compLoop (dc2 kx vx a b c d scope pos) 0 (.ref it) (.ref D) ce) (compPost (model X.prog X.w) X.A X.xe none (fun v s' => ∃ (v0 : V) (H' : Hp), Inv X pins σ H' s' ∧ RelV v0 v ∧ Q v0 H') (.ref D) s3.heap.objs.size) s4 := by
    refine dc2_outer (hs1 ce) (fun n z => ∃ i H', Inv (X.blk s3 H3 scope ce fp) [] (wipe σ (own.map (·.2))) H' z ∧ tn i z.heap ∧ (∀ y ∈ fp, H' y = none) ∧ W i n H') ?_ m0 ⟨0, H3, I4, st4, fun z hz => (f3 z hz).1.1, w0⟩
    rintro n s5 ⟨i, H5, I5, st5, n5, w5⟩
    rcases turn i n H5 w5 with ⟨stop, qq⟩ | ⟨go, Nx, hNx, step⟩
    · refine thnF (TT.done (X.blk s3 H3 scope ce fp) rfl rfl rfl hc i [] s5 _ H5 (fun _ _ => False) I5 (still I5 n5) st5 stop) fun r s6 ⟨er, I6⟩ => ?_
      subst er
      have I7 : Inv X pins σ H5 s6 := I3.call' (ch := fp) I6.os I6.base I6.hok I6.bare fun z hz => by
        obtain ⟨_, q2, _, q4, q5, q6⟩ := (f3 z hz).1
        exact ⟨q4, q2, q5, q6⟩
      have nC : H5 s3.heap.objs.size = none := by rw [← cL]; exact I6.free
      obtain ⟨m, hn, _⟩ := I6.loc
      have hn' : s6.heap.Ns s3.heap.objs.size m := by rw [← cL]; exact hn
      obtain ⟨g0, g1', g2, g3, g4, g5⟩ := I3.fpOk (pins := pins) (Nat.le_refl s3.heap.objs.size) nC
      exact ⟨m, hn', fun h'' sb => ⟨.ref D, H5, I7.turned (t' := s6.toks) (fun y o hy e => (sb.2 y hy).trans e) g0 g1' g3 g4 g5, rfl, qq⟩⟩
    · refine thnF (TT.item (X.blk s3 H3 scope ce fp) rfl rfl rfl hc i [] s5 _ H5 (fun _ _ => False) I5 (still I5 n5) st5 go) fun r s6 ⟨u, er, h6⟩ => ?_
      subst er
      refine thnF h6 fun _ s7 ⟨x, H7, I7, r7, y7, st7, n7⟩ => ?_
      refine thnF (pg.run _ s7 _ H7 x u _ (I7.pinned (still I7 n7) (TT.obj _ _ st7)) r7 (step x H7 y7)) fun _ s8 ⟨σ8, H8, I8, w8, q8⟩ => ?_
      -- back to the outer clause from any slots that know what was known at first
      have back : ∀ {σ9 : L2.St} {z : Shared} {H' : Hp}, Inv (X.blk s3 H3 scope ce fp) ([] ++ pinsAt fp s7.heap) σ9 H' z → (wipe σ (own.map (·.2))).length = σ9.length → (∀ (j : Nat) v, (wipe σ (own.map (·.2)))[j]? = some (some v) → σ9[j]? = some (some v)) → Nx H' → ∃ m, m < n ∧ ∃ i H', Inv (X.blk s3 H3 scope ce fp) [] (wipe σ (own.map (·.2))) H' z ∧ tn i z.heap ∧ (∀ y ∈ fp, H' y = none) ∧ W i m H' := fun {σ9 z H'} J' e1 e2 nx => by
        obtain ⟨m', lt', w'⟩ := hNx H' nx
        have held : ∀ y ∈ fp, ∀ o, s7.heap.get? y = some o → z.heap.get? y = some o ∧ H' y = none := fun y hy o e => by
          have := J'.pin (y, o) (List.mem_append_right _ (List.mem_append_right _ (mem_pinsAt hy e)))
          exact ⟨this.1, this.2.1⟩
        exact ⟨m', lt', i + 1, H', (J'.unpinned (pins := [])).weak e1 e2, TT.keep _ _ _ st7 (fun y hy o e => (held y hy o e).1), (fun y hy => (TT.obj _ _ st7 y hy).elim fun o e => (held y hy o e.1).2), w'⟩
      have l8 : (wipe σ (own.map (·.2))).length = σ8.length := (congrArg List.length w8).symm.trans (wipe_length _ _)
      have k9 : ∀ (j : Nat) v, (wipe σ (own.map (·.2)))[j]? = some (some v) → (wipe σ8 vs1)[j]? = some (some v) := fun j v e => by
        rw [← w8] at e
        obtain ⟨a1, a2⟩ := wipe_some e
        rw [wipe_out fun z => a2 (hv j z)]
        exact a1
      refine thnF (pi1.run _ s8 σ8 H8 _ I8 q8) fun xv s10 hx => thnF hx fun itv s11 h11 => ?_
      obtain ⟨it1, fp1, tn1, J1, H11, ei1, I11, T1, st11, f11, W1, ⟨m1, w1⟩, turn1⟩ := h11
      subst ei1
      have still1 : ∀ {H' : Hp}, (∀ z ∈ fp1, H' z = none) → ∀ z ∈ fp1, FpOk (X.blk s3 H3 scope ce fp) ([] ++ pinsAt fp s7.heap) H' z := fun hn z hz => ⟨hn z hz, (f11 z hz).2⟩
      have inner : codeAny (model X.prog X.w) X.A (.compLoop (dc2 kx vx a b c d scope pos) 1 (.ref it1) (.ref D) ce) (fun r z => match r with | .ok _ => ∃ m, m < n ∧ ∃ i H', Inv (X.blk s3 H3 scope ce fp) [] (wipe σ (own.map (·.2))) H' z ∧ tn i z.heap ∧ (∀ y ∈ fp, H' y = none) ∧ W i m H' | .error _ => False) s11 := by
        refine dc2_inner (fun k z => ∃ j H', Inv (X.blk s3 H3 scope ce fp) ([] ++ pinsAt fp s7.heap) (wipe σ8 vs1) H' z ∧ tn1 j z.heap ∧ (∀ y ∈ fp1, H' y = none) ∧ W1 j k H') ?_ m1 ⟨0, H11, I11.weak (wipe_length _ _) (fun j v e => (wipe_some e).1), st11, fun z hz => (f11 z hz).1, w1⟩
        rintro k s12 ⟨j, H12, I12, st12, n12, w12⟩
        rcases turn1 j k H12 w12 with ⟨stop1, nx1⟩ | ⟨go1, Nx1, hNx1, step1⟩
        · refine thnF (T1.done (X.blk s3 H3 scope ce fp) rfl rfl rfl hc j _ s12 (wipe σ8 vs1) H12 (fun _ _ => False) I12 (still1 n12) st12 stop1) fun r s13 ⟨er, I13⟩ => ?_
          subst er
          exact back I13 (l8.trans (wipe_length σ8 vs1).symm) k9 nx1
        · refine thnF (T1.item (X.blk s3 H3 scope ce fp) rfl rfl rfl hc j _ s12 (wipe σ8 vs1) H12 (fun _ _ => False) I12 (still1 n12) st12 go1) fun r s13 ⟨u1, er, h13⟩ => ?_
          subst er
          refine thnF h13 fun _ s14 ⟨x1, H14, I14, r14, y14, st14, n14⟩ => ?_
          refine thnF (pg1.run _ s14 (wipe σ8 vs1) H14 x1 u1 _ (I14.pinned (still1 n14) (T1.obj _ _ st14)) r14 (step1 x1 H14 y14)) fun _ s15 ⟨σ15, H15, I15, w15, q15⟩ => ?_
          refine thnF (pk.run _ s15 σ15 H15 _ I15 q15) fun zk s16 ⟨yk, H16, I16, r16, q16⟩ => ?_
          refine thnF (pv.run _ s16 σ15 H16 _ I16 q16) fun zv s17 ⟨yv, H17, I17, r17, kvs, key, ek, hD17, hz17, nx⟩ => ?_
          subst ek
          refine d_dictSet (X := X.blk s3 H3 scope ce fp) I17 hD17 hz17 r16 r17 fun s18 I18 => ?_
          obtain ⟨m', lt', w'⟩ := hNx1 _ nx
          have held : ∀ y ∈ fp1, ∀ o, s14.heap.get? y = some o → s18.heap.get? y = some o ∧ upd H17 D (.dK (putK kvs key yv)) y = none := fun y hy o e => by
            have := I18.pin (y, o) (List.mem_append_right _ (List.mem_append_right _ (mem_pinsAt hy e)))
            exact ⟨this.1, this.2.1⟩
          exact ⟨m', lt', j + 1, _, I18.unpinned.weak ((congrArg List.length w15).symm.trans (wipe_length _ _)) (fun j v e => by rw [← w15] at e; exact (wipe_some e).1), T1.keep _ _ _ st14 (fun y hy o e => (held y hy o e).1), (fun y hy => (T1.obj _ _ st14 y hy).elim fun o e => (held y hy o e.1).2), w'⟩
      exact dc2_begin1 inner (T1.self X.A 0 _ _ _ st11 inner)
  have := codeAny_compStart_dict outer (TT.self X.A 0 _ _ _ st4 outer)
  rw [ece, ecl, es4] at this
  exact this
end
end Lh

namespace Lh
open PySem PySem.Spec PyProof.Rows L2
/-! ### dicts: update, != {}, walks of a comprehension of two clauses -/
section
variable {X : Cx}
def rDUpd : V → List V → Hp → VK → Prop := fun x xs H Q => ∃ (a b : Addr) (kvs more : List (Key × V)), x = .ref a ∧ xs = [.ref b] ∧ H a = some (.dK kvs) ∧ H b = some (.dK more) ∧ a ≠ b ∧ kvs.length + more.length ≤ sizeLine ∧ Q .non (upd H a (.dK (mergeK kvs more)))
theorem putK_len {κ : Type} [DecidableEq κ] (kvs : List (κ × V)) (k : κ) (v : V) : (putK kvs k v).length ≤ kvs.length + 1 := by
  unfold putK
  split
  · rw [List.length_map]; omega
  · rw [List.length_append]; exact Nat.le_refl _
theorem mergeK_len (kvs : List (Key × V)) : ∀ more : List (Key × V), (mergeK kvs more).length ≤ kvs.length + more.length := by
  intro more
  unfold mergeK
  induction more generalizing kvs with
  | nil => exact Nat.le_refl _
  | cons p r ih =>
    rw [List.foldl_cons, List.length_cons]
    have := ih (putK kvs p.1 p.2)
    have := putK_len kvs p.1 p.2
    omega
theorem mt_dupd : MtM X "dict.update" rDUpd := by
  intro pins s σ H x xs v us Q I rx rs h
  obtain ⟨a, b, kvs, more, rfl, rfl, ha, hb, ne, hz, q⟩ := h
  obtain rfl : v = Value.ref a := rx
  cases rs with
  | cons r0 r1 =>
    cases r1
    obtain rfl : _ = Value.ref b := r0
    obtain ⟨z, hd, vs, rel, dd⟩ := dk_of I.hok ha
    obtain ⟨z2, hd2, vs2, rel2, dd2⟩ := dk_of I.hok hb
    refine call_meetsIn PySem.F.slot_dict_update dd.typeIs PySem.F.entry_dict_update (PySem.F.args_dict_update_2 _ _) (meets_dict_update (mixKind X.prog X.w) a b ne hd2) ⟨vs, vs2, dd, dd2, by rw [← rel.length, ← rel2.length]; exact hz, fun h' dd' _ hs => ?_⟩
    have he : ∃ q, h'.get? a = some q := let ⟨q, _, _, hq, _⟩ := dd'; ⟨q, hq⟩
    exact ⟨.non, _, d_write (t' := s.toks) I (by rw [ha]; exact True.intro) hs he (dk_new (Nat.le_trans (mergeK_len _ _) hz) hd (rel2.merge rel) dd'), rfl, q⟩
def rNeE : R2 := fun x y H Q => ∃ a b ks, x = .ref a ∧ y = .ref b ∧ H a = some (.dK ks) ∧ H b = some (.dK []) ∧ Q (.bl (!ks.isEmpty)) H
theorem op_neE (hu : X.A.units < cLine) : OpR X (compareOp .NotEq) rNeE := by
  intro pins s σ H x y v u Q I rx ry h
  obtain ⟨a, b, ks, rfl, rfl, ea, eb, q⟩ := h
  obtain rfl : v = Value.ref a := rx
  obtain rfl : u = Value.ref b := ry
  obtain ⟨_, ya, va, ra, da⟩ := (show ObjOk X.prog X.w H s.heap a (.dK ks) from I.hok a _ ea)
  obtain ⟨_, yb, vb, rb, db⟩ := (show ObjOk X.prog X.w H s.heap b (.dK []) from I.hok b _ eb)
  cases rb
  refine PySem.W.keq_ne (knd := mixKind X.prog X.w) (r := true) ya yb da db hu (fun e => ?_) (fin_bl I q ?_)
  · cases va with
    | nil => exact .nil
    | cons p r => cases e
  · have := ra.length
    cases ks with
    | nil => cases va with
      | nil => rfl
      | cons p r => cases this
    | cons p r => cases va with
      | nil => cases this
      | cons p' r' => rfl
theorem dc2_it {J : It} {n : Nat} {G : Hp → Prop} {Y : Nat → Hp → V → Hp → Prop} (w : Walk J n G Y) {S : V → Hp → (Hp → Prop) → Prop} {H1 : Hp} {Qd : Hp → Prop} (Pv : Nat → Hp → Prop) (h0 : Pv 0 H1) (hG : ∀ i H, i ≤ n → Pv i H → G H)
    (hs : ∀ i x H H', i < n → Pv i H → Y i H x H' → S x H' (Pv (i + 1))) (hd : ∀ H, Pv n H → Qd H) :
    ∃ W : Nat → Nat → Hp → Prop, (∃ m, W 0 m H1) ∧ ∀ i m H, W i m H → (J.stop i H ∧ Qd H) ∨ (J.go i H ∧ ∃ Nx : Hp → Prop, (∀ H', Nx H' → ∃ m', m' < m ∧ W (i + 1) m' H') ∧ ∀ x H', J.yld i H x H' → S x H' Nx) := by
  refine ⟨fun i m H => m = n - i ∧ i ≤ n ∧ Pv i H, ⟨n, by simp, Nat.zero_le _, h0⟩, ?_⟩
  rintro i m H ⟨rfl, hi, p⟩
  have q := hG i H hi p
  by_cases hlt : i < n
  · exact .inr ⟨w.goes i H hlt q, Pv (i + 1), fun H' p' => ⟨n - (i + 1), by omega, rfl, hlt, p'⟩, fun x H' y => hs i x H H' hlt p (w.yields i H x H' hlt q y)⟩
  · have e : i = n := by omega
    subst e
    exact .inl ⟨w.stops H q, hd H p⟩
end
end Lh

namespace Lh
open PySem PySem.Spec PyProof.Rows L2
/-! ### a list or a tuple, whichever it is -/
def SeqH (H : Hp) (a : Addr) (xs : List V) : Prop := H a = some (.lst xs) ∨ TupAt H a xs
theorem SeqH.same {H H' : Hp} {a : Addr} {xs : List V} (s : Same H H') (h : SeqH H a xs) : SeqH H' a xs := h.elim (fun z => .inl (s _ _ z)) fun z => .inr (z.keep (Keep.same s))
theorem SeqH.sq {K : PySem.W.Frag} {H : Hp} {a : Addr} {xs : List V} (h : SeqH H a xs) : SqL K H a xs ∨ SqT K H a xs := h.elim (fun z => .inl (.inl (.inl z))) fun z => .inr z.sq
theorem SeqH.has {H : Hp} {a : Addr} {xs : List V} (h : SeqH H a xs) : ∃ o, H a = some o := by
  rcases h with h | h | ⟨o, _, h⟩
  · exact ⟨_, h⟩
  · exact ⟨_, h⟩
  · exact ⟨_, h⟩
theorem SeqH.ext {bx : Addr} {H H' : Hp} {a : Addr} {xs : List V} (e : Ext bx H H') (n : a ≠ bx) (h : SeqH H a xs) : SeqH H' a xs := h.elim (fun z => .inl (e _ _ n z)) fun z => .inr (z.ext e n)
theorem SeqH.ne {bx : Addr} {c : Int} {H H' : Hp} {a : Addr} {xs : List V} (b : Box bx c H) (n : H a = none) : a ≠ bx := b.ne n
/-- walked: one of both -/
def iAny (K : PySem.W.Frag) (tl : TE) : TI := fun σ H R => iList K tl σ H R ∨ iTup K tl σ H R
def iEnumA (K : PySem.W.Frag) (ta : TA) : TI := fun σ H R => iEnum K ta σ H R ∨ iEnumT K ta σ H R
section
variable {X : Cx} {tg : Expr} {K : PySem.W.Frag}
theorem pi_any {l : Expr} {tl : TE} (h : PE X l tl) : PI X tg l (iAny X.K tl) := ⟨fun pins s σ H R I q => q.elim ((pi_list h).run pins s σ H R I) ((pi_tup h).run pins s σ H R I)⟩
theorem pi_enumA {e : Expr} {ta : TA} {p pos tpos : Pos} {elts : List Expr} {kk : Nat} (hg : Gl X "enumerate") (hm : X.mg "enumerate" = none) (ha : PA X [e] ta) (hs : starEach [e] X.env = [(false, eval e X.env)] := by rfl) :
    PI X (.Tuple elts kk tpos) (.Call (.Name "enumerate" p) [e] [] pos) (iEnumA X.K ta) :=
  ⟨fun pins s σ H R I q => q.elim ((pi_enum hg hm ha hs).run pins s σ H R I) ((pi_enumT hg hm ha hs).run pins s σ H R I)⟩
/-- what a walk of the thing at a asks, from then on: that it stands -/
def Stands (H : Hp) (a : Addr) (G : Hp → Prop) : Prop := ∀ H', (∀ o, H a = some o → H' a = some o) → G H'
theorem Stands.same {H H' : Hp} {a : Addr} {G : Hp → Prop} (g : Stands H a G) (s : Same H H') : G H' := g H' fun o h => s _ _ h
theorem any_var {σ : L2.St} {i : Nat} {a : Addr} {H : Hp} {xs : List V} {R : It → Hp → Prop} (hv : σ[i]? = some (some (.ref a))) (h : SeqH H a xs)
    (k : ∀ J G, Walk J xs.length G (YAt xs) → Stands H a G → R J H) : iAny K (tVar i) σ H R := by
  rcases h with h | h
  · exact .inl ⟨_, hv, a, rfl, ⟨xs, .inl (.inl h)⟩, k _ _ walk_list fun H' e => .inl (.inl (e _ h))⟩
  · refine .inr ⟨_, hv, a, rfl, ⟨xs, h.sq⟩, k _ _ walk_tup fun H' e => ?_⟩
    rcases h with h | ⟨o, _, h⟩
    · exact .inl (.inl (e _ h))
    · exact .inl (.inr ⟨o, e _ h⟩)
theorem enum_var {σ : L2.St} {i : Nat} {a : Addr} {H : Hp} {xs : List V} {R : It → Hp → Prop} (hv : σ[i]? = some (some (.ref a))) (h : SeqH H a xs)
    (k : ∀ J G, Walk J xs.length G (YPair (fun n => some (.int (n : Nat))) (fun n => xs[n]?)) → Stands H a G → R J H) : iEnumA K (tCons (tVar i) tNil) σ H R := by
  rcases h with h | h
  · exact .inl ⟨_, hv, a, xs, rfl, .inl (.inl h), k _ _ walk_enum fun H' e => .inl (.inl (e _ h))⟩
  · refine .inr ⟨_, hv, a, xs, rfl, h.sq, k _ _ walk_enumT fun H' e => ?_⟩
    rcases h with h | ⟨o, _, h⟩
    · exact .inl (.inl (e _ h))
    · exact .inl (.inr ⟨o, e _ h⟩)
/-- the same, where it stood at an earlier heap already -/
theorem any_varS {σ : L2.St} {i : Nat} {a : Addr} {H0 H : Hp} {xs : List V} {R : It → Hp → Prop} (hv : σ[i]? = some (some (.ref a))) (s : Same H0 H) (h : SeqH H0 a xs)
    (k : ∀ J G, Walk J xs.length G (YAt xs) → (∀ {H'}, Same H0 H' → G H') → R J H) : iAny K (tVar i) σ H R :=
  any_var hv (h.same s) fun J G W g => k J G W fun {H'} s' => g H' fun o e => by
    obtain ⟨u, hu⟩ := h.has
    rw [s _ _ hu] at e
    cases e
    exact s' _ _ hu
/-- an item of one of both -/
theorem ix_at {H : Hp} {a : Addr} {xs : List V} {n : Int} {v : V} {Q : VK} (h : SeqH H a xs) (e : atI xs n = some v) (q : Q v H) : rIx K (.ref a) (.int n) H Q :=
  h.elim (fun z => .inl ⟨a, xs, n, v, rfl, rfl, .inl (.inl z), e, q⟩) fun z => .inr (.inl ⟨a, xs, n, v, rfl, rfl, z.sq, e, q⟩)
end
/-! ### lists of persons, in a list or a tuple -/
def vN (p : Nat) : V := .int (p : Int)
def LsAt (H : Hp) : List V → List (List Nat) → Prop := Paired fun u l => ∃ b, u = .ref b ∧ SeqH H b (l.map vN)
theorem LsAt.same {H H' : Hp} (s : Same H H') : ∀ {us : List V} {ls : List (List Nat)}, LsAt H us ls → LsAt H' us ls
  | _, _, .nil => .nil
  | _, _, .cons ⟨b, e, h⟩ r => .cons ⟨b, e, h.same s⟩ (LsAt.same s r)
theorem LsAt.get {H : Hp} : ∀ {us : List V} {ls : List (List Nat)}, LsAt H us ls → ∀ (i : Nat) (h : i < ls.length), ∃ b, us[i]? = some (.ref b) ∧ SeqH H b (ls[i].map vN)
  | _, _, .nil, i, h => absurd h (by simp)
  | _, _, .cons ⟨b, e, h⟩ r, 0, _ => ⟨b, congrArg some e, h⟩
  | _, _, .cons _ r, i + 1, h => LsAt.get r i (by simpa using h)
/-- lists of persons of n, each in one, none bare -/
structure Part (n : Nat) (ls : List (List Nat)) : Prop where
  few : n ≤ 60
  bare : ∀ l ∈ ls, l ≠ []
  once : ls.flatten.Nodup
  all : ∀ p, p ∈ ls.flatten ↔ p < n
theorem nodup_lenN : ∀ {l m : List Nat}, l.Nodup → (∀ x ∈ l, x ∈ m) → l.length ≤ m.length
  | [], _, _, _ => Nat.zero_le _
  | x :: r, m, h, s => by
    have hx := s x List.mem_cons_self
    obtain ⟨h1, h2⟩ := List.nodup_cons.mp h
    have := nodup_lenN (l := r) (m := m.erase x) h2 fun y hy => (List.mem_erase_of_ne (fun e : y = x => h1 (by rw [← e]; exact hy))).mpr (s y (List.mem_cons_of_mem _ hy))
    rw [List.length_erase_of_mem hx] at this
    have := List.length_pos_of_mem hx
    rw [List.length_cons]
    omega
theorem Part.count {n : Nat} {ls : List (List Nat)} (h : Part n ls) : ls.flatten.length = n := by
  have h1 := nodup_lenN h.once fun x hx => List.mem_range.mpr ((h.all x).mp hx)
  have h2 := nodup_lenN (List.nodup_range (n := n)) fun x hx => (h.all x).mpr (List.mem_range.mp hx)
  rw [List.length_range] at h1 h2
  omega
theorem flat_len : ∀ (ls : List (List Nat)), (∀ l ∈ ls, l ≠ []) → ls.length ≤ ls.flatten.length
  | [], _ => Nat.le_refl _
  | l :: r, h => by
    have := flat_len r fun x hx => h x (List.mem_cons_of_mem _ hx)
    have := List.length_pos_iff.mpr (h l List.mem_cons_self)
    rw [List.flatten_cons, List.length_append, List.length_cons]
    omega
theorem Part.len {n : Nat} {ls : List (List Nat)} (h : Part n ls) : ls.length ≤ n := by
  have := flat_len ls h.bare
  rw [h.count] at this
  exact this
theorem Part.inner {n : Nat} {ls : List (List Nat)} (h : Part n ls) {i : Nat} (hi : i < ls.length) : ls[i].length ≤ n ∧ ∀ p ∈ ls[i], p < n := by
  have sub : ∀ p ∈ ls[i], p ∈ ls.flatten := fun p hp => List.mem_flatten.mpr ⟨_, List.getElem_mem hi, hp⟩
  refine ⟨?_, fun p hp => (h.all p).mp (sub p hp)⟩
  rw [← h.count]
  exact nodup_lenN ((List.sublist_flatten_of_mem (List.getElem_mem hi)).nodup h.once) sub
/-- the list that a person is in -/
def wh (ls : List (List Nat)) (p : Nat) : Nat := ls.findIdx fun l => decide (p ∈ l)
theorem wh_at : ∀ {ls : List (List Nat)} {p : Nat}, p ∈ ls.flatten → ∃ h : wh ls p < ls.length, p ∈ ls[wh ls p] := by
  intro ls p hp
  obtain ⟨l, hl, hpl⟩ := List.mem_flatten.mp hp
  have h : wh ls p < ls.length := List.findIdx_lt_length_of_exists ⟨l, hl, decide_eq_true hpl⟩
  exact ⟨h, of_decide_eq_true (List.findIdx_getElem (w := h))⟩
theorem wh_is : ∀ {ls : List (List Nat)} {p i : Nat} (hi : i < ls.length), ls.flatten.Nodup → p ∈ ls[i] → wh ls p = i
  | [], _, _, hi, _, _ => absurd hi (by simp)
  | l :: r, p, 0, _, _, h => by
    unfold wh
    rw [List.findIdx_cons, decide_eq_true (show p ∈ l from h)]
    rfl
  | l :: r, p, i + 1, hi, nd, h => by
    rw [List.flatten_cons] at nd
    obtain ⟨_, nr, dj⟩ := List.nodup_append.mp nd
    have hi' : i < r.length := by simpa using hi
    have h' : p ∈ r[i] := h
    have no : p ∉ l := fun z => dj p z p (List.mem_flatten.mpr ⟨_, List.getElem_mem hi', h'⟩) rfl
    have ih := wh_is hi' nr h'
    unfold wh at ih ⊢
    rw [List.findIdx_cons, decide_eq_false no, ih]
    rfl
/-- the persons of the first i lists, and the first j of the next -/
def done (ls : List (List Nat)) (i j : Nat) : List Nat := (ls.take i).flatten ++ (ls.getD i []).take j
theorem done_next {ls : List (List Nat)} {i j : Nat} (hi : i < ls.length) (hj : j < ls[i].length) : done ls i (j + 1) = done ls i j ++ [ls[i][j]] := by
  unfold done
  have e : ls.getD i [] = ls[i] := by rw [List.getD_eq_getElem?_getD, List.getElem?_eq_getElem hi]; rfl
  rw [e, List.take_add_one, List.getElem?_eq_getElem hj, ← List.append_assoc]
  rfl
theorem done_on {ls : List (List Nat)} {i : Nat} (hi : i < ls.length) : done ls i ls[i].length = done ls (i + 1) 0 := by
  unfold done
  have e : ls.getD i [] = ls[i] := by rw [List.getD_eq_getElem?_getD, List.getElem?_eq_getElem hi]; rfl
  rw [e, List.take_length, List.take_zero, List.append_nil, List.take_add_one, List.getElem?_eq_getElem hi, List.flatten_append]
  simp
theorem done_end {ls : List (List Nat)} : done ls ls.length 0 = ls.flatten := by
  unfold done
  rw [List.take_length, List.take_zero, List.append_nil]
theorem done_cut {ls : List (List Nat)} {i : Nat} (hi : i < ls.length) (j : Nat) : ∃ more, ls.flatten = done ls i j ++ more := by
  unfold done
  have e : ls.getD i [] = ls[i] := by rw [List.getD_eq_getElem?_getD, List.getElem?_eq_getElem hi]; rfl
  rw [e]
  refine ⟨ls[i].drop j ++ (ls.drop (i + 1)).flatten, ?_⟩
  conv => lhs; rw [← List.take_append_drop i ls, List.drop_eq_getElem_cons hi]
  rw [List.flatten_append, List.flatten_cons, List.append_assoc, ← List.append_assoc (ls[i].take j), List.take_append_drop]
theorem done_new {ls : List (List Nat)} {i j : Nat} (hi : i < ls.length) (hj : j < ls[i].length) (nd : ls.flatten.Nodup) : ls[i][j] ∉ done ls i j := by
  obtain ⟨more, e⟩ := done_cut hi (j + 1)
  rw [e, done_next hi hj, List.append_assoc] at nd
  intro z
  exact (List.nodup_append.mp nd).2.2 _ z _ List.mem_cons_self rfl
/-! ### the dict of who is in which -/
def WhD (ls : List (List Nat)) (ps : List Nat) (kvs : List (Key × V)) : Prop := kvs.length = ps.length ∧ ∀ p : Nat, valV kvs (Sum.inl (p : Int)) = if p ∈ ps then some (vN (wh ls p)) else none
theorem WhD.nil {ls : List (List Nat)} : WhD ls [] [] := ⟨rfl, fun p => by rw [if_neg (by simp)]; rfl⟩
theorem WhD.put {ls : List (List Nat)} {ps : List Nat} {kvs : List (Key × V)} {p : Nat} (h : WhD ls ps kvs) (hp : p ∉ ps) : WhD ls (ps ++ [p]) (putK kvs (Sum.inl (p : Int)) (vN (wh ls p))) := by
  obtain ⟨h1, h2⟩ := h
  have n := h2 p
  rw [if_neg hp] at n
  have e : putK kvs (Sum.inl (p : Int)) (vN (wh ls p)) = kvs ++ [(Sum.inl (p : Int), vN (wh ls p))] := by
    unfold putK
    rw [valV_any, n]
    rfl
  rw [e]
  refine ⟨by rw [List.length_append, List.length_append, h1]; rfl, fun q => ?_⟩
  rw [valV_snoc _ _ _ _ n]
  by_cases c : q = p
  · subst c
    rw [if_pos rfl, if_pos (by simp)]
  · have c' : ¬ (Sum.inl (q : Int) : Key) = Sum.inl (p : Int) := fun z => c (by have := Sum.inl.inj z; omega)
    rw [if_neg c', h2 q]
    by_cases d : q ∈ ps
    · rw [if_pos d, if_pos (by simp [d])]
    · rw [if_neg d, if_neg (by simp [d, c])]
end Lh

namespace Lh
open PySem PySem.Spec PyProof.Rows L2
/-! ### more words around exceptions: one class in a clause, keywords and methods within a suite -/
theorem seq_useN {t u : TS} {D : Ends} {σ : L2.St} {H : Hp} (Φ : L2.St → Hp → Prop) (a : ∀ N : L2.St → Hp → Prop, (∀ σ H, Φ σ H → N σ H) → t { D with nx := N } σ H) (b : ∀ σ H, Φ σ H → u D σ H) : tSeq t u D σ H := a (u D) b
theorem gname_step {i : Nat} {v : V} {σ : L2.St} {H : Hp} {D : L2.St → Hp → Prop} (h : D (σ.set i (some v)) H) : gName i v σ H D := h
theorem seq_asg {v : V} {i : Nat} {u : TS} {D : Ends} {σ : L2.St} {H : Hp} (h : u D (σ.set i (some v)) H) : tSeq (tAsg (tC v) (gName i)) u D σ H := h
section
variable {X : Cx} {x : Str} {c1 : Value} {p1 : Pos}
theorem tests1 (hc1 : Names X x c1) : Tests X (.Name x p1) (fun cls => PySem.W.exmOne X.K cls c1 = some true) := by
  intro pins σ H s a oa va cls d I ga za da na ap one R E q
  refine named I ga da na ap hc1 ?_
  have knd : PySem.W.Looks (model X.prog X.w) s.heap (typeOf (.ref a)) cls := fun _ _ _ _ k q => wpAny_typeOf_ref (k _ _ ga) (za.1.symm ▸ q)
  exact (PySem.W.exm_one (M := model X.prog X.w) I.kIn knd one).here (q s.heap fun _ _ z => z)
end
section
variable {X : Cx} {CX : CXT} {k n : Nat} {f : Addr} {fd : FuncData} {ps ks : List Str} {sp : Sp} {E : L2.St → XK} {x : Str} {p pos : Pos} {e : Expr} {es : List Expr} {kws : List Keyword} {t tk : TA} {g : List Value → List Value → List Value} {gV : List V → List V → List V}
def tCallNS (n m : Nat) (sp : Sp) (gV : List V → List V → List V) (E : L2.St → XK) (t tk : TA) : TE := fun σ H Q => t σ H fun vs H1 => tk σ H1 fun zs H2 => vs.length = n ∧ zs.length = m ∧ sp (gV vs zs) H2 Q (E σ)
/-- f(e, .., k = v, ..) where what it may let out is caught by the slots -/
theorem pe_callNS (F : FnOk X.prog X.w X.K X.mg X.base CX k f fd ps sp) (hr : Room k X.A) (hg : Gl X x) (hm : X.mg x = some (.ref f)) (hk : PySem.W.keepIn X.K (.ref f) = true) (hb : KBn X.K fd ps n ks g gV) (hx : ∀ σ, PassesAt CX X σ (E σ))
    (ha : PA X (e :: es) t) (hkw : PK X kws tk) (hall : (backToKw pos (keywordEach kws X.env)).all (·.1.isSome) = true := by rfl) (hks : (backToKw pos (keywordEach kws X.env)).filterMap (·.1) = ks := by rfl)
    (hdb : (x == ("__debug__" : Str)) = false := by decide) (he : starEach (e :: es) X.env = (false, eval e X.env) :: starEach es X.env := by rfl)
    (hpl : ((backTo pos (starEach (e :: es) X.env)).any (·.1) || (backToKw pos (keywordEach kws X.env)).any (·.1.isNone)) = false := by rfl) :
    PE X (.Call (.Name x p) (e :: es) kws pos) (tCallNS n ks.length sp gV E t tk) := by
  constructor
  intro pins s σ H Q I h
  refine wpAny_Call_Name_kw (ld_glob I hg hm ?_ hdb)
  refine PySem.W.callWith_KW (h₀ := X.base) I.ok.mod.kin hk hall (thn (ha.run pos pins s σ H _ I h) ?_) hpl he
  rintro us s1 ⟨vs, H1, I1, r, q⟩
  refine thn (hkw.run pos pins s1 σ H1 _ I1 q) ?_
  rintro ws s2 ⟨zs, H2, I2, rz, l1, l2, q2⟩
  refine ⟨I2.kIn, ?_⟩
  rw [hks]
  have r2 := hb.rel r rz
  refine wpAny_call (codeAny_mono (F.run X.A X.stack s2 H2 ⟨us, ks.zip ws⟩ (g us ws) (gV vs zs) Q (E σ) hr I2.env0 (hb.to s2 us ws I2.kIn (r.length.symm.trans l1) (rz.length.symm.trans l2)) r2 q2) ?_)
  intro z s3 hq
  match z with
  | .error er => exact hx σ pins H2 s2 er s3 I2 hq
  | .ok (.ret u) => exact I2.after hq
  | .ok .next => exact hq.elim
  | .ok .brk => exact hq.elim
  | .ok .cont => exact hq.elim
end
section
variable {X : Cx} {CX : CXT} {k n : Nat} {f C : Addr} {fd : FuncData} {ps ks : List Str} {sp : Sp} {E : L2.St → XK} {m : Str} {apos pos : Pos} {e o : Expr} {es : List Expr} {kw : Keyword} {kws : List Keyword} {ta : TE} {t tk : TA} {g : List Value → List Value → List Value} {gV : List V → List V → List V}
def tMethS (C : Addr) (m : Str) (sp : Sp) (E : L2.St → XK) (ta : TE) (t : TA) : TE := fun σ H Q => ta σ H fun x H1 => ∃ (a dx : Addr) (fs : List (Str × V)), x = .ref a ∧ H1 a = some (.ins C dx fs) ∧ fs.lookup m = none ∧ t σ H1 fun vs H2 => sp (.ref a :: vs) H2 Q (E σ)
/-- o.m(e, ..) where what it may let out is caught by the slots -/
theorem pe_methS {pl : Sem Bool} (he : PE X o ta) (c : Cls X.K C) (hm : Meth X.K C m f) (F : FnOk X.prog X.w X.K X.mg X.base CX k f fd ps sp) (hr : Room k X.A) (hb : Binds X.K fd ps []) (hx : ∀ σ, PassesAt CX X σ (E σ)) (ha : PA X (e :: es) t)
    (hst : starEach (e :: es) X.env = (false, eval e X.env) :: starEach es X.env := by rfl) (hpl : (backTo pos (starEach es X.env)).any (·.1) = false := by rfl)
    (ht : eval (.Call (.Attribute o m apos) (e :: es) [] pos) X.env = (do
      let ov ← eval o X.env
      standAt apos.atName
      let (f, first) ← holding [ov] (getMethod ov m pl)
      callWith pos f first (backTo pos (starEach (e :: es) X.env)) (backToKw pos (keywordEach [] X.env))) := by rfl) :
    PE X (.Call (.Attribute o m apos) (e :: es) [] pos) (tMethS C m sp E ta t) := by
  constructor
  intro pins s σ H Q I h
  refine PySem.W.methodCall_KW (pl := pl) (thn (he.run pins s σ H _ I h) ?_) ht
  rintro u s1 ⟨x, H1, I1, rx, a, dx, fs, ex, ea, l, q⟩
  subst ex
  cases (show u = Value.ref a from rx)
  refine getmeth_ok I1 ea c hm l ?_
  refine PySem.W.callWith_K (first := [.ref a]) (h₀ := X.base) I.ok.mod.kin hm.kp (thn (ha.run pos pins s1 σ H1 _ I1 q) ?_) hst hpl
  rintro us s2 ⟨vs, H2, I2, r, q2⟩
  exact ⟨I2.kIn, run_fnS (us := .ref a :: us) (vs := .ref a :: vs) F hr hb (hx σ) I2 (.cons rfl r) q2⟩
end
end Lh

namespace Lh
open PySem PySem.Spec PyProof.Rows L2
/-- how many changes so many beats make -/
noncomputable def chN (rs : List Rule) (ns : List Int) : Nat → Int
  | 0 => 0
  | k + 1 => chN rs ns k + (chgL (beatN rs ns k) (beatN rs ns (k + 1))).length
theorem chg_nil {a b : List Int} (h : a.length = b.length) : chgL a b = [] ↔ b = a := by
  unfold chgL
  rw [List.map_eq_nil_iff, List.filter_eq_nil_iff]
  constructor
  · intro n
    refine nth_ext h.symm fun i hi => ?_
    have := n i (List.mem_range.mpr hi)
    simpa using this
  · intro e i hi
    subst e
    simp
theorem chg_len (a b : List Int) : (chgL a b).length ≤ b.length := by
  unfold chgL
  rw [List.length_map]
  exact Nat.le_trans (List.length_filter_le _ _) (by rw [List.length_range]; exact Nat.le_refl _)
theorem beat_still {rs : List Rule} {ns : List Int} (hn : ns.length = rs.length) {k : Nat} (e : beatN rs ns (k + 1) = beatN rs ns k) : ∀ j, beatN rs ns (k + j) = beatN rs ns k
  | 0 => rfl
  | j + 1 => by
    have ih := beat_still hn e j
    have b1 := beatN_step hn (k + j)
    rw [ih] at b1
    have b2 := beatN_step hn k
    rw [e] at b2
    exact Beat.unique (beatN_len hn k) b1 b2
theorem ch_still {rs : List Rule} {ns : List Int} (hn : ns.length = rs.length) {k : Nat} (e : beatN rs ns (k + 1) = beatN rs ns k) : ∀ j, chN rs ns (k + j) = chN rs ns k
  | 0 => rfl
  | j + 1 => by
    rw [show k + (j + 1) = (k + j) + 1 from rfl]
    show chN rs ns (k + j) + (chgL (beatN rs ns (k + j)) (beatN rs ns (k + j + 1))).length = _
    rw [ch_still hn e j, beat_still hn e j, show k + j + 1 = k + (j + 1) from rfl, beat_still hn e (j + 1), (chg_nil rfl).mpr rfl]
    show chN rs ns k + ((0 : Nat) : Int) = _
    omega
section
variable {P : Program} {w : World} {K : PySem.W.Frag} {mg : Str → Option Value} {base : Heap}
def spRulesM (C : Addr) : Sp := fun vs H Q _ => ∃ (x : Addr) (rs : List Rule), vs = [.ref x] ∧ HallAt C H x rs ∧ ∀ (t : Addr) (us : List V), TupAt H t us → RulesAt H us rs → Q (.ref t) H
theorem ok_Hall_rulesM (T : Txt K mg w) : FnOk P w K mg base CX0 1 T.f_Hall_rules T.fd_Hall_rules p_Hall_rules (spRulesM T.C_Hall) := by
  refine T.F_Hall_rules.ok sc_Hall_rules (fun vs H Q E h => ?_) (fun cdv A outer s H vs Q E hr h => ?_)
  · obtain ⟨x, rs, rfl, _⟩ := h
    rfl
  · obtain ⟨x, rs, rfl, ⟨dx, t, us, hx, ht, ra⟩, q⟩ := h
    refine ⟨_, (pss_one (ps_ret (pe_fld (pv 0) rfl))), ?_⟩
    exact ⟨.ref x, rfl, x, T.C_Hall, dx, _, _, rfl, hx, T.cl_Hall, T.na_Hall_kept, kept_yes _, q t us ht ra⟩
def spHallM (C CH : Addr) : Sp := fun vs H Q _ => ∃ (x pa en : Addr) (s : HS) (past : List HS), vs = [.ref x] ∧ HouseAt C CH H x pa en s past ∧ s.Ok ∧
  ∀ (z : Addr) (H' : Hp), Same H H' → HallAt CH H' z s.now → Q (.ref z) H'
theorem paired_setM {α β : Type} {R : α → β → Prop} : ∀ {xs : List α} {ys : List β}, Paired R xs ys → ∀ (i : Nat) {x : α} {y : β}, R x y → Paired R (xs.set i x) (ys.set i y)
  | _, _, .nil, _, _, _, _ => .nil
  | _, _, .cons _ t, 0, _, _, h => .cons h t
  | _, _, .cons a t, i + 1, _, _, h => .cons a (paired_setM t i h)
theorem pinsR_snoc (ps : List (Int × Int)) (q : Int × Int) (rs : List Rule) : pinsR (ps ++ [q]) rs = (pinsR ps rs).set q.1.toNat (.held q.2) := by
  unfold pinsR
  rw [List.foldl_append]
  rfl
set_option maxHeartbeats 2000000 in
theorem ok_House_hall (T : Txt K mg w) : FnOk P w K mg base CX0 9 T.f_House_hall T.fd_House_hall p_House_hall (spHallM T.C_House T.C_Hall) := by
  have G_Hall_rules := ok_Hall_rulesM (P := P) (w := w) (base := base) T
  have G_Hall_init := ok_Hall_init (P := P) (w := w) (base := base) T
  refine T.F_House_hall.ok sc_House_hall (fun vs H Q E h => ?_) (fun cdv A outer s H vs Q E hr h => ?_)
  · obtain ⟨x, pa, en, s, past, rfl, _⟩ := h
    rfl
  · obtain ⟨x, pa, en, s, past, rfl, hO, ok, q⟩ := h
    obtain ⟨dx, hx, pt, st, hX, co⟩ := hO.ex
    obtain ⟨ps, hp, pr⟩ := co.hp
    have lp : ps.length = s.pins.length := Paired.length pr
    obtain ⟨dh, t0, vs0, hH, _, _⟩ := id co.ha
    refine ⟨_, (pss_cons (ps_set (i := 1) sc_House_hall.nd rfl (.inl rfl) (pe_callTy call_list_of (by rfl) T.m_list (by decide +kernel) (pa_cons (pe_meth0 (pe_fld (pv 0) rfl) T.cl_Hall T.me_Hall_rules G_Hall_rules (hr.mono (by decide)) T.b_Hall_rules .nil pass0) pa_nil)))
      (pss_cons (ps_for PassesOwn.never rfl (pi_tup (pe_fld (pv 0) rfl)) (pg_tup rfl (pgs_cons (pg_name (i := 2) sc_House_hall.nd rfl (.inl rfl)) (pgs_cons (pg_name (i := 3) sc_House_hall.nd rfl (.inl rfl)) pgs_nil)))
        (pss_one (ps_asg (pe_tup (pa_cons pe_str (pa_cons (pv 3) pa_nil))) (pg_sub (pv 1) (pv 2) set_list))))
      (pss_one (ps_ret (pe_make T.mk_Hall G_Hall_init (hr.mono (by decide)) (by rfl) T.g_Hall T.b_Hall_init .nil pass0 (pa_cons (pv 1) pa_nil)))))), ?_⟩
    refine ⟨.ref x, rfl, x, T.C_House, dx, _, _, rfl, hX, T.cl_House, T.na_House_own, hs_own, hx, dh, _, rfl, hH, kept_no _ (by decide +kernel), hx, s.own, rfl, co.ha, fun t us ht ra => ?_⟩
    have lu : us.length = s.own.length := ra.length
    refine ⟨t, us, rfl, .inr ht.sq, fun d nd => ?_⟩
    have sd := same_upd (o := .lst us) nd
    have hd := upd_same (H := H) (a := d) (o := HO.lst us)
    generalize upd H d (.lst us) = H1 at sd hd ⊢
    refine ⟨.ref x, rfl, x, T.C_House, dx, _, _, rfl, sd _ _ hX, T.cl_House, T.na_House_pins, hs_pins, pt, rfl, ⟨_, (hp.keep (Keep.same sd)).sq⟩, ?_⟩
    refine for_it (walk_tup (xs := ps.map V.ref)) (fun i σ H3 => ∃ (us3 : List V) (y2 y3 : Option V), σ = [some (.ref x), some (.ref d), y2, y3] ∧ Same H H3 ∧ H3 d = some (.lst us3) ∧ RulesAt H3 us3 (pinsR (s.pins.take i) s.own)) ⟨us, none, none, rfl, sd, hd, ra.keep (Keep.same sd)⟩ ?_ ?_ ?_
    · rintro i σ H3 _ ⟨us3, y2, y3, rfl, s3, _⟩
      exact (hp.keep (Keep.same s3)).sq
    · rintro i z σ H3' H3 hi ⟨us3, y2, y3, rfl, s3, hd3, ra3⟩ ⟨rfl, hz⟩
      rw [List.length_map] at hi
      obtain ⟨p, e1, e2⟩ := pins_get pr i (by omega)
      obtain rfl : z = .ref p := Option.some.inj (hz.symm.trans e1)
      have pok := ok.pn _ (List.getElem_mem (show i < s.pins.length by omega))
      have tk : s.pins.take (i + 1) = s.pins.take i ++ [s.pins[i]'(by omega)] := by rw [List.take_add_one, List.getElem?_eq_getElem (by omega)]; rfl
      generalize s.pins[i]'(by omega) = pq at e2 pok tk
      obtain ⟨a, b⟩ := pq
      obtain ⟨p1, p2, p3, p4⟩ := pok
      have p1 : 0 ≤ a := p1
      have p2 : a < s.own.length := p2
      obtain ⟨k, rfl⟩ : ∃ k : Nat, a = (k : Int) := ⟨a.toNat, by omega⟩
      refine ⟨p, _, rfl, (e2.keep (Keep.same s3)).sq, rfl, _, _, rfl, _, _, rfl, rfl, ?_⟩
      refine ⟨.int b, rfl, by show 2 ≤ sizeLine; decide, fun r nr => ?_⟩
      have sr := same_upd (o := .tup [.str "held", .int b]) nr
      have hr' := upd_same (H := H3) (a := r) (o := HO.tup [.str "held", .int b])
      generalize upd H3 r (.tup [.str "held", .int b]) = H4 at sr hr' ⊢
      have hd4 := sr _ _ hd3
      have l3 : us3.length = s.own.length := by rw [ra3.length, pinsR_len]
      refine ⟨.ref d, rfl, .int (k : Nat), rfl, d, _, _, k, rfl, rfl, hd4, ixN_at (by omega), ?_⟩
      have kT := keep_lst (ys := us3.set k (.ref r)) hd4
      refine ⟨us3.set k (.ref r), _, _, rfl, same_mut (s3.trans sr) nd, upd_same, ?_⟩
      rw [tk, pinsR_snoc]
      exact paired_setM ((ra3.keep (Keep.same sr)).keep kT) k ⟨r, rfl, kT.tup _ _ hr'⟩
    · rintro σ H3 ⟨us3, y2, y3, rfl, s3, hd3, ra3⟩
      rw [List.length_map, lp, List.take_length] at ra3
      refine ⟨.ref d, rfl, fun z dz nz ndz nzd => ?_⟩
      have sz : Same H3 (upd (upd H3 dz (.own z)) z (.ins T.C_Hall dz [])) := fun b o hb => by
        rw [upd_ne (ne_of_none hb nz), upd_ne (ne_of_none hb ndz)]
        exact hb
      refine ⟨z, dz, d, us3, s.now, rfl, upd_same, sz _ _ hd3, ra3.keep (Keep.same sz), ok.now, fun H5 k5 hZ => ⟨rfl, ?_⟩⟩
      exact q z H5 (s3.trans fun b o hb => k5 b o (ne_of_none hb nz) (sz b o hb)) hZ
theorem Aw.free {F : List Addr} {H H' : Hp} {a : Addr} (w : Aw F H H') (n : a ∉ F) (h : H' a = none) : H a = none := by
  cases e : H a with
  | none => rfl
  | some o => rw [w a o n e] at h; cases h
theorem SeqH.aw {F : List Addr} {H H' : Hp} {a : Addr} {xs : List V} (w : Aw F H H') (n : a ∉ F) : SeqH H a xs → SeqH H' a xs
  | .inl h => .inl (w _ _ n h)
  | .inr (.inl h) => .inr (.inl (w _ _ n h))
  | .inr (.inr ⟨o, d, h⟩) => .inr (.inr ⟨o, d, w _ _ n h⟩)
theorem HouseAt.pa_ne {C CH : Addr} {H : Hp} {x pa en : Addr} {s : HS} {past : List HS} (h : HouseAt C CH H x pa en s past) {l : Addr} (n : H l = none) : l ≠ x ∧ l ≠ pa ∧ l ≠ en := by
  obtain ⟨dx, hx, pt, st, e, _⟩ := h.ex
  obtain ⟨us, e2, _⟩ := h.hp
  obtain ⟨es, e3⟩ := h.he
  exact ⟨(ne_of_none e n).symm, (ne_of_none e2 n).symm, (ne_of_none e3 n).symm⟩
theorem nin1 {a b : Addr} (h : a ≠ b) : a ∉ [b] := by rw [List.mem_singleton]; exact h
theorem nin2 {a b c : Addr} (h : a ≠ b) (g : a ≠ c) : a ∉ [b, c] := by
  rw [List.mem_cons, List.mem_singleton]
  exact fun z => z.elim h g
def spTurnM (C CH X : Addr) : Sp := fun vs H Q E => ∃ (x pa en pl : Addr) (s : HS) (past : List HS) (qs : List Int), vs = [.ref x, .ref pl] ∧ HouseAt C CH H x pa en s past ∧ s.Ok ∧ past.length ≤ 999 ∧ SeqH H pl (qs.map V.int) ∧ pl ≠ pa ∧
  ((∀ q ∈ qs, 0 ≤ q ∧ q < s.own.length) → ∀ (l : Addr) (ms : List Int) (H' : Hp), Aw [x, pa] H H' → H l = none → H' l = some (.lst ((chgL s.shown ms).map V.int)) → Turned s.now s.shown (fun i => i ∈ qs) ms → HouseAt C CH H' x pa en ⟨s.own, s.pins, ms, s.ch + (chgL s.shown ms).length⟩ (past ++ [s]) → Q (.ref l) H') ∧
  (∀ (k : Nat) (hk : k < qs.length), (∀ j (hj : j < k), 0 ≤ qs[j] ∧ qs[j] < s.own.length) → ¬ (0 ≤ qs[k] ∧ qs[k] < s.own.length) → NoP X E H qs[k])
theorem first_bad {n : Nat} : ∀ qs : List Int, (∀ q ∈ qs, 0 ≤ q ∧ q < (n : Int)) ∨ ∃ (k : Nat) (hk : k < qs.length), (∀ j (hj : j < k), 0 ≤ qs[j] ∧ qs[j] < (n : Int)) ∧ ¬ (0 ≤ qs[k] ∧ qs[k] < (n : Int))
  | [] => .inl fun q hq => absurd hq (by simp)
  | a :: r => by
    by_cases c : 0 ≤ a ∧ a < (n : Int)
    · rcases first_bad (n := n) r with h | ⟨k, hk, h1, h2⟩
      · exact .inl fun q hq => by
          rcases List.mem_cons.mp hq with rfl | hq
          · exact c
          · exact h q hq
      · refine .inr ⟨k + 1, by simpa using hk, fun j hj => ?_, by simpa using h2⟩
        cases j with
        | zero => exact c
        | succ j => simpa using h1 j (by omega)
    · exact .inr ⟨0, by simp, fun j hj => absurd hj (by omega), c⟩
set_option maxHeartbeats 2000000 in
theorem ok_House_turnX (T : Txt K mg w) : FnOk P w K mg base (L2.CX P w) 11 T.f_House_turn T.fd_House_turn p_House_turn (spTurnM T.C_House T.C_Hall T.C_NoPerson) := by
  have G_Hall_must_have := ok_must_haveX (P := P) (w := w) (base := base) T
  have G_House_remember := ok_House_remember (P := P) (w := w) (base := base) T
  have G_House_move := ok_House_move (P := P) (w := w) (base := base) T
  have G_House_hall := ok_House_hall (P := P) (w := w) (base := base) T
  have G_turned := ok_turned (P := P) (w := w) (base := base) T
  refine T.F_House_turn.okX sc_House_turn (fun vs H Q E h => ?_) (fun cdv A outer s0 H vs Q E hr h => ?_)
  · obtain ⟨x, pa, en, pl, s, past, qs, rfl, _⟩ := h
    rfl
  · obtain ⟨x, pa, en, pl, s, past, qs, rfl, hO, ok, l9, hL, npl, qQ, qE⟩ := h
    obtain ⟨dx, hx, pt, st, hX, co⟩ := hO.ex
    obtain ⟨dh, t0, vs0, hH, _, _⟩ := id co.ha
    obtain ⟨N1, N2⟩ := hO.x_pa
    refine ⟨_, (pss_cons (ps_for (passes_of rfl) rfl (pi_any (pv 1)) (pg_name (i := 2) sc_House_turn.nd rfl (.inl rfl))
        (pss_one (ps_expr (pe_meth (pe_fld (pv 0) rfl) T.cl_Hall T.me_Hall_must_have G_Hall_must_have (hr.mono (by decide)) T.b_Hall_must_have .nil (passes_call (takes_of rfl rfl rfl rfl) (fun _ _ _ _ h => h)) (pa_cons (pv 2) pa_nil)))))
      (pss_cons (ps_expr (pe_meth0 (pv 0) T.cl_House T.me_House_remember G_House_remember (hr.mono (by decide)) T.b_House_remember .nil pass0))
      (pss_one (ps_ret (pe_meth (pv 0) T.cl_House T.me_House_move G_House_move (hr.mono (by decide)) T.b_House_move .nil pass0 (pa_cons (pe_call G_turned (hr.mono (by decide)) (by rfl) T.g_turned T.F_turned.kp T.b_turned .nil pass0 (pa_cons (pe_meth0 (pv 0) T.cl_House T.me_House_hall G_House_hall (hr.mono (by decide)) T.b_House_hall .nil pass0) (pa_cons (pe_fld (pv 0) rfl) (pa_cons (pv 1) pa_nil)))) pa_nil)))))), ?_⟩
    have start : L2.start n_House_turn [V.ref x, V.ref pl] = [some (.ref x), some (.ref pl), none] := rfl
    rw [start]
    refine seq_useN (fun σ H1 => ∃ y2 : Option V, σ = [some (.ref x), some (.ref pl), y2] ∧ H1 = H ∧ ∀ q ∈ qs, 0 ≤ q ∧ q < (s.own.length : Int)) (fun N hN => ?_) ?_
    · refine any_var rfl hL fun J G W g => ?_
      refine for_it W (fun i σ H1 => ∃ y2 : Option V, σ = [some (.ref x), some (.ref pl), y2] ∧ H1 = H ∧ ∀ j (hj : j < qs.length), j < i → 0 ≤ qs[j] ∧ qs[j] < (s.own.length : Int)) ⟨none, rfl, rfl, fun j _ hj => absurd hj (by omega)⟩ ?_ ?_ ?_
      · rintro i σ H1 _ ⟨y2, rfl, rfl, _⟩
        exact g _ fun o h => h
      · rintro i z σ H1' H1 hi ⟨y2, rfl, rfl, on⟩ ⟨rfl, hz⟩
        rw [List.length_map] at hi
        rw [List.getElem?_map, List.getElem?_eq_getElem hi] at hz
        cases hz
        refine ⟨.ref x, rfl, x, T.C_House, dx, _, _, rfl, hX, T.cl_House, T.na_House_own, hs_own, hx, dh, _, rfl, hH, kept_no _ (by decide +kernel), .int qs[i], rfl, hx, qs[i], s.own, rfl, co.ha, fun inr => ⟨_, rfl, rfl, fun j hj lt => ?_⟩, fun out => qE i hi (fun j hj => on j (by omega) hj) out⟩
        by_cases c : j = i
        · subst c; exact inr
        · exact on j hj (by omega)
      · rintro σ H1 ⟨y2, rfl, rfl, on⟩
        rw [List.length_map] at on
        refine hN _ _ ⟨y2, rfl, rfl, fun q hq => ?_⟩
        obtain ⟨j, hj, rfl⟩ := List.mem_iff_getElem.mp hq
        exact on j hj hj
    rintro σ H1 ⟨y2, rfl, rfl, inr⟩
    refine ⟨.ref x, rfl, x, dx, _, rfl, hX, hs_no (by decide +kernel), x, pa, en, s, past, rfl, hO, l9, fun H2 a2 hO2 => ?_⟩
    obtain ⟨dx2, hx2, pt2, st2, hX2, co2⟩ := hO2.ex
    have hL2 := hL.aw a2 (nin1 npl)
    refine ⟨.ref x, rfl, x, dx2, _, rfl, hX2, hs_no (by decide +kernel), .ref x, rfl, x, dx2, _, rfl, hX2, hs_no (by decide +kernel), x, pa, en, s, past ++ [s], rfl, hO2, ok, fun z H3 s3 hz => ?_⟩
    have l12 : s.own.length ≤ 12 := ok.hh.2.1
    refine ⟨.ref x, rfl, x, T.C_House, dx2, _, _, rfl, s3 _ _ hX2, T.cl_House, T.na_House_shown, hs_shown, .ref pl, rfl, z, st2, pl, s.now, s.shown, qs, rfl, hz, ok.now, co2.hs.keep (Keep.same s3), by rw [HS.now_len]; exact ok.ln, hL2.same s3, by rw [HS.now_len]; exact inr, fun t ms H4 s4 nt ht tu => ?_⟩
    have hO4 := (hO2.same s3).same s4
    refine ⟨x, pa, en, t, s, past ++ [s], ms, rfl, hO4, ht, tu.1, by rw [tu.1, ok.ln]; omega, fun l H5 a5 nl hl hO5 => ?_⟩
    obtain ⟨m1, m2, m3⟩ := hO4.pa_ne nl
    refine qQ inr l ms H5 ((a2.mono fun f hf => List.mem_cons_of_mem _ hf).trans ((Aw.of (s3.trans s4)).trans (a5.mono fun f hf => by rw [List.mem_singleton.mp hf]; exact List.mem_cons_self))) (a2.free (nin1 m2) (s3.free (s4.free nl))) hl tu hO5
end
end Lh

namespace Lh
open PySem PySem.Spec PyProof.Rows L2
section
variable {P : Program} {w : World} {K : PySem.W.Frag} {mg : Str → Option Value} {base : Heap}
noncomputable def HS.beats (s : HS) (m : Nat) : HS := ⟨s.own, s.pins, beatN s.now s.shown m, s.ch + chN s.now s.shown m⟩
theorem HS.beats0 (s : HS) : s.beats 0 = s := by
  obtain ⟨a, b, c, d⟩ := s
  show HS.mk a b c (d + 0) = _
  rw [Int.add_zero]
theorem HS.beats_step (s : HS) (i : Nat) : HS.mk s.own s.pins (beatN s.now s.shown (i + 1)) ((s.beats i).ch + (chgL (beatN s.now s.shown i) (beatN s.now s.shown (i + 1))).length) = s.beats (i + 1) := by
  unfold HS.beats
  congr 1
  show s.ch + chN s.now s.shown i + _ = s.ch + (chN s.now s.shown i + _)
  rw [Int.add_assoc]
theorem HS.beats_still {s : HS} (ln : s.shown.length = s.now.length) {k : Nat} (e : beatN s.now s.shown (k + 1) = beatN s.now s.shown k) (j : Nat) : s.beats (k + j) = s.beats k := by
  unfold HS.beats
  rw [beat_still ln e j, ch_still ln e j]
def spBeatM (C CH : Addr) : Sp := fun vs H Q _ => ∃ (x pa en : Addr) (m : Nat) (s : HS) (past : List HS), vs = [.ref x, .int m] ∧ HouseAt C CH H x pa en s past ∧ s.Ok ∧ past.length ≤ 999 ∧ m ≤ 1000 ∧
  ∀ (st : Addr) (H' : Hp), Aw [x, pa] H H' → TupAt H' st ((beatN s.now s.shown m).map V.int) → HouseAt C CH H' x pa en (s.beats m) (past ++ [s]) → Q (.ref st) H'
set_option maxHeartbeats 2000000 in
theorem ok_House_beat (T : Txt K mg w) : FnOk P w K mg base CX0 11 T.f_House_beat T.fd_House_beat p_House_beat (spBeatM T.C_House T.C_Hall) := by
  have G_House_remember := ok_House_remember (P := P) (w := w) (base := base) T
  have G_House_move := ok_House_move (P := P) (w := w) (base := base) T
  have G_House_hall := ok_House_hall (P := P) (w := w) (base := base) T
  have G_beaten := ok_beaten (P := P) (w := w) (base := base) T
  refine FunD.ok (CX := CX0) T.F_House_beat sc_House_beat (fun vs H Q E h => ?_) (fun cdv A outer s0 H vs Q E hr h => ?_)
  · obtain ⟨x, pa, en, m, s, past, rfl, _⟩ := h
    rfl
  · obtain ⟨x, pa, en, m, s, past, rfl, hO, ok, l9, m1, q⟩ := h
    obtain ⟨dx, hx, pt, st, hX, co⟩ := hO.ex
    have l12 : s.own.length ≤ 12 := ok.hh.2.1
    have ln : s.shown.length = s.now.length := by rw [HS.now_len]; exact ok.ln
    obtain ⟨N1, N2⟩ := hO.x_pa
    refine ⟨_, PSs.nox (pss_cons (ps_set (i := 2) sc_House_beat.nd rfl (.inl rfl) (pe_meth0 (pv 0) T.cl_House T.me_House_hall G_House_hall (hr.mono (by decide)) T.b_House_hall .nil pass0))
      (pss_cons (ps_expr (pe_meth0 (pv 0) T.cl_House T.me_House_remember G_House_remember (hr.mono (by decide)) T.b_House_remember .nil pass0))
      (pss_cons (ps_for PassesOwn.never rfl (pi_range1 (by rfl) T.m_range (pa_cons (pv 1) pa_nil)) (pg_name (i := 3) sc_House_beat.nd rfl (.inl rfl))
        (pss_one (ps_if (pt_not (pt_truth (pe_meth (pv 0) T.cl_House T.me_House_move G_House_move (hr.mono (by decide)) T.b_House_move .nil pass0 (pa_cons (pe_call G_beaten (hr.mono (by decide)) (by rfl) T.g_beaten T.F_beaten.kp T.b_beaten .nil pass0 (pa_cons (pv 2) (pa_cons (pe_fld (pv 0) rfl) pa_nil))) pa_nil)) (by intro _; rfl)))
          (pss_one ps_break)
          pss_nil)))
      (pss_one (ps_ret (pe_fld (pv 0) rfl)))))), ?_⟩
    have start : L2.start n_House_beat [V.ref x, V.int m] = [some (.ref x), some (.int m), none, none] := rfl
    rw [start]
    refine ⟨.ref x, rfl, x, dx, _, rfl, hX, hs_no (by decide +kernel), x, pa, en, s, past, rfl, hO, ok, fun z H1 s1 hz => ?_⟩
    have hO1 := hO.same s1
    obtain ⟨dx1, hx1, pt1, st1, hX1, co1⟩ := hO1.ex
    refine ⟨.ref x, rfl, x, dx1, _, rfl, hX1, hs_no (by decide +kernel), x, pa, en, s, past, rfl, hO1, l9, fun H2 a2 hO2 => ?_⟩
    have kz := a2.keepM fun f hf => by rw [List.mem_singleton.mp hf]; exact hO1.mut pa (by simp)
    have hz2 := hz.keepM kz
    have a02 : Aw [x, pa] H H2 := (Aw.of s1).trans (a2.mono fun f hf => List.mem_cons_of_mem _ hf)
    dsimp only [List.set_cons_succ, List.set_cons_zero]
    refine seq_useN (fun σ H3 => ∃ y3 : Option V, σ = [some (.ref x), some (.int m), some (.ref z), y3] ∧ Aw [x] H2 H3 ∧ HouseAt T.C_House T.C_Hall H3 x pa en (s.beats m) (past ++ [s])) (fun N hN => ?_) ?_
    · refine ⟨.int m, rfl, (m : Int), rfl, by omega, by omega, ?_⟩
      refine for_it walk_range (fun i σ H3 => ∃ y3 : Option V, σ = [some (.ref x), some (.int m), some (.ref z), y3] ∧ Aw [x] H2 H3 ∧ HouseAt T.C_House T.C_Hall H3 x pa en (s.beats i) (past ++ [s])) ⟨none, rfl, Aw.refl _, by rw [HS.beats0]; exact hO2⟩ (fun _ _ _ _ _ => trivial) ?_ ?_
      · rintro i v σ H3' H3 hi ⟨y3, rfl, a3, hO3⟩ ⟨rfl, rfl⟩
        have hi' : i < m := by have : i < ((m : Nat) : Int).toNat := hi; omega
        obtain ⟨dx3, hx3, pt3, st3, hX3, co3⟩ := hO3.ex
        have hz3 := hz2.keepM (a3.keepM fun f hf => by rw [List.mem_singleton.mp hf]; exact hO2.mut x (by simp))
        have lk := beatN_len ln i
        refine ⟨.ref x, rfl, x, dx3, _, rfl, hX3, hs_no (by decide +kernel), .ref z, rfl, .ref x, rfl, x, T.C_House, dx3, _, _, rfl, hX3, T.cl_House, T.na_House_shown, hs_shown, z, st3, s.now, beatN s.now s.shown i, rfl, hz3, ok.now, co3.hs, lk, fun t ms H4 s4 nt ht be => ?_⟩
        obtain rfl : ms = beatN s.now s.shown (i + 1) := be.unique lk (beatN_step ln i)
        have hO4 := hO3.same s4
        refine ⟨x, pa, en, t, s.beats i, past ++ [s], _, rfl, hO4, ht, (beatN_len ln (i + 1)).trans lk.symm, by rw [beatN_len ln (i + 1), HS.now_len]; omega, fun l H5 a5 nl hl hO5 => ?_⟩
        have a35 : Aw [x] H2 H5 := a3.trans ((Aw.of s4).trans a5)
        rw [show (s.beats i).shown = beatN s.now s.shown i from rfl] at hl hO5
        rw [show HS.mk (s.beats i).own (s.beats i).pins (beatN s.now s.shown (i + 1)) ((s.beats i).ch + (chgL (beatN s.now s.shown i) (beatN s.now s.shown (i + 1))).length) = s.beats (i + 1) from HS.beats_step s i] at hO5
        refine ⟨!(chgL (beatN s.now s.shown i) (beatN s.now s.shown (i + 1))).isEmpty, .inl ⟨_, .inl (.inl hl), by rw [List.isEmpty_map]⟩, ?_⟩
        by_cases c : chgL (beatN s.now s.shown i) (beatN s.now s.shown (i + 1)) = []
        · have e := (chg_nil (lk.trans (beatN_len ln (i + 1)).symm)).mp c
          refine iteP (by rw [c]; rfl) (hN _ _ ⟨_, rfl, a35, ?_⟩)
          obtain ⟨d, rfl⟩ : ∃ d, m = i + d := ⟨m - i, by omega⟩
          rw [HS.beats_still ln e d, ← HS.beats_still ln e 1]
          exact hO5
        · exact iteN (by cases hc : chgL (beatN s.now s.shown i) (beatN s.now s.shown (i + 1)) with | nil => exact absurd hc c | cons _ _ => rfl) ⟨_, rfl, a35, hO5⟩
      · rintro σ H3 ⟨y3, rfl, a3, hO3⟩
        rw [Int.toNat_natCast] at hO3
        exact hN _ _ ⟨_, rfl, a3, hO3⟩
    rintro σ H3 ⟨y3, rfl, a3, hO3⟩
    obtain ⟨dx3, hx3, pt3, st3, hX3, co3⟩ := hO3.ex
    exact ⟨.ref x, rfl, x, T.C_House, dx3, _, _, rfl, hX3, T.cl_House, T.na_House_shown, hs_shown, q st3 H3 (a02.trans (a3.mono fun f hf => by rw [List.mem_singleton.mp hf]; exact List.mem_cons_self)) co3.hs hO3⟩
def spRestM (C CH : Addr) : Sp := fun vs H Q _ => ∃ (x pa en : Addr) (s : HS) (past : List HS), vs = [.ref x] ∧ HouseAt C CH H x pa en s past ∧ s.Ok ∧ past.length ≤ 999 ∧
  ∀ (b : Nat) (H' : Hp), Aw [x, pa] H H' → Come s.now s.shown (beatN s.now s.shown b) b → HouseAt C CH H' x pa en (s.beats b) (past ++ [s]) → Q (.int b) H'
set_option maxHeartbeats 2000000 in
theorem ok_House_rest (T : Txt K mg w) : FnOk P w K mg base CX0 11 T.f_House_rest T.fd_House_rest p_House_rest (spRestM T.C_House T.C_Hall) := by
  have G_House_remember := ok_House_remember (P := P) (w := w) (base := base) T
  have G_House_move := ok_House_move (P := P) (w := w) (base := base) T
  have G_House_hall := ok_House_hall (P := P) (w := w) (base := base) T
  have G_beaten := ok_beaten (P := P) (w := w) (base := base) T
  refine T.F_House_rest.ok sc_House_rest (fun vs H Q E h => ?_) (fun cdv A outer s0 H vs Q E hr h => ?_)
  · obtain ⟨x, pa, en, s, past, rfl, _⟩ := h
    rfl
  · obtain ⟨x, pa, en, s, past, rfl, hO, ok, l9, q⟩ := h
    obtain ⟨dx, hx, pt, st, hX, co⟩ := hO.ex
    have l12 : s.own.length ≤ 12 := ok.hh.2.1
    have ln : s.shown.length = s.now.length := by rw [HS.now_len]; exact ok.ln
    obtain ⟨N, still, rest⟩ := beat_rest ok.now ln (fun n hn => (ok.nn n hn).1)
    refine ⟨_, (pss_cons (ps_set (i := 1) sc_House_rest.nd rfl (.inl rfl) (pe_meth0 (pv 0) T.cl_House T.me_House_hall G_House_hall (hr.mono (by decide)) T.b_House_hall .nil pass0))
      (pss_cons (ps_expr (pe_meth0 (pv 0) T.cl_House T.me_House_remember G_House_remember (hr.mono (by decide)) T.b_House_remember .nil pass0))
      (pss_cons (ps_set (i := 2) sc_House_rest.nd rfl (.inl rfl) pe_int)
      (pss_cons (ps_while PassesOwn.never (pt_truth (pe_meth (pv 0) T.cl_House T.me_House_move G_House_move (hr.mono (by decide)) T.b_House_move .nil pass0 (pa_cons (pe_call G_beaten (hr.mono (by decide)) (by rfl) T.g_beaten T.F_beaten.kp T.b_beaten .nil pass0 (pa_cons (pv 1) (pa_cons (pe_fld (pv 0) rfl) pa_nil))) pa_nil)) (by intro _; rfl))
        (pss_one (ps_aug (i := 2) sc_House_rest.nd rfl (.inl rfl) pe_int ip_add)))
      (pss_one (ps_ret (pv 2))))))), ?_⟩
    have start : L2.start n_House_rest [V.ref x] = [some (.ref x), none, none] := rfl
    rw [start]
    refine ⟨.ref x, rfl, x, dx, _, rfl, hX, hs_no (by decide +kernel), x, pa, en, s, past, rfl, hO, ok, fun z H1 s1 hz => ?_⟩
    have hO1 := hO.same s1
    obtain ⟨dx1, hx1, pt1, st1, hX1, co1⟩ := hO1.ex
    refine ⟨.ref x, rfl, x, dx1, _, rfl, hX1, hs_no (by decide +kernel), x, pa, en, s, past, rfl, hO1, l9, fun H2 a2 hO2 => ?_⟩
    have kz := a2.keepM fun f hf => by rw [List.mem_singleton.mp hf]; exact hO1.mut pa (by simp)
    have hz2 := hz.keepM kz
    have a02 : Aw [x, pa] H H2 := (Aw.of s1).trans (a2.mono fun f hf => List.mem_cons_of_mem _ hf)
    dsimp only [List.set_cons_succ, List.set_cons_zero]
    refine ⟨fun mm σ H3 => ∃ r : Nat, mm = N - r ∧ σ = [some (.ref x), some (.ref z), some (.int r)] ∧ Aw [x] H2 H3 ∧ HouseAt T.C_House T.C_Hall H3 x pa en (s.beats r) (past ++ [s]) ∧ ∀ i, i < r → beatN s.now s.shown i ≠ beatN s.now s.shown (i + 1), ⟨_, 0, rfl, rfl, Aw.refl _, by rw [HS.beats0]; exact hO2, fun i hi => absurd hi (by omega)⟩, ?_⟩
    rintro mm σ H3 ⟨r, rfl, rfl, a3, hO3, nw⟩
    obtain ⟨dx3, hx3, pt3, st3, hX3, co3⟩ := hO3.ex
    have hz3 := hz2.keepM (a3.keepM fun f hf => by rw [List.mem_singleton.mp hf]; exact hO2.mut x (by simp))
    have lk := beatN_len ln r
    refine ⟨.ref x, rfl, x, dx3, _, rfl, hX3, hs_no (by decide +kernel), .ref z, rfl, .ref x, rfl, x, T.C_House, dx3, _, _, rfl, hX3, T.cl_House, T.na_House_shown, hs_shown, z, st3, s.now, beatN s.now s.shown r, rfl, hz3, ok.now, co3.hs, lk, fun t ms H4 s4 nt ht be => ?_⟩
    obtain rfl : ms = beatN s.now s.shown (r + 1) := be.unique lk (beatN_step ln r)
    have hO4 := hO3.same s4
    refine ⟨x, pa, en, t, s.beats r, past ++ [s], _, rfl, hO4, ht, (beatN_len ln (r + 1)).trans lk.symm, by rw [beatN_len ln (r + 1), HS.now_len]; omega, fun l H5 a5 nl hl hO5 => ?_⟩
    have a35 : Aw [x] H2 H5 := a3.trans ((Aw.of s4).trans a5)
    rw [show (s.beats r).shown = beatN s.now s.shown r from rfl] at hl hO5
    rw [show HS.mk (s.beats r).own (s.beats r).pins (beatN s.now s.shown (r + 1)) ((s.beats r).ch + (chgL (beatN s.now s.shown r) (beatN s.now s.shown (r + 1))).length) = s.beats (r + 1) from HS.beats_step s r] at hO5
    refine ⟨!(chgL (beatN s.now s.shown r) (beatN s.now s.shown (r + 1))).isEmpty, .inl ⟨_, .inl (.inl hl), by rw [List.isEmpty_map]⟩, ?_⟩
    by_cases c : chgL (beatN s.now s.shown r) (beatN s.now s.shown (r + 1)) = []
    · have e := (chg_nil (lk.trans (beatN_len ln (r + 1)).symm)).mp c
      rw [c]
      refine ⟨.int r, rfl, q r H5 (a02.trans (a35.mono fun f hf => by rw [List.mem_singleton.mp hf]; exact List.mem_cons_self)) ⟨rfl, ?_, nw⟩ ?_⟩
      · have := beatN_step ln r
        rw [e] at this
        exact this
      · rw [← HS.beats_still ln e 1]
        exact hO5
    · have ne : beatN s.now s.shown (r + 1) ≠ beatN s.now s.shown r := fun e => c ((chg_nil (lk.trans (beatN_len ln (r + 1)).symm)).mpr e)
      have lt : r < N := by
        rcases Nat.lt_or_ge r N with z | z
        · exact z
        · exact absurd ((still (r + 1) (by omega)).trans (still r z).symm) ne
      rw [show (!(chgL (beatN s.now s.shown r) (beatN s.now s.shown (r + 1))).isEmpty) = true by cases hc : chgL (beatN s.now s.shown r) (beatN s.now s.shown (r + 1)) with | nil => exact absurd hc c | cons _ _ => rfl]
      refine ⟨fun σ' H' => σ' = [some (.ref x), some (.ref z), some (.int ((r + 1 : Nat) : Int))] ∧ H' = H5, fun σ' H' ⟨e1, e2⟩ => ⟨N - (r + 1), by omega, r + 1, rfl, e1, by rw [e2]; exact a35, by rw [e2]; exact hO5, fun i hi => ?_⟩, ?_⟩
      · by_cases c2 : i = r
        · subst c2; exact fun z => ne z.symm
        · exact nw i (by omega)
      · exact ⟨.int r, rfl, _, _, rfl, rfl, rfl, rfl⟩
end
end Lh

namespace Lh
open PySem PySem.Spec PyProof.Rows L2
theorem strict_of {ns : List Int} (h : ns.Pairwise (· ≤ ·)) (nd : ns.Nodup) : ns.Pairwise (· < ·) := by
  refine (h.and (List.nodup_iff_pairwise_ne.mp nd)).imp fun z => ?_
  have := z.1
  have := z.2
  omega
theorem cut_to {α : Type} (xs : List α) (k : Nat) (h : k ≤ xs.length) : cutI xs none (some (k : Int)) = xs.take k := by
  unfold cutI
  rw [HT.sIx_none, HT.sIx_nat, Nat.sub_zero, List.drop_zero, Nat.min_eq_left h]
theorem cut_from {α : Type} (xs : List α) (k : Nat) (h : k ≤ xs.length) : cutI xs (some (k : Int)) none = xs.drop k := by
  unfold cutI
  rw [HT.sIx_none, HT.sIx_nat, Nat.min_eq_left h]
  exact List.take_of_length_le (by rw [List.length_drop]; omega)
theorem rep_one (v : V) : ∀ n : Nat, (List.replicate n [v]).flatten = List.replicate n v
  | 0 => rfl
  | n + 1 => by rw [List.replicate_succ, List.flatten_cons, rep_one v n, List.replicate_succ]; rfl
theorem merge_get : ∀ (kv : List (Int × Int)) (acc : List (Key × V)) (p : Int), (∃ y, valV (mergeK acc (kvOf kv)) (Sum.inl p) = some (.int y) ∧ (p, y) ∈ kv) ∨ (p ∉ kv.map (·.1) ∧ valV (mergeK acc (kvOf kv)) (Sum.inl p) = valV acc (Sum.inl p))
  | [], acc, p => .inr ⟨by simp, rfl⟩
  | (a, b) :: t, acc, p => by
    have e : mergeK acc (kvOf ((a, b) :: t)) = mergeK (putK acc (Sum.inl a) (.int b)) (kvOf t) := rfl
    rw [e]
    rcases merge_get t (putK acc (Sum.inl a) (.int b)) p with ⟨y, h1, h2⟩ | ⟨h1, h2⟩
    · exact .inl ⟨y, h1, List.mem_cons_of_mem _ h2⟩
    · rw [h2, valV_put]
      by_cases c : p = a
      · subst c
        rw [if_pos rfl]
        exact .inl ⟨b, rfl, List.mem_cons_self⟩
      · have c' : ¬ (Sum.inl p : Key) = Sum.inl a := fun z => c (Sum.inl.inj z)
        rw [if_neg c']
        refine .inr ⟨fun z => ?_, rfl⟩
        rcases List.mem_cons.mp z with z | z
        · exact c z
        · exact h1 z
theorem pairs_at {H : Hp} {ps : List Addr} {lot : List (Int × Int)} (h : Paired (PairAtH H) ps lot) : ∀ (n : Nat) (h1 : n < ps.length) (h2 : n < lot.length), PairAtH H ps[n] lot[n] := by
  induction h with
  | nil => intro n h1; exact absurd h1 (by simp)
  | cons r t ih =>
    intro n h1 h2
    cases n with
    | zero => exact r
    | succ n => exact ih n (by simpa using h1) (by simpa using h2)
theorem lotI_pairs (r : Rule) (ns : List Int) (p : Int) : ((seenPairs r).filter fun q => decide (nth ns q.1 < nth ns p)).map (fun q => (q.1, nth ns q.1)) = lotI r ns p := by
  unfold lotI
  rw [← seen_persons r, List.filter_map, List.map_map]
  rfl
section
variable {P : Program} {w : World} {K : PySem.W.Frag} {mg : Str → Option Value} {base : Heap}
def spFlat : Sp := fun vs H Q _ => ∃ (bx : Addr) (c m : Int), vs = [.ref bx, .int m] ∧ 0 < m ∧ m ≤ 12 ∧ c + 1000 ≤ 1000000000 ∧ Box bx c H ∧
  ∀ (l : Addr) (us : List V) (rs : List Rule) (H' : Hp), Ext bx H H' → Box bx (c + 1000) H' → H l = none → H' l = some (.lst us) → RulesAt H' us rs → Halls rs → Q (.ref l) H'
set_option maxHeartbeats 2000000 in
theorem ok_flat (T : Txt K mg w) : FnOk P w K mg base CX0 4 T.f_flat T.fd_flat p_flat spFlat := by
  have G_take := ok_take (P := P) (w := w) (base := base) T
  have G_strewn := ok_strewn (P := P) (w := w) (base := base) T
  have G_rule := ok_rule (P := P) (w := w) (base := base) T
  refine T.F_flat.ok sc_flat (fun vs H Q E h => ?_) (fun cdv A outer s H vs Q E hr h => ?_)
  · obtain ⟨bx, c, m, rfl, _⟩ := h
    rfl
  · obtain ⟨bx, c, m, rfl, m0, m1, c1, hB, q⟩ := h
    refine ⟨_, (pss_cons (ps_set (i := 2) sc_flat.nd rfl (.inl rfl) (pe_op op_add pe_int (pe_call G_take (hr.mono (by decide)) (by rfl) T.g_take T.F_take.kp T.b_take .nil pass0 (pa_cons (pv 0) (pa_cons (pv 1) pa_nil)))))
      (pss_cons (ps_par (i := 3) (j := 4) (by rfl) sc_flat.nd rfl rfl (by decide) rfl rfl (pa_cons (pe_call G_strewn (hr.mono (by decide)) (by rfl) T.g_strewn T.F_strewn.kp T.b_strewn .nil pass0 (pa_cons (pv 0) (pa_cons (pe_listRg (by rfl) (by rfl) T.m_list (prg_1 (by rfl) T.m_range (pv 2))) pa_nil))) (pa_cons (pe_op op_rep (pe_lst (pa_cons pe_non pa_nil)) (pv 2)) pa_nil)) (by rfl))
      (pss_cons (ps_for PassesOwn.never rfl (pi_enum (by rfl) T.m_enumerate (pa_cons (pv 3) pa_nil)) (pg_tup rfl (pgs_cons (pg_name (i := 5) sc_flat.nd rfl (.inl rfl)) (pgs_cons (pg_name (i := 6) sc_flat.nd rfl (.inl rfl)) pgs_nil)))
        (pss_one (ps_asg (pe_call G_rule (hr.mono (by decide)) (by rfl) T.g_rule T.F_rule.kp T.b_rule .nil pass0 (pa_cons (pv 0) (pa_cons (pv 2) (pa_cons (pe_callB cr_sortedI (by rfl) T.m_sorted (by decide +kernel) (pa_cons (pe_slice sl_list (pv 3) po_none (po_some (pv 5))) pa_nil)) (pa_cons pe_int pa_nil))))) (pg_sub (pv 4) (pv 6) set_list))))
      (pss_one (ps_ret (pv 4)))))), ?_⟩
    refine ⟨.ref bx, rfl, .int m, rfl, bx, _, m, rfl, m0, by omega, by omega, hB, fun r1 H1 r10 r11 e1 b1 => ⟨1, r1, rfl, rfl, ?_⟩⟩
    refine ⟨.ref bx, rfl, .int (1 + r1), rfl, _, rfl, RgOk.of_le (by omega) (by omega) (by omega) (by omega), fun pl npl => ?_⟩
    have nb := b1.ne npl
    have b2 := b1.new (o := .lst (rgV 0 (1 + r1))) npl
    have len : ((List.range (1 + r1).toNat).map fun k : Nat => (k : Int)).length = (1 + r1).toNat := by rw [List.length_map, List.length_range]
    refine ⟨bx, pl, _, (List.range (1 + r1).toNat).map (fun k : Nat => (k : Int)), rfl, by omega, by omega, b2, by rw [upd_same, rg_ints], nb, fun z ms H3 e3 b3 nz hz pm => ?_⟩
    have nzb : z ≠ bx := b2.ne nz
    have ml : ms.length = (1 + r1).toNat := by rw [pm.length_eq, len]
    have ris := rg_rising (1 + r1) (by omega)
    have mn : ms.Nodup := pm.nodup_iff.mpr ris.nodup
    have mi : ∀ x ∈ ms, 0 ≤ x ∧ x < 1 + r1 := fun x hx => ris.2 x (pm.mem_iff.mp hx)
    have eX : Ext bx H H3 := (e1.trans ((Ext.refl _).new npl)).trans e3
    refine ⟨by show 1 ≤ sizeLine; decide, fun l1 nl1 => ?_⟩
    refine ⟨.int (1 + r1), rfl, l1, 1 + r1, _, rfl, rfl, upd_same, by omega, by omega, ?_, fun l nl => ⟨_, _, rfl, ?_⟩⟩
    · show 1 * (1 + r1).toNat ≤ sizeLine
      exact Nat.le_of_lt (small1000 (by omega))
    rw [rep_one]
    have b4 := (b3.new (o := .lst [V.non]) nl1).new (o := .lst (List.replicate (1 + r1).toNat V.non)) nl
    have nlb := (b3.new (o := .lst [V.non]) nl1).ne nl
    have s4 : Same H3 (upd (upd H3 l1 (.lst [V.non])) l (.lst (List.replicate (1 + r1).toNat V.non))) := (same_upd nl1).trans (same_upd nl)
    have hz4 := s4 _ _ hz
    have nlH : H l = none := eX.free nlb ((same_upd nl1).free nl)
    refine ⟨.ref z, rfl, z, _, rfl, .inl (.inl hz4), ?_⟩
    refine for_it (walk_enum (xs := ms.map V.int)) (fun i σ H5 => ∃ (y5 y6 : Option V) (us : List V), σ = [some (.ref bx), some (.int m), some (.int (1 + r1)), some (.ref z), some (.ref l), y5, y6] ∧ Ext bx H H5 ∧ Box bx (c + 20 + 50 * i) H5 ∧ H5 z = some (.lst (ms.map V.int)) ∧ H5 l = some (.lst us) ∧ us.length = (1 + r1).toNat ∧ ∀ x ∈ ms.take i, ∃ v r, us[x.toNat]? = some v ∧ RuleAt H5 v r ∧ r.Wf (1 + r1))
      ⟨none, none, _, rfl, eX.trans (Ext.of s4), b4.mono (by omega), hz4, upd_same, List.length_replicate, fun x hx => absurd hx (by simp)⟩ ?_ ?_ ?_
    · rintro i σ H5 _ ⟨y5, y6, us, rfl, e5, b5, hz5, _⟩
      exact .inl (.inl hz5)
    · rintro i y σ H5 H6 hi ⟨y5, y6, us, rfl, e5, b5, hz5, hl5, lu, al⟩ ⟨t, x1, x2, rfl, nt, rfl, e1', e2'⟩
      rw [List.length_map] at hi
      have e2'' : (ms.map V.int)[i]? = some x2 := e2'
      rw [List.getElem?_map, List.getElem?_eq_getElem hi] at e2''
      cases e2''
      cases e1'
      have sT := same_upd (o := .tup [V.int ((i : Nat) : Int), V.int ms[i]]) nt
      refine ⟨t, _, rfl, .inl (.inl upd_same), rfl, _, _, rfl, _, _, rfl, rfl, ?_⟩
      refine ⟨.ref bx, rfl, .int (1 + r1), rfl, .ref z, rfl, .int i, rfl, i, rfl, z, _, rfl, .inl (.inl (sT _ _ hz5)), fun z2 nz2 => ?_⟩
      rw [cut_map, cut_to ms i (by omega)]
      refine ⟨z2, ms.take i, rfl, .inl (.inl upd_same), fun ns' p' pm' sd' np' => ?_⟩
      have b7 := ((b5.same sT).new (o := .lst ((ms.take i).map V.int)) nz2).new (o := .lst (ns'.map V.int)) np'
      have npb := ((b5.same sT).new (o := .lst ((ms.take i).map V.int)) nz2).ne np'
      have s57 : Same H5 (upd (upd (upd H5 t (.tup [V.int ((i : Nat) : Int), V.int ms[i]])) z2 (.lst ((ms.take i).map V.int))) p' (.lst (ns'.map V.int))) := (sT.trans (same_upd nz2)).trans (same_upd np')
      have ln : ns'.length ≤ 12 := by rw [pm'.length_eq, List.length_take]; omega
      have rn : Rising (1 + r1) ns' := ⟨strict_of sd' (pm'.nodup_iff.mpr (mn.sublist (List.take_sublist _ _))), fun n hn => mi n (List.mem_of_mem_take (pm'.mem_iff.mp hn))⟩
      refine ⟨bx, p', _, 9, 1 + r1, .int (1 + r1), ns', rfl, by decide, by decide, by omega, by omega, b7, upd_same, npb, rn, fun v r H8 e8 b8 ra8 wf8 sub8 => ?_⟩
      have e58 : Ext bx H5 H8 := (Ext.of s57).trans e8
      have k58 : Keep H5 H8 := (Keep.same s57).trans (Keep.ext e8 b7)
      have hl8 := e58 _ _ nlb hl5
      have mii := mi _ (List.getElem_mem hi)
      refine ⟨.ref l, rfl, .int ms[i], rfl, l, _, _, ms[i].toNat, rfl, rfl, hl8, ?_, ?_⟩
      · have h1 : ((ms[i].toNat : Nat) : Int) = ms[i] := by omega
        have h2 := ixN_at (n := us.length) (j := ms[i].toNat) (by omega)
        rw [h1] at h2
        exact h2
      have kL := keep_lst (ys := us.set ms[i].toNat v) hl8
      refine ⟨_, _, us.set ms[i].toNat v, rfl, (e5.trans e58).new nlH, (b8.at nlb).mono (by omega), ?_, upd_same, by rw [List.length_set]; exact lu, fun x hx => ?_⟩
      · have nzl : z ≠ l := fun q => by
          have q2 := e5 l
          subst q
          rw [hz5] at hl5
          have := ne_of_none (same_upd (o := .lst [V.non]) nl1 _ _ hz) nl
          exact this rfl
        rw [upd_ne nzl]
        exact e58 _ _ nzb hz5
      · rw [List.take_add_one, List.getElem?_eq_getElem hi] at hx
        by_cases cx : x = ms[i]
        · subst cx
          exact ⟨v, r, by rw [List.getElem?_set, if_pos rfl, if_pos (by omega)], ra8.keep kL, wf8⟩
        · have hx' : x ∈ ms.take i := by
            rcases List.mem_append.mp hx with h | h
            · exact h
            · exact absurd (by simpa using h) cx
          obtain ⟨v', r', h1, h2, h3⟩ := al x hx'
          have mx := mi x (List.mem_of_mem_take hx')
          exact ⟨v', r', by rw [List.getElem?_set, if_neg (by omega)]; exact h1, (h2.keep k58).keep kL, h3⟩
    · rintro σ H5 ⟨y5, y6, us, rfl, e5, b5, hz5, hl5, lu, al⟩
      rw [List.length_map, List.take_length] at al
      rw [List.length_map] at b5
      obtain ⟨rs, ra, wf⟩ := rules_of (H := H5) (m := 1 + r1) us (fun i hi => by
        have hm : (i : Int) ∈ ms := pm.mem_iff.mpr (List.mem_map.mpr ⟨i, List.mem_range.mpr (by omega), rfl⟩)
        obtain ⟨v, r, h1, h2, h3⟩ := al _ hm
        rw [Int.toNat_natCast, List.getElem?_eq_getElem hi] at h1
        cases h1
        exact ⟨r, h2, h3⟩)
      have lr : rs.length = (1 + r1).toNat := by rw [← lu]; exact ra.length.symm
      have lr' : (rs.length : Int) = 1 + r1 := by omega
      exact ⟨.ref l, rfl, q l us rs H5 e5 (b5.mono (by omega)) nlH hl5 ra ⟨by omega, by omega, by rw [lr']; exact wf⟩⟩
def spShown : Sp := fun vs H Q _ => ∃ (bx l : Addr) (c : Int) (us : List V), vs = [.ref bx, .ref l] ∧ c + 100 ≤ 1000000000 ∧ us.length ≤ 12 ∧ Box bx c H ∧ H l = some (.lst us) ∧ l ≠ bx ∧
  ∀ (t : Addr) (ns : List Int) (H' : Hp), Ext bx H H' → Box bx (c + 100) H' → H t = none → TupAt H' t (ns.map V.int) → ns.length = us.length → (∀ n ∈ ns, 0 ≤ n) → Q (.ref t) H'
set_option maxHeartbeats 2000000 in
theorem ok_shown (T : Txt K mg w) : FnOk P w K mg base CX0 2 T.f_shown T.fd_shown p_shown spShown := by
  have G_take := ok_take (P := P) (w := w) (base := base) T
  refine T.F_shown.ok sc_shown (fun vs H Q E h => ?_) (fun cdv A outer s H vs Q E hr h => ?_)
  · obtain ⟨bx, l, c, us, rfl, _⟩ := h
    rfl
  · obtain ⟨bx, l, c, us, rfl, c1, l1, hB, hl, nlb, q⟩ := h
    refine ⟨_, (pss_cons (ps_par (i := 2) (j := 3) (by rfl) sc_shown.nd rfl rfl (by decide) rfl rfl (pa_cons (pe_call G_take (hr.mono (by decide)) (by rfl) T.g_take T.F_take.kp T.b_take .nil pass0 (pa_cons (pv 0) (pa_cons pe_int pa_nil))) (pa_cons (pe_lst pa_nil) pa_nil)) (by rfl))
      (pss_cons (ps_for PassesOwn.never rfl (pi_list (pv 1)) (pg_name (i := 4) sc_shown.nd rfl (.inl rfl))
        (pss_one (ps_expr (pe_bm PySem.F.plainAttrs_list PySem.F.slot_list_append PySem.F.type_list_append mt_append (pv 3) (pa_cons (pe_ix ix_list (pe_lst (pa_cons (pe_call G_take (hr.mono (by decide)) (by rfl) T.g_take T.F_take.kp T.b_take .nil pass0 (pa_cons (pv 0) (pa_cons pe_int pa_nil))) (pa_cons (pe_call G_take (hr.mono (by decide)) (by rfl) T.g_take T.F_take.kp T.b_take .nil pass0 (pa_cons (pv 0) (pa_cons pe_int pa_nil))) (pa_cons pe_int (pa_cons (pe_call G_take (hr.mono (by decide)) (by rfl) T.g_take T.F_take.kp T.b_take .nil pass0 (pa_cons (pv 0) (pa_cons (pe_op op_pow pe_int pe_int) pa_nil))) (pa_cons (pe_call G_take (hr.mono (by decide)) (by rfl) T.g_take T.F_take.kp T.b_take .nil pass0 (pa_cons (pv 0) (pa_cons pe_int pa_nil))) pa_nil)))))) (pv 2) (fun _ _ => rfl)) pa_nil)))))
      (pss_one (ps_ret (pe_callTy call_tupleF (by rfl) T.m_tuple (by decide +kernel) (pa_cons (pv 3) pa_nil)))))), ?_⟩
    refine ⟨.ref bx, rfl, bx, _, 5, rfl, by decide, by decide, by omega, hB, fun r1 H1 r10 r11 e1 b1 => ⟨by show 0 ≤ sizeLine; decide, fun d nd => ⟨_, _, rfl, ?_⟩⟩⟩
    have ndb := b1.ne nd
    have ndH : H d = none := e1.free ndb nd
    have hl1 := same_upd (o := .lst []) nd _ _ (e1 _ _ nlb hl)
    refine ⟨.ref l, rfl, l, rfl, ⟨_, .inl (.inl hl1)⟩, ?_⟩
    refine for_it (walk_list (xs := us)) (fun i σ H3 => ∃ (y : Option V) (ns : List Int), σ = [some (.ref bx), some (.ref l), some (.int r1), some (.ref d), y] ∧ Ext bx H H3 ∧ Box bx (c + 1 + 4 * i) H3 ∧ H3 d = some (.lst (ns.map V.int)) ∧ ns.length = i ∧ ∀ n ∈ ns, 0 ≤ n) ⟨none, [], rfl, e1.trans ((Ext.refl _).new nd), by simpa using b1.new nd, upd_same, rfl, fun n h => absurd h (by simp)⟩ ?_ ?_ ?_
    · rintro i σ H3 _ ⟨y, ns, rfl, e3, _⟩
      exact .inl (.inl (e3 _ _ nlb hl))
    · rintro i v σ H3 H4 hi ⟨y, ns, rfl, e3, b3, h3, n3, p3⟩ ⟨rfl, hv⟩
      refine ⟨.ref d, rfl, .inl ⟨rfl, _, .inl (.inl h3)⟩, ?_⟩
      refine ⟨.ref bx, rfl, bx, _, 4, rfl, by decide, by decide, by omega, b3, fun a1 H5 a10 a11 e5 b5 => ?_⟩
      refine ⟨.ref bx, rfl, bx, _, 20, rfl, by decide, by decide, by omega, b5, fun a2 H6 a20 a21 e6 b6 => ?_⟩
      refine ⟨.ref bx, rfl, 10, 6, rfl, rfl, ⟨by decide, by decide, by decide⟩, bx, _, _, rfl, by decide, by decide, by omega, b6, fun a3 H7 a30 a31 e7 b7 => ?_⟩
      refine ⟨.ref bx, rfl, bx, _, 3, rfl, by decide, by decide, by omega, b7, fun a4 H8 a40 a41 e8 b8 => ⟨by show 5 ≤ sizeLine; decide, fun z nz => ?_⟩⟩
      have nzb := b8.ne nz
      obtain ⟨x, mx, ax⟩ := pick (xs := [V.int a1, .int a2, .int 7, .int a3, .int a4]) r10 (by simpa using r11)
      have eX : Ext bx H4 H8 := ((e5.trans e6).trans e7).trans e8
      refine ⟨.int r1, rfl, z, _, r1, x, rfl, rfl, .inl (.inl upd_same), ax, ?_⟩
      obtain ⟨n, rfl, n0⟩ : ∃ n : Int, x = .int n ∧ 0 ≤ n := by
        simp only [List.mem_cons, List.not_mem_nil, or_false] at mx
        rcases mx with rfl | rfl | rfl | rfl | rfl
        · exact ⟨_, rfl, a10⟩
        · exact ⟨_, rfl, a20⟩
        · exact ⟨_, rfl, by decide⟩
        · exact ⟨_, rfl, a30⟩
        · exact ⟨_, rfl, a40⟩
      have hd8 := same_upd (o := .lst [V.int a1, .int a2, .int 7, .int a3, .int a4]) nz _ _ (eX _ _ ndb h3)
      refine ⟨d, _, .int n, rfl, rfl, hd8, by rw [List.length_map]; exact small1000 (by omega), ?_⟩
      refine ⟨_, ns ++ [n], rfl, ((e3.trans eX).trans ((Ext.refl _).new nz)).new ndH, ((b8.new nz).at ndb).mono (by omega), by rw [upd_same, List.map_append]; rfl, by rw [List.length_append, n3]; rfl, fun n' hn' => ?_⟩
      rcases List.mem_append.mp hn' with h | h
      · exact p3 n' h
      · rw [List.mem_singleton.mp h]; exact n0
    · rintro σ H3 ⟨y, ns, rfl, e3, b3, h3, n3, p3⟩
      refine ⟨.ref d, rfl, d, _, rfl, .inl (.inl h3), fun t o nt od => ?_⟩
      exact q t ns _ (e3.trans ((Ext.refl _).new nt)) ((b3.new nt).mono (by omega)) (e3.free (b3.ne nt) nt) (.inr ⟨o, od, upd_same⟩) n3 p3
end
end Lh

namespace Lh
open PySem PySem.Spec PyProof.Rows L2
section
variable {P : Program} {w : World} {K : PySem.W.Frag} {mg : Str → Option Value} {base : Heap}
def spSeen : Sp := fun vs H Q _ => ∃ (v : V) (r : Rule), vs = [v] ∧ RuleAt H v r ∧ r.persons.length ≤ 1000 ∧ ∀ (p : Addr) (ps : List Addr) (H' : Hp), Same H H' → H p = none → H' p = some (.lst (ps.map V.ref)) → Paired (PairAtH H') ps (seenPairs r) → Q (.ref p) H'
theorem ok_seen (T : Txt K mg w) : FnOk P w K mg base CX0 1 T.f_seen T.fd_seen p_seen spSeen := by
  refine T.F_seen.ok sc_seen (fun vs H Q E h => ?_) (fun cdv A outer s H vs Q E hr h => ?_)
  · obtain ⟨v, r, rfl, _⟩ := h
    rfl
  · obtain ⟨v, r, rfl, hv, hl, q⟩ := h
    refine ⟨_, (pss_cons (ps_if (pt_cmpR op_eq (pe_ix ix_tup (pv 0) pe_int (fun _ _ => rfl)) pe_str (nomark _))
        (pss_one (ps_ret (pe_lst pa_nil)))
        pss_nil)
      (pss_one (ps_ret (pe_ifExp (pt_cmpR op_in_seq (pe_ix ix_tup (pv 0) pe_int (fun _ _ => rfl)) (pe_tup (pa_cons pe_str (pa_cons pe_str pa_nil))) (by rfl)) (pe_callTy call_list_of (by rfl) T.m_list (by decide +kernel) (pa_cons (pe_ix ix_tup (pv 0) pe_int (fun _ _ => rfl)) pa_nil)) (pe_lc (own := [("_law_one", 1)]) (g := gName 1) (by rfl) sc_seen.nd (pi_tup (pe_ix ix_tup (pv 0) (pe_un un_neg pe_int) (fun _ _ => rfl))) (blkOk_by (own := [("_law_one", 1)]) (N := n_seen) (sc := defScope s_seen) (by decide +kernel)) (fun _ _ _ _ _ => (pg_name (i := 1) sc_seen.nd rfl (.inl rfl) (.inr rfl))) (fun _ _ _ _ _ => pts_nil) (fun _ _ _ _ _ => (pe_tup (pa_cons (pv 1) (pa_cons pe_int pa_nil))))))))), ?_⟩
    cases r with
    | held n =>
      obtain ⟨a, rfl, ha⟩ := hv
      refine ⟨.ref a, rfl, a, _, 0, _, rfl, rfl, .inl (.inl ha), rfl, rfl, _, rfl, iteP (by decide +kernel) ?_⟩
      exact ⟨Nat.zero_le _, fun p np => q p [] _ (same_upd np) np upd_same .nil⟩
    | sum own ties =>
      obtain ⟨a, t, rfl, ha, o, ps, od, ht, pr⟩ := hv
      refine ⟨.ref a, rfl, a, _, 0, _, rfl, rfl, .inl (.inl ha), rfl, rfl, _, rfl, iteN (by decide +kernel) ?_⟩
      refine ⟨.ref a, rfl, a, _, 0, _, rfl, rfl, .inl (.inl ha), rfl, by show 2 ≤ sizeLine; decide, fun u hu => ⟨u, _, rfl, .inr (.inl (.inl upd_same)), rfl, rfl, _, rfl, iteP (by decide +kernel) ?_⟩⟩
      have s1 := same_upd (o := .tup [.str "sum", .str "cap"]) hu
      refine ⟨.ref a, rfl, a, _, 2, _, rfl, rfl, .inl (.inl (s1 _ _ ha)), rfl, t, _, rfl, .inr (.inl (.inr ⟨o, s1 _ _ ht⟩)), fun p np => ?_⟩
      exact q p ps _ (s1.trans (same_upd np)) (s1.free np) upd_same (pairs_keep (Keep.same (s1.trans (same_upd np))) pr)
    | cap own ties most =>
      obtain ⟨a, t, rfl, ha, o, ps, od, ht, pr⟩ := hv
      refine ⟨.ref a, rfl, a, _, 0, _, rfl, rfl, .inl (.inl ha), rfl, rfl, _, rfl, iteN (by decide +kernel) ?_⟩
      refine ⟨.ref a, rfl, a, _, 0, _, rfl, rfl, .inl (.inl ha), rfl, by show 2 ≤ sizeLine; decide, fun u hu => ⟨u, _, rfl, .inr (.inl (.inl upd_same)), rfl, rfl, _, rfl, iteP (by decide +kernel) ?_⟩⟩
      have s1 := same_upd (o := .tup [.str "sum", .str "cap"]) hu
      refine ⟨.ref a, rfl, a, _, 2, _, rfl, rfl, .inl (.inl (s1 _ _ ha)), rfl, t, _, rfl, .inr (.inl (.inr ⟨o, s1 _ _ ht⟩)), fun p np => ?_⟩
      exact q p ps _ (s1.trans (same_upd np)) (s1.free np) upd_same (pairs_keep (Keep.same (s1.trans (same_upd np))) pr)
    | kinds own seen =>
      obtain ⟨a, t, rfl, ha, hs⟩ := hv
      refine ⟨.ref a, rfl, a, _, 0, _, rfl, rfl, .inl (.inl ha), rfl, rfl, _, rfl, iteN (by decide +kernel) ?_⟩
      refine ⟨.ref a, rfl, a, _, 0, _, rfl, rfl, .inl (.inl ha), rfl, by show 2 ≤ sizeLine; decide, fun u hu => ⟨u, _, rfl, .inr (.inl (.inl upd_same)), rfl, rfl, _, rfl, iteN (by decide +kernel) ?_⟩⟩
      have s1 := same_upd (o := .tup [.str "sum", .str "cap"]) hu
      have hs1 := hs.keep (Keep.same s1)
      refine ⟨.ref a, rfl, 1, rfl, a, _, -1, _, rfl, rfl, .inl (.inl (s1 _ _ ha)), rfl, t, rfl, ⟨_, TupAt.sq hs1⟩, fun D hD => ?_⟩
      exact lc_ones hs1 hD hl (fun _ => rfl) (fun _ => rfl) (fun H3 ps s3 h3 pr => q D ps H3 (s1.trans s3) (s1.free hD) h3 pr)
    | next seen =>
      obtain ⟨a, t, rfl, ha, hs⟩ := hv
      refine ⟨.ref a, rfl, a, _, 0, _, rfl, rfl, .inl (.inl ha), rfl, rfl, _, rfl, iteN (by decide +kernel) ?_⟩
      refine ⟨.ref a, rfl, a, _, 0, _, rfl, rfl, .inl (.inl ha), rfl, by show 2 ≤ sizeLine; decide, fun u hu => ⟨u, _, rfl, .inr (.inl (.inl upd_same)), rfl, rfl, _, rfl, iteN (by decide +kernel) ?_⟩⟩
      have s1 := same_upd (o := .tup [.str "sum", .str "cap"]) hu
      have hs1 := hs.keep (Keep.same s1)
      refine ⟨.ref a, rfl, 1, rfl, a, _, -1, _, rfl, rfl, .inl (.inl (s1 _ _ ha)), rfl, t, rfl, ⟨_, TupAt.sq hs1⟩, fun D hD => ?_⟩
      exact lc_ones hs1 hD hl (fun _ => rfl) (fun _ => rfl) (fun H3 ps s3 h3 pr => q D ps H3 (s1.trans s3) (s1.free hD) h3 pr)
    | free seen =>
      obtain ⟨a, t, rfl, ha, hs⟩ := hv
      refine ⟨.ref a, rfl, a, _, 0, _, rfl, rfl, .inl (.inl ha), rfl, rfl, _, rfl, iteN (by decide +kernel) ?_⟩
      refine ⟨.ref a, rfl, a, _, 0, _, rfl, rfl, .inl (.inl ha), rfl, by show 2 ≤ sizeLine; decide, fun u hu => ⟨u, _, rfl, .inr (.inl (.inl upd_same)), rfl, rfl, _, rfl, iteN (by decide +kernel) ?_⟩⟩
      have s1 := same_upd (o := .tup [.str "sum", .str "cap"]) hu
      have hs1 := hs.keep (Keep.same s1)
      refine ⟨.ref a, rfl, 1, rfl, a, _, -1, _, rfl, rfl, .inl (.inl (s1 _ _ ha)), rfl, t, rfl, ⟨_, TupAt.sq hs1⟩, fun D hD => ?_⟩
      exact lc_ones hs1 hD hl (fun _ => rfl) (fun _ => rfl) (fun H3 ps s3 h3 pr => q D ps H3 (s1.trans s3) (s1.free hD) h3 pr)
end
end Lh

namespace Lh
open PySem PySem.Spec PyProof.Rows L2
section
variable {P : Program} {w : World} {K : PySem.W.Frag} {mg : Str → Option Value} {base : Heap}
def spTells : Sp := fun vs H Q _ => ∃ (v l : V) (r : Rule) (many : Int) (lot : List (Int × Int)), vs = [v, l] ∧ RuleAt H v r ∧ r.Wf many ∧ r.persons.length ≤ 1000 ∧ (∃ (a : Addr) (ps : List Addr), l = .ref a ∧ H a = some (.lst (ps.map V.ref)) ∧ Paired (PairAtH H) ps lot ∧ ps.length ≤ 60) ∧
  (∀ q ∈ lot, q.1 ∈ r.persons) ∧ ∀ (x : Int) (H' : Hp), Same H H' → Tell r lot x → Q (.int x) H'
theorem ok_tells (T : Txt K mg w) : FnOk P w K mg base CX0 2 T.f_tells T.fd_tells p_tells spTells := by
  have G_seen := ok_seen (P := P) (w := w) (base := base) T
  refine T.F_tells.ok sc_tells (fun vs H Q E h => ?_) (fun cdv A outer s H vs Q E hr h => ?_)
  · obtain ⟨v, l, r, many, lot, rfl, _⟩ := h
    rfl
  · obtain ⟨v, l, r, many, lot, rfl, hv, wf, hl, ⟨b, qs, rfl, hb, pq, lq⟩, sub, q⟩ := h
    refine ⟨_, (pss_cons (ps_asg (pe_tup (pa_cons (pe_ix ix_tup (pv 0) pe_int (fun _ _ => rfl)) (pa_cons (pe_callB (r := rSortedSet w) (cr_sortedSet rfl) (by rfl) T.m_sorted (by decide +kernel) (pa_cons (pe_callTy (r := rSetL K w) (cr_setL rfl) (by rfl) T.m_set (by decide +kernel) (pa_cons (pe_lc (own := [("_law_other", 4), ("_law_number", 5)]) (g := gTup K 2 (gCons (gName 4) (gCons (gName 5) gNil))) (by rfl) sc_tells.nd (pi_list (pv 1)) (blkOk_by (own := [("_law_other", 4), ("_law_number", 5)]) (N := n_tells) (sc := defScope s_tells) (by decide +kernel)) (fun _ _ _ _ _ => (pg_tup rfl (pgs_cons (pg_name (i := 4) sc_tells.nd rfl (.inl rfl) (.inr rfl)) (pgs_cons (pg_name (i := 5) sc_tells.nd rfl (.inl rfl) (.inr rfl)) pgs_nil)))) (fun _ _ _ _ _ => pts_nil) (fun _ _ _ _ _ => (pv 5))) pa_nil)) pa_nil)) pa_nil))) (pg_tup rfl (pgs_cons (pg_name (i := 2) sc_tells.nd rfl (.inl rfl)) (pgs_cons (pg_name (i := 3) sc_tells.nd rfl (.inr rfl)) pgs_nil))))
      (pss_cons (ps_if (pt_cmpR op_eq (pv 2) pe_str (nomark _))
        (pss_one (ps_ret (pe_ix ix_tup (pv 0) pe_int (fun _ _ => rfl))))
        pss_nil)
      (pss_cons (ps_if (pt_cmpR op_eq (pv 2) pe_str (nomark _))
        (pss_one (ps_ret (pe_op op_add (pe_ix ix_tup (pv 0) pe_int (fun _ _ => rfl)) (pe_callB call_len_seq (by rfl) T.m_len (by decide +kernel) (pa_cons (pv 3) pa_nil)))))
        pss_nil)
      (pss_cons (ps_if (pt_cmpR op_eq (pv 2) pe_str (nomark _))
        (pss_one (ps_ret (pe_ifExp (pt_cmpR (op_neD hr.units) (pv 3) (pe_lst pa_nil) (nomark _)) (pe_op op_add (pe_ix ix_list (pv 3) (pe_un un_neg pe_int) (fun _ _ => rfl)) pe_int) pe_int)))
        pss_nil)
      (pss_cons (ps_if (pt_cmpR op_eq (pv 2) pe_str (nomark _))
        (pss_one (ps_ret (pe_ix ix_list (pe_lc (own := [("_law_k", 6)]) (g := gName 6) (by rfl) sc_tells.nd (pi_range1 (by rfl) T.m_range (pa_cons (pe_op op_add (pe_callB call_len_seq (by rfl) T.m_len (by decide +kernel) (pa_cons (pv 3) pa_nil)) pe_int) pa_nil)) (blkOk_by (own := [("_law_k", 6)]) (N := n_tells) (sc := defScope s_tells) (by decide +kernel)) (fun _ _ _ _ _ => (pg_name (i := 6) sc_tells.nd rfl (.inl rfl) (.inr rfl))) (fun _ _ _ _ _ => (pts_one (pt_cmpR (r := rIn K true) op_notIn_seq (pv 6) (pv 3) (by rfl)))) (fun _ _ _ _ _ => (pv 6))) pe_int (fun _ _ => rfl))))
        pss_nil)
      (pss_cons (ps_asg (pe_tup (pa_cons (pe_callTy (call_dictP rfl) (by rfl) T.m_dict (by decide +kernel) (pa_cons (pe_call G_seen (hr.mono (by decide)) (by rfl) T.g_seen T.F_seen.kp T.b_seen .nil pass0 (pa_cons (pv 0) pa_nil)) pa_nil)) (pa_cons (pe_lc (own := [("_law_other", 4), ("_law_number", 5)]) (g := gTup K 2 (gCons (gName 4) (gCons (gName 5) gNil))) (by rfl) sc_tells.nd (pi_list (pv 1)) (blkOk_by (own := [("_law_other", 4), ("_law_number", 5)]) (N := n_tells) (sc := defScope s_tells) (by decide +kernel)) (fun _ _ _ _ _ => (pg_tup rfl (pgs_cons (pg_name (i := 4) sc_tells.nd rfl (.inl rfl) (.inr rfl)) (pgs_cons (pg_name (i := 5) sc_tells.nd rfl (.inl rfl) (.inr rfl)) pgs_nil)))) (fun _ _ _ _ _ => pts_nil) (fun _ _ _ _ _ => (pv 4))) pa_nil))) (pg_tup rfl (pgs_cons (pg_name (i := 7) sc_tells.nd rfl (.inr rfl)) (pgs_cons (pg_name (i := 8) sc_tells.nd rfl (.inl rfl)) pgs_nil))))
      (pss_cons (ps_set (i := 9) sc_tells.nd rfl (.inl rfl) (pe_op op_add (pe_ix ix_tup (pv 0) pe_int (fun _ _ => rfl)) (pe_callB (cr_sum rfl) (by rfl) T.m_sum (by decide +kernel) (pa_cons (pe_lc (own := [("_law_other", 4)]) (g := gName 4) (by rfl) sc_tells.nd (pi_list (pv 8)) (blkOk_by (own := [("_law_other", 4)]) (N := n_tells) (sc := defScope s_tells) (by decide +kernel)) (fun _ _ _ _ _ => (pg_name (i := 4) sc_tells.nd rfl (.inl rfl) (.inr rfl))) (fun _ _ _ _ _ => pts_nil) (fun _ _ _ _ _ => (pe_dget (hu_of hr) (pv 7) (pv 4) (fun _ _ => rfl)))) pa_nil))))
      (pss_one (ps_ret (pe_ifExp (pt_cmpR op_eq (pv 2) pe_str (nomark _)) (pv 9) (pe_callB (call_min2 rfl) (by rfl) T.m_min (by decide +kernel) (pa_cons (pv 9) (pa_cons (pe_ix ix_tup (pv 0) pe_int (fun _ _ => rfl)) pa_nil))))))))))))), ?_⟩
    obtain ⟨a, xs, rfl, ha⟩ := hv.word
    have hl3 : (lot.map (·.2)).length ≤ 60 := by rw [List.length_map, ← pq.length]; exact lq
    refine ⟨.ref a, rfl, a, _, 0, _, rfl, rfl, .inl (.inl ha), atI_nat (j := 0) rfl, .ref b, rfl, b, rfl, ⟨_, .inl (.inl hb)⟩, fun D hD => ?_⟩
    refine lc_pairs (·.2) (walk_listR qs) pq hD (by omega) (fun H3 s3 => .inl (.inl (s3 _ _ hb))) (fun _ _ => rfl) (fun q _ H3 _ Q h => ⟨_, rfl, h⟩) (fun H3 s3 h3 => ?_)
    refine ⟨D, _, rfl, .inl (.inl h3), by omega, fun p c ks np nd kl cl mem => ⟨p, _, c, rfl, upd_same, by omega, fun ms z pw mm0 ml nz => ⟨by show 2 ≤ sizeLine; decide, fun t nt => ⟨t, _, rfl, .inl (.inl upd_same), rfl, _, _, rfl, _, _, rfl, rfl, ?_⟩⟩⟩⟩
    have s4 : Same H (upd (upd (upd H3 p (SetO w p (fun j => decide (j ∈ lot.map (·.2))) c)) z (.lst (ms.map V.int))) t (.tup [.str (wordOf r), .ref z])) := s3.trans ((same_upd np).trans ((same_upd nz).trans (same_upd nt)))
    have hz : (upd (upd (upd H3 p (SetO w p (fun j => decide (j ∈ lot.map (·.2))) c)) z (.lst (ms.map V.int))) t (.tup [.str (wordOf r), .ref z])) z = some (.lst (ms.map V.int)) := by rw [upd_ne (ne_of_none upd_same nt)]; exact upd_same
    have mm : ∀ k, k ∈ ms ↔ k ∈ lot.map (·.2) := fun k => (mm0 k).trans decide_eq_true_iff
    have mlen : ms.length ≤ 60 := by omega
    have mnd : ms.Nodup := List.nodup_iff_pairwise_ne.mpr (pw.imp fun z => by omega)
    generalize hH4 : upd (upd (upd H3 p (SetO w p (fun j => decide (j ∈ lot.map (·.2))) c)) z (.lst (ms.map V.int))) t (.tup [.str (wordOf r), .ref z]) = H4 at *
    have hv4 := hv.keep (Keep.same s4)
    have hb4 := s4 _ _ hb
    have pq4 := pairs_keep (Keep.same s4) pq
    cases r with
    | held n =>
      obtain ⟨a', e, ha'⟩ := hv4
      cases e
      refine ⟨_, rfl, rfl, _, rfl, iteP (show decide (V.str (Str.ofString "held") = V.str (Str.ofString "held")) = true by decide +kernel) ?_⟩
      exact ⟨.ref a, rfl, a, _, 1, _, rfl, rfl, .inl (.inl ha'), rfl, q n H4 s4 rfl⟩
    | kinds own seen =>
      obtain ⟨a', t', e, ha', hs⟩ := hv4
      cases e
      refine ⟨_, rfl, rfl, _, rfl, iteN (show decide (V.str (Str.ofString "kinds") = V.str (Str.ofString "held")) = false by decide +kernel) ?_⟩
      refine ⟨_, rfl, rfl, _, rfl, iteP (show decide (V.str (Str.ofString "kinds") = V.str (Str.ofString "kinds")) = true by decide +kernel) ?_⟩
      refine ⟨.ref a, rfl, a, _, 1, _, rfl, rfl, .inl (.inl ha'), rfl, .ref z, rfl, z, _, rfl, .inl (.inl (.inl hz)), own, _, rfl, rfl, q _ H4 s4 ⟨ms, mnd, mm, ?_⟩⟩
      rw [List.length_map]
    | next seen =>
      refine ⟨_, rfl, rfl, _, rfl, iteN (show decide (V.str (Str.ofString "next") = V.str (Str.ofString "held")) = false by decide +kernel) ?_⟩
      refine ⟨_, rfl, rfl, _, rfl, iteN (show decide (V.str (Str.ofString "next") = V.str (Str.ofString "kinds")) = false by decide +kernel) ?_⟩
      refine ⟨_, rfl, rfl, _, rfl, iteP (show decide (V.str (Str.ofString "next") = V.str (Str.ofString "next")) = true by decide +kernel) ?_⟩
      refine ⟨.ref z, rfl, Nat.zero_le _, fun e he => ?_⟩
      have hz5 : upd H4 e (.lst []) z = some (.lst (ms.map V.int)) := by rw [upd_ne (ne_of_none hz he)]; exact hz
      refine ⟨.list (ms.map PyData.int), .list [], .lst (.inl (.inl hz5)) (RpAll.dp (bx := 0) (RpAll.ints ms)), .lst (.inl (.inl upd_same)) .nil, shaped_ints ms, by decide +kernel, _, rfl, ?_⟩
      cases ms with
      | nil =>
        refine iteN (by decide +kernel) ?_
        refine q 0 _ (s4.trans (same_upd he)) (.inl ⟨?_, rfl⟩)
        cases lot with
        | nil => rfl
        | cons x r => exact absurd ((mm x.2).mpr (by simp)) (by simp)
      | cons m r =>
        refine iteP (by rfl) ?_
        have gl : atI ((m :: r).map V.int) (-1) = some (.int ((m :: r).getLast (List.cons_ne_nil _ _))) := by
          have hd : (m :: r).map V.int = ((m :: r).dropLast.map V.int) ++ [.int ((m :: r).getLast (List.cons_ne_nil _ _))] := by
            rw [← List.map_singleton, ← List.map_append, List.dropLast_concat_getLast]
          rw [hd]
          exact atI_last _ _
        refine ⟨.ref z, rfl, 1, rfl, z, _, -1, _, rfl, rfl, .inl (.inl hz5), gl, _, 1, rfl, rfl, q _ _ (s4.trans (same_upd he)) (.inr ⟨?_, fun y hy => ?_⟩)⟩
        · rw [show (m :: r).getLast (List.cons_ne_nil _ _) + 1 - 1 = (m :: r).getLast (List.cons_ne_nil _ _) by omega]
          exact (mm _).mp (List.getLast_mem _)
        · have := last_max (m :: r) (List.cons_ne_nil _ _) pw y ((mm y).mpr hy)
          omega
    | free seen =>
      refine ⟨_, rfl, rfl, _, rfl, iteN (show decide (V.str (Str.ofString "free") = V.str (Str.ofString "held")) = false by decide +kernel) ?_⟩
      refine ⟨_, rfl, rfl, _, rfl, iteN (show decide (V.str (Str.ofString "free") = V.str (Str.ofString "kinds")) = false by decide +kernel) ?_⟩
      refine ⟨_, rfl, rfl, _, rfl, iteN (show decide (V.str (Str.ofString "free") = V.str (Str.ofString "next")) = false by decide +kernel) ?_⟩
      refine ⟨_, rfl, rfl, _, rfl, iteP (show decide (V.str (Str.ofString "free") = V.str (Str.ofString "free")) = true by decide +kernel) ?_⟩
      refine ⟨.ref z, rfl, z, _, rfl, .inl (.inl (.inl hz)), _, 1, rfl, rfl, _, rfl, ?_, ?_, fun D2 hD2 => ?_⟩
      · rw [List.length_map]; omega
      · rw [List.length_map]; omega
      have en : (((ms.map V.int).length : Int) + 1).toNat = ms.length + 1 := by rw [List.length_map]; omega
      rw [en]
      refine lc_it walk_range (fun i H5 => Same H4 H5 ∧ H5 D2 = some (.lst ((((List.range i).filter fun k : Nat => decide ((k : Int) ∉ ms)).map fun k : Nat => V.int k)))) ⟨same_upd hD2, upd_same⟩ (fun _ _ _ _ => trivial) ?_ ?_
      · rintro i x H5 H6 hi ⟨s5, h5⟩ ⟨rfl, rfl⟩
        refine ⟨rfl, ?_⟩
        refine ⟨.int (0 + i), rfl, .ref z, rfl, z, _, rfl, .inl (.inl (.inl (s5 _ _ hz))), rfl, flat_ints ms, _, rfl, ?_⟩
        rw [if_pos rfl, in_ints, Int.zero_add]
        have fl : ((List.range (i + 1)).filter fun k : Nat => decide ((k : Int) ∉ ms)) = ((List.range i).filter fun k : Nat => decide ((k : Int) ∉ ms)) ++ (if (i : Int) ∈ ms then [] else [i]) := by
          rw [List.range_succ, List.filter_append]
          congr 1
          by_cases c : (i : Int) ∈ ms
          · rw [if_pos c, List.filter_cons, if_neg (by simpa using c)]; rfl
          · rw [if_neg c, List.filter_cons, if_pos (by simpa using c)]; rfl
        refine ite2 (fun e => ?_) (fun e => ?_)
        · have c : (i : Int) ∉ ms := by simpa using e
          refine ⟨.int (0 + i), rfl, _, h5, ?_, same_mut s5 hD2, ?_⟩
          · rw [List.length_map]
            refine small1000 ?_
            have := List.length_filter_le (fun k : Nat => decide ((k : Int) ∉ ms)) (List.range i)
            rw [List.length_range] at this
            omega
          · rw [upd_same, fl, if_neg c, List.map_append, Int.zero_add]; rfl
        · have c : (i : Int) ∈ ms := by simpa using e
          refine ⟨s5, ?_⟩
          rw [fl, if_pos c, List.append_nil]; exact h5
      · rintro H5 ⟨s5, h5⟩
        obtain ⟨h, tl, el⟩ : ∃ h tl, ((List.range (ms.length + 1)).filter fun k : Nat => decide ((k : Int) ∉ ms)) = h :: tl := by
          cases q : ((List.range (ms.length + 1)).filter fun k : Nat => decide ((k : Int) ∉ ms)) with
          | cons h tl => exact ⟨h, tl, rfl⟩
          | nil =>
            exfalso
            have hh := nodup_len ((List.range (ms.length + 1)).map fun n : Nat => (n : Int)) ms (by
              rw [List.nodup_iff_pairwise_ne]
              exact List.Pairwise.map _ (fun a b z q => z (by omega)) (List.nodup_iff_pairwise_ne.mp List.nodup_range)) (fun x hx => by
                obtain ⟨n, hn, rfl⟩ := List.mem_map.mp hx
                have := List.filter_eq_nil_iff.mp q n hn
                simpa using this)
            rw [List.length_map, List.length_range] at hh
            omega
        rw [el] at h5
        refine ⟨D2, _, 0, .int h, rfl, rfl, .inl (.inl h5), atI_nat (j := 0) rfl, q h _ (s4.trans s5) ?_⟩
        have mh : h ∈ ((List.range (ms.length + 1)).filter fun k : Nat => decide ((k : Int) ∉ ms)) := by rw [el]; exact List.mem_cons_self
        obtain ⟨mh1, mh2⟩ := List.mem_filter.mp mh
        have srt : ((List.range (ms.length + 1)).filter fun k : Nat => decide ((k : Int) ∉ ms)).Pairwise (· < ·) := List.Pairwise.sublist List.filter_sublist List.pairwise_lt_range
        refine ⟨fun z => ?_, by omega, fun j j0 j1 => ?_⟩
        · exact of_decide_eq_true mh2 ((mm _).mpr z)
        · refine (mm j).mp ?_
          by_cases c : j ∈ ms
          · exact c
          · exfalso
            have mj : j.toNat ∈ ((List.range (ms.length + 1)).filter fun k : Nat => decide ((k : Int) ∉ ms)) := by
              refine List.mem_filter.mpr ⟨List.mem_range.mpr (by have := List.mem_range.mp mh1; omega), decide_eq_true ?_⟩
              rw [show ((j.toNat : Nat) : Int) = j by omega]; exact c
            rw [el] at mj srt
            rcases List.mem_cons.mp mj with e | e
            · omega
            · have := (List.pairwise_cons.mp srt).1 _ e; omega
    | sum own ties =>
      obtain ⟨a', t', e, ha', hT⟩ := hv4
      cases e
      obtain ⟨_, rs, _⟩ := wf
      refine ⟨_, rfl, rfl, _, rfl, iteN (show decide (V.str (Str.ofString "sum") = V.str (Str.ofString "held")) = false by decide +kernel) ?_⟩
      refine ⟨_, rfl, rfl, _, rfl, iteN (show decide (V.str (Str.ofString "sum") = V.str (Str.ofString "kinds")) = false by decide +kernel) ?_⟩
      refine ⟨_, rfl, rfl, _, rfl, iteN (show decide (V.str (Str.ofString "sum") = V.str (Str.ofString "next")) = false by decide +kernel) ?_⟩
      refine ⟨_, rfl, rfl, _, rfl, iteN (show decide (V.str (Str.ofString "sum") = V.str (Str.ofString "free")) = false by decide +kernel) ?_⟩
      refine ⟨.ref a, rfl, .ref a, .sum own ties, rfl, ⟨a, t', rfl, ha', hT⟩, hl, fun p5 ps5 H5 s5 n5 h5 pr5 => ?_⟩
      refine ⟨p5, ps5, kvOf ties, rfl, .inl (.inl h5), pairs_sq pr5, fun d hd => ?_⟩
      rw [merge_kv rs.nodup]
      have s6 := s5.trans (same_upd (o := .dK (kvOf ties)) hd)
      refine ⟨.ref b, rfl, b, rfl, ⟨_, .inl (.inl (s6 _ _ hb4))⟩, fun D6 hD6 => ?_⟩
      refine lc_pairs (·.1) (walk_listR qs) (pairs_keep (Keep.same s6) pq4) hD6 (by omega) (fun H3 s3 => .inl (.inl (s3 _ _ (s6 _ _ hb4)))) (fun _ _ => rfl) (fun q _ H3 _ Q h => ⟨_, rfl, h⟩) (fun H7 s7 h7 => ?_)
      refine ⟨by show 2 ≤ sizeLine; decide, fun t8 nt8 => ⟨t8, _, rfl, .inl (.inl upd_same), rfl, _, _, rfl, _, _, rfl, rfl, ?_⟩⟩
      have s8 := s7.trans (same_upd (o := .tup [.ref d, .ref D6]) nt8)
      have h8 := same_upd (o := .tup [.ref d, .ref D6]) nt8 _ _ h7
      have hd8 := s8 _ _ (upd_same (H := H5) (a := d) (o := .dK (kvOf ties)))
      refine ⟨.ref a, rfl, a, _, 1, _, rfl, rfl, .inl (.inl (s8 _ _ (s6 _ _ ha'))), rfl, .ref D6, rfl, D6, rfl, ⟨_, .inl (.inl h8)⟩, fun D9 hD9 => ?_⟩
      refine lc_ints (fun n => wgt ties n) h8 hD9 (by rw [List.length_map, ← pq.length]; omega) (fun _ => rfl) (fun n hn H9 s9 Q h => ?_) (fun H9 s9 h9 => ?_)
      · refine ⟨.ref d, rfl, .int n, rfl, d, _, rfl, ?_, h⟩
        obtain ⟨q0, hq0, rfl⟩ := List.mem_map.mp hn
        rw [← kv_get (sub q0 hq0)]
        exact DGet.k (k := Sum.inl q0.1) (s9 _ _ hd8)
      · refine ⟨D9, _, rfl, .inl (.inl h9), own, _, rfl, rfl, ?_⟩
        rw [List.map_map]
        refine ⟨_, rfl, rfl, _, rfl, iteP (show decide (V.str (Str.ofString "sum") = V.str (Str.ofString "sum")) = true by decide +kernel) ?_⟩
        exact ⟨_, rfl, q _ _ (s4.trans (s6.trans (s8.trans s9))) rfl⟩
    | cap own ties most =>
      obtain ⟨a', t', e, ha', hT⟩ := hv4
      cases e
      obtain ⟨_, rs, _⟩ := wf
      refine ⟨_, rfl, rfl, _, rfl, iteN (show decide (V.str (Str.ofString "cap") = V.str (Str.ofString "held")) = false by decide +kernel) ?_⟩
      refine ⟨_, rfl, rfl, _, rfl, iteN (show decide (V.str (Str.ofString "cap") = V.str (Str.ofString "kinds")) = false by decide +kernel) ?_⟩
      refine ⟨_, rfl, rfl, _, rfl, iteN (show decide (V.str (Str.ofString "cap") = V.str (Str.ofString "next")) = false by decide +kernel) ?_⟩
      refine ⟨_, rfl, rfl, _, rfl, iteN (show decide (V.str (Str.ofString "cap") = V.str (Str.ofString "free")) = false by decide +kernel) ?_⟩
      refine ⟨.ref a, rfl, .ref a, .cap own ties most, rfl, ⟨a, t', rfl, ha', hT⟩, hl, fun p5 ps5 H5 s5 n5 h5 pr5 => ?_⟩
      refine ⟨p5, ps5, kvOf ties, rfl, .inl (.inl h5), pairs_sq pr5, fun d hd => ?_⟩
      rw [merge_kv rs.nodup]
      have s6 := s5.trans (same_upd (o := .dK (kvOf ties)) hd)
      refine ⟨.ref b, rfl, b, rfl, ⟨_, .inl (.inl (s6 _ _ hb4))⟩, fun D6 hD6 => ?_⟩
      refine lc_pairs (·.1) (walk_listR qs) (pairs_keep (Keep.same s6) pq4) hD6 (by omega) (fun H3 s3 => .inl (.inl (s3 _ _ (s6 _ _ hb4)))) (fun _ _ => rfl) (fun q _ H3 _ Q h => ⟨_, rfl, h⟩) (fun H7 s7 h7 => ?_)
      refine ⟨by show 2 ≤ sizeLine; decide, fun t8 nt8 => ⟨t8, _, rfl, .inl (.inl upd_same), rfl, _, _, rfl, _, _, rfl, rfl, ?_⟩⟩
      have s8 := s7.trans (same_upd (o := .tup [.ref d, .ref D6]) nt8)
      have h8 := same_upd (o := .tup [.ref d, .ref D6]) nt8 _ _ h7
      have hd8 := s8 _ _ (upd_same (H := H5) (a := d) (o := .dK (kvOf ties)))
      refine ⟨.ref a, rfl, a, _, 1, _, rfl, rfl, .inl (.inl (s8 _ _ (s6 _ _ ha'))), rfl, .ref D6, rfl, D6, rfl, ⟨_, .inl (.inl h8)⟩, fun D9 hD9 => ?_⟩
      refine lc_ints (fun n => wgt ties n) h8 hD9 (by rw [List.length_map, ← pq.length]; omega) (fun _ => rfl) (fun n hn H9 s9 Q h => ?_) (fun H9 s9 h9 => ?_)
      · refine ⟨.ref d, rfl, .int n, rfl, d, _, rfl, ?_, h⟩
        obtain ⟨q0, hq0, rfl⟩ := List.mem_map.mp hn
        rw [← kv_get (sub q0 hq0)]
        exact DGet.k (k := Sum.inl q0.1) (s9 _ _ hd8)
      · refine ⟨D9, _, rfl, .inl (.inl h9), own, _, rfl, rfl, ?_⟩
        rw [List.map_map]
        refine ⟨_, rfl, rfl, _, rfl, iteN (show decide (V.str (Str.ofString "cap") = V.str (Str.ofString "sum")) = false by decide +kernel) ?_⟩
        refine ⟨_, rfl, .ref a, rfl, a, _, 3, _, rfl, rfl, .inl (.inl (s9 _ _ (s8 _ _ (s6 _ _ ha')))), rfl, _, _, rfl, q _ _ (s4.trans (s6.trans (s8.trans s9))) ?_⟩
        show (if most < own + (lot.map fun q => wgt ties q.1).sum then most else own + (lot.map fun q => wgt ties q.1).sum) = min (own + (lot.map fun q => wgt ties q.1).sum) most
        split <;> omega
end
end Lh

namespace Lh
open PySem PySem.Spec PyProof.Rows L2
section
variable {P : Program} {w : World} {K : PySem.W.Frag} {mg : Str → Option Value} {base : Heap}
def spLot : Sp := fun vs H Q _ => ∃ (l st : Addr) (p : Nat) (us : List V) (rs : List Rule) (ns : List Int) (h : p < rs.length), vs = [.ref l, .ref st, .int p] ∧ H l = some (.lst us) ∧ RulesAt H us rs ∧ Halls rs ∧ TupAt H st (ns.map V.int) ∧ ns.length = rs.length ∧
  ∀ (z : Addr) (ps : List Addr) (H' : Hp), Same H H' → H z = none → H' z = some (.lst (ps.map V.ref)) → Paired (PairAtH H') ps (lotI rs[p] ns p) → Q (.ref z) H'
set_option maxHeartbeats 1000000 in
theorem ok_lot (T : Txt K mg w) : FnOk P w K mg base CX0 2 T.f_lot T.fd_lot p_lot spLot := by
  have G_seen := ok_seen (P := P) (w := w) (base := base) T
  refine T.F_lot.ok sc_lot (fun vs H Q E h => ?_) (fun cdv A outer s H vs Q E hr h => ?_)
  · obtain ⟨l, st, p, us, rs, ns, hp, rfl, _⟩ := h
    rfl
  · obtain ⟨l, st, p, us, rs, ns, hp, rfl, hl, ra, hh, hS, hn, q⟩ := h
    have few := hh.few hp
    have inr := per_in hh hp
    obtain ⟨v, hv, rv⟩ := ra.get p hp
    refine ⟨_, (pss_one (ps_ret (pe_lc (own := [("_law_other", 3), ("_law_weight", 4)]) (g := gTup K 2 (gCons (gName 3) (gCons (gName 4) gNil))) (by rfl) sc_lot.nd (pi_list (pe_call G_seen (hr.mono (by decide)) (by rfl) T.g_seen T.F_seen.kp T.b_seen .nil pass0 (pa_cons (pe_ix ix_list (pv 0) (pv 2) (fun _ _ => rfl)) pa_nil))) (blkOk_by (own := [("_law_other", 3), ("_law_weight", 4)]) (N := n_lot) (sc := defScope s_lot) (by decide +kernel)) (fun _ _ _ _ _ => (pg_tup rfl (pgs_cons (pg_name (i := 3) sc_lot.nd rfl (.inl rfl) (.inr rfl)) (pgs_cons (pg_name (i := 4) sc_lot.nd rfl (.inl rfl) (.inr rfl)) pgs_nil)))) (fun _ _ _ _ _ => (pts_one (pt_cmpR op_lt (pe_ix (r := rIxT K) ix_tup (pv 1) (pv 3) (fun _ _ => rfl)) (pe_ix (r := rIxT K) ix_tup (pv 1) (pv 2) (fun _ _ => rfl)) (nomark _)))) (fun _ _ _ _ _ => (pe_tup (pa_cons (pv 3) (pa_cons (pe_ix (r := rIxT K) ix_tup (pv 1) (pv 3) (fun _ _ => rfl)) pa_nil))))))), ?_⟩
    refine ⟨.ref l, rfl, .int p, rfl, l, us, p, v, rfl, rfl, .inl (.inl hl), atI_nat hv, ?_⟩
    refine ⟨v, rs[p], rfl, rv, by omega, fun z6 ps6 H1 s1 n6 h6 pr6 => ?_⟩
    have hS1 := hS.keep (Keep.same s1)
    have ll : ps6.length = (seenPairs rs[p]).length := pr6.length
    have lp : (seenPairs rs[p]).length = rs[p].persons.length := by rw [← seen_persons rs[p], List.length_map]
    refine ⟨z6, rfl, ⟨_, .inl (.inl h6)⟩, fun D hD => ?_⟩
    refine lc_it (walk_listR ps6) (fun n H3 => ∃ ps : List Addr, Same H1 H3 ∧ H3 D = some (.lst (ps.map V.ref)) ∧ Paired (PairAtH H3) ps ((((seenPairs rs[p]).take n).filter fun q => decide (nth ns q.1 < nth ns p)).map fun q => (q.1, nth ns q.1))) ⟨[], same_upd hD, upd_same, .nil⟩ ?_ ?_ ?_
    · rintro n H3 _ ⟨ps, s3, _⟩
      exact .inl (.inl (s3 _ _ h6))
    · rintro n y H3 H4 hi ⟨ps, s3, h3, pr⟩ ⟨rfl, hy⟩
      rw [List.getElem?_map, List.getElem?_eq_getElem hi] at hy
      cases hy
      have hn2 : n < (seenPairs rs[p]).length := by omega
      have pa := pairs_at pr6 n hi hn2
      have io := inr (seenPairs rs[p])[n].1 (by
        have h : (seenPairs rs[p])[n].1 ∈ (seenPairs rs[p]).map (·.1) := List.mem_map_of_mem (List.getElem_mem hn2)
        rw [seen_persons] at h
        exact h)
      have hS3 := hS1.keep (Keep.same s3)
      have tk : (seenPairs rs[p]).take (n + 1) = (seenPairs rs[p]).take n ++ [(seenPairs rs[p])[n]] := by rw [List.take_add_one, List.getElem?_eq_getElem hn2]; rfl
      have pl : ps.length ≤ n := by
        rw [pr.length, List.length_map]
        refine Nat.le_trans (List.length_filter_le _ _) ?_
        rw [List.length_take]; omega
      refine ⟨ps6[n], _, rfl, .inl (.inl (s3 _ _ pa)), rfl, _, _, rfl, _, _, rfl, rfl, rfl, ?_⟩
      generalize (seenPairs rs[p])[n] = a at *
      refine ⟨.ref st, rfl, .int a.1, rfl, st, _, _, _, rfl, rfl, hS3.sq, nth_at io.1 (by omega), .ref st, rfl, .int p, rfl, st, _, _, _, rfl, rfl, hS3.sq, nth_at (by omega) (by omega), _, _, rfl, rfl, _, rfl, ite2 (fun z => ?_) (fun z => ?_)⟩
      · refine ⟨.int a.1, rfl, .ref st, rfl, .int a.1, rfl, st, _, _, _, rfl, rfl, hS3.sq, nth_at io.1 (by omega), by show 2 ≤ sizeLine; decide, fun u nu => ?_⟩
        have sU := same_upd (o := .tup [.int a.1, .int (nth ns a.1)]) nu
        have h5 := sU _ _ h3
        have kT := keep_lst (ys := ps.map V.ref ++ [.ref u]) h5
        refine ⟨_, h5, by rw [List.length_map]; exact small1000 (by omega), ps ++ [u], same_mut (s3.trans sU) hD, ?_, ?_⟩
        · rw [upd_same, List.map_append]; rfl
        · rw [tk, List.filter_append, List.map_append, List.filter_cons, if_pos z]
          exact Paired.snoc (R := PairAtH _) (show PairAtH _ _ _ from kT.tup _ _ upd_same) (pairs_keep ((Keep.same sU).trans kT) pr)
      · refine ⟨ps, s3, h3, ?_⟩
        rw [tk, List.filter_append, List.filter_cons, if_neg z, List.filter_nil, List.append_nil]
        exact pr
    · rintro H3 ⟨ps, s3, h3, pr⟩
      rw [ll, List.take_length, lotI_pairs] at pr
      exact q D ps H3 (s1.trans s3) (s1.free hD) h3 pr
def spLawTurned : Sp := fun vs H Q _ => ∃ (l st pl : Addr) (us : List V) (rs : List Rule) (ns qs : List Int), vs = [.ref l, .ref st, .ref pl] ∧ H l = some (.lst us) ∧ RulesAt H us rs ∧ Halls rs ∧ TupAt H st (ns.map V.int) ∧ ns.length = rs.length ∧ H pl = some (.lst (qs.map V.int)) ∧ (∀ q ∈ qs, 0 ≤ q ∧ q < rs.length) ∧ qs.length ≤ 900 ∧
  ∀ (t : Addr) (ms : List Int) (H' : Hp), Same H H' → H t = none → TupAt H' t (ms.map V.int) → Turned rs ns (fun i => i ∈ qs) ms → Q (.ref t) H'
set_option maxHeartbeats 2000000 in
theorem ok_law_turned (T : Txt K mg w) : FnOk P w K mg base CX0 3 T.f_law_turned T.fd_law_turned p_law_turned spLawTurned := by
  have G_lot := ok_lot (P := P) (w := w) (base := base) T
  have G_tells := ok_tells (P := P) (w := w) (base := base) T
  refine T.F_law_turned.ok sc_law_turned (fun vs H Q E h => ?_) (fun cdv A outer s H vs Q E hr h => ?_)
  · obtain ⟨l, st, pl, us, rs, ns, qs, rfl, _⟩ := h
    rfl
  · obtain ⟨l, st, pl, us, rs, ns, qs, rfl, hl, ra, hh, hS, hn, hpl, hq, ql, q⟩ := h
    have r1 := hh.2.1
    refine ⟨_, (pss_cons (ps_set (i := 3) sc_law_turned.nd rfl (.inr rfl) (pe_callTy (call_dictP rfl) (by rfl) T.m_dict (by decide +kernel) (pa_cons (pe_lc (own := [("_law_one", 4)]) (g := gName 4) (by rfl) sc_law_turned.nd (pi_list (pv 2)) (blkOk_by (own := [("_law_one", 4)]) (N := n_law_turned) (sc := defScope s_law_turned) (by decide +kernel)) (fun _ _ _ _ _ => (pg_name (i := 4) sc_law_turned.nd rfl (.inl rfl) (.inr rfl))) (fun _ _ _ _ _ => pts_nil) (fun _ _ _ _ _ => (pe_tup (pa_cons (pv 4) (pa_cons (pe_call G_tells (hr.mono (by decide)) (by rfl) T.g_tells T.F_tells.kp T.b_tells .nil pass0 (pa_cons (pe_ix (r := rIxL K) ix_list (pv 0) (pv 4) (fun _ _ => rfl)) (pa_cons (pe_call G_lot (hr.mono (by decide)) (by rfl) T.g_lot T.F_lot.kp T.b_lot .nil pass0 (pa_cons (pv 0) (pa_cons (pv 1) (pa_cons (pv 4) pa_nil)))) pa_nil))) pa_nil))))) pa_nil)))
      (pss_one (ps_ret (pe_callTy call_tupleF (by rfl) T.m_tuple (by decide +kernel) (pa_cons (pe_lc (own := [("_law_one", 4), ("_law_number", 5)]) (g := gTup K 2 (gCons (gName 4) (gCons (gName 5) gNil))) (by rfl) sc_law_turned.nd (pi_enumT (by rfl) T.m_enumerate (pa_cons (pv 1) pa_nil)) (blkOk_by (own := [("_law_one", 4), ("_law_number", 5)]) (N := n_law_turned) (sc := defScope s_law_turned) (by decide +kernel)) (fun _ _ _ _ _ => (pg_tup rfl (pgs_cons (pg_name (i := 4) sc_law_turned.nd rfl (.inl rfl) (.inr rfl)) (pgs_cons (pg_name (i := 5) sc_law_turned.nd rfl (.inl rfl) (.inr rfl)) pgs_nil)))) (fun _ _ _ _ _ => pts_nil) (fun _ _ _ _ _ => (pe_dget2 (hu_of hr) (pv 3) (pv 4) (pv 5) ⟨rfl, rfl, rfl, rfl⟩))) pa_nil))))), ?_⟩
    refine ⟨.ref pl, rfl, pl, rfl, ⟨_, .inl (.inl hpl)⟩, fun D hD => ?_⟩
    refine lc_it (walk_list (xs := qs.map V.int)) (fun n H3 => ∃ (ps : List Addr) (kv : List (Int × Int)), Same H H3 ∧ H3 D = some (.lst (ps.map V.ref)) ∧ Paired (PairAtH H3) ps kv ∧ kv.map (·.1) = qs.take n ∧ ∀ x ∈ kv, ∃ (i : Nat) (h : i < rs.length), x.1 = i ∧ Tell rs[i] (lotI rs[i] ns i) x.2) ⟨[], [], same_upd hD, upd_same, .nil, rfl, fun x h => absurd h (by simp)⟩ ?_ ?_ ?_
    · rintro n H3 _ ⟨ps, kv, s3, _⟩
      exact .inl (.inl (s3 _ _ hpl))
    · rintro n y H3 H4 hi ⟨ps, kv, s3, h3, pr, fs, tl⟩ ⟨rfl, hy⟩
      rw [List.length_map] at hi
      rw [List.getElem?_map, List.getElem?_eq_getElem hi] at hy
      cases hy
      have io := hq _ (List.getElem_mem hi)
      obtain ⟨p, ep⟩ : ∃ p : Nat, qs[n] = (p : Int) := ⟨qs[n].toNat, by omega⟩
      have hp : p < rs.length := by omega
      have lk : ps.length = n := by
        rw [pr.length, ← List.length_map (f := (·.1)), fs, List.length_take]; omega
      obtain ⟨v, hv, rv⟩ := ra.get p hp
      refine ⟨rfl, yes (iteT ?_)⟩
      rw [ep]
      refine ⟨.int p, rfl, .ref l, rfl, .int p, rfl, l, us, p, v, rfl, rfl, .inl (.inl (s3 _ _ hl)), atI_nat hv, .ref l, rfl, .ref st, rfl, .int p, rfl, l, st, p, us, rs, ns, hp, rfl, s3 _ _ hl, ra.keep (Keep.same s3), hh, hS.keep (Keep.same s3), hn, fun z ps5 H5 s5 n5 h5 pr5 => ?_⟩
      have few := hh.few hp
      have l5 : ps5.length ≤ 12 := by
        rw [pr5.length]
        unfold lotI
        rw [List.length_map]
        exact Nat.le_trans (List.length_filter_le _ _) few
      refine ⟨v, .ref z, rs[p], rs.length, _, rfl, rv.keep (Keep.same (s3.trans s5)), hh.2.2 _ (List.getElem_mem hp), by omega, ⟨z, ps5, rfl, h5, pr5, by omega⟩, lotI_in, fun x H6 s6 tx => ⟨by show 2 ≤ sizeLine; decide, fun u nu => ?_⟩⟩
      have sU := (s5.trans s6).trans (same_upd (o := .tup [.int p, .int x]) nu)
      have h7 := sU _ _ h3
      have kT := keep_lst (ys := ps.map V.ref ++ [.ref u]) h7
      refine ⟨_, h7, by rw [List.length_map]; exact small1000 (by omega), ps ++ [u], kv ++ [((p : Int), x)], same_mut (s3.trans sU) hD, ?_, ?_, ?_, ?_⟩
      · rw [upd_same, List.map_append]; rfl
      · exact Paired.snoc (R := PairAtH _) (show PairAtH _ _ _ from kT.tup _ _ upd_same) (pairs_keep ((Keep.same sU).trans kT) pr)
      · rw [List.map_append, fs, List.take_add_one, List.getElem?_eq_getElem hi, ep]; rfl
      · intro x' hx'
        rcases List.mem_append.mp hx' with h | h
        · exact tl x' h
        · rw [List.mem_singleton.mp h]; exact ⟨p, hp, rfl, tx⟩
    · rintro H3 ⟨ps, kv, s3, h3, pr, fs, tl⟩
      rw [List.length_map, List.take_length] at fs
      refine ⟨D, ps, kvOf kv, rfl, .inl (.inl h3), pairs_sq pr, fun d nd => ?_⟩
      have s4 := s3.trans (same_upd (o := .dK (mergeK [] (kvOf kv))) nd)
      have hd4 := upd_same (H := H3) (a := d) (o := HO.dK (mergeK [] (kvOf kv)))
      have hS4 := hS.keep (Keep.same s4)
      refine ⟨.ref st, rfl, st, _, rfl, hS4.sq, fun D2 hD2 => ?_⟩
      refine lc_it (walk_enumT (xs := ns.map V.int)) (fun n H5 => ∃ ms : List Int, Same (upd H3 d (.dK (mergeK [] (kvOf kv)))) H5 ∧ H5 D2 = some (.lst (ms.map V.int)) ∧ ms.length = n ∧ ∀ (i : Nat) (h : i < rs.length), i < n → ((i : Int) ∈ qs → Tell rs[i] (lotI rs[i] ns i) (nth ms i)) ∧ (¬ (i : Int) ∈ qs → nth ms i = nth ns i)) ⟨[], same_upd hD2, upd_same, rfl, fun i _ h => absurd h (by omega)⟩ ?_ ?_ ?_
      · rintro n H5 _ ⟨ms, s5, _⟩
        exact (hS4.keep (Keep.same s5)).sq
      · rintro n y H5 H6 hi ⟨ms, s5, h5, m5, t5⟩ ⟨t, x1, x2, rfl, nt, rfl, e1', e2'⟩
        rw [List.length_map] at hi
        have e2'' : (ns.map V.int)[n]? = some x2 := e2'
        have gn := nth_get (ns := ns) (p := (n : Int)) (by omega) (by omega)
        rw [Int.toNat_natCast, e2''] at gn
        cases gn
        cases e1'
        have sT := s5.trans (same_upd (o := .tup [V.int ((n : Nat) : Int), V.int (nth ns n)]) nt)
        have hdT := sT _ _ hd4
        have h5T := same_upd (o := .tup [V.int ((n : Nat) : Int), V.int (nth ns n)]) nt _ _ h5
        refine ⟨t, _, rfl, .inl (.inl upd_same), rfl, _, _, rfl, _, _, rfl, rfl, rfl, yes (iteT ?_)⟩
        refine ⟨.ref d, rfl, d, rfl, .inl ⟨_, .inl hdT⟩, .int n, rfl, .int (nth ns n), rfl, _, DGet.k (k := Sum.inl (n : Int)) hdT, ?_⟩
        have fin : ∀ z : Int, (((n : Int) ∈ qs → ∀ h : n < rs.length, Tell rs[n] (lotI rs[n] ns n) z) ∧ (¬ (n : Int) ∈ qs → z = nth ns n)) → (valV (mergeK [] (kvOf kv)) (Sum.inl (n : Int))).getD (.int (nth ns n)) = .int z → ∃ acc, (upd H5 t (.tup [V.int ((n : Nat) : Int), V.int (nth ns n)])) D2 = some (.lst acc) ∧ acc.length < sizeLine ∧ ∃ ms : List Int, Same (upd H3 d (.dK (mergeK [] (kvOf kv)))) (upd (upd H5 t (.tup [V.int ((n : Nat) : Int), V.int (nth ns n)])) D2 (.lst (acc ++ [(valV (mergeK [] (kvOf kv)) (Sum.inl (n : Int))).getD (.int (nth ns n))]))) ∧ (upd (upd H5 t (.tup [V.int ((n : Nat) : Int), V.int (nth ns n)])) D2 (.lst (acc ++ [(valV (mergeK [] (kvOf kv)) (Sum.inl (n : Int))).getD (.int (nth ns n))]))) D2 = some (.lst (ms.map V.int)) ∧ ms.length = n + 1 ∧ ∀ (i : Nat) (h : i < rs.length), i < n + 1 → ((i : Int) ∈ qs → Tell rs[i] (lotI rs[i] ns i) (nth ms i)) ∧ (¬ (i : Int) ∈ qs → nth ms i = nth ns i) := by
          intro z hz ez
          rw [ez]
          refine ⟨_, h5T, by rw [List.length_map]; exact small1000 (by omega), ms ++ [z], same_mut sT hD2, by rw [upd_same, List.map_append]; rfl, by rw [List.length_append, m5]; rfl, fun i h hi' => ?_⟩
          by_cases c : i = n
          · subst c
            have e : nth (ms ++ [z]) (i : Int) = z := by
              unfold nth
              rw [Int.toNat_natCast, List.getD_eq_getElem?_getD, List.getElem?_append_right (by omega), m5, Nat.sub_self]; rfl
            rw [e]
            exact ⟨fun hq' => hz.1 hq' h, hz.2⟩
          · have e : nth (ms ++ [z]) (i : Int) = nth ms i := by
              unfold nth
              rw [Int.toNat_natCast, List.getD_eq_getElem?_getD, List.getD_eq_getElem?_getD, List.getElem?_append_left (by omega)]
            rw [e]
            exact t5 i h (by omega)
        rcases merge_get kv [] (n : Int) with ⟨y, g1, g2⟩ | ⟨g1, g2⟩
        · refine fin y ⟨fun _ h => ?_, fun z => ?_⟩ (by rw [g1]; rfl)
          · obtain ⟨i, hi2, e, ty⟩ := tl _ g2
            have e' : i = n := by have : (n : Int) = (i : Int) := e; omega
            subst e'
            exact ty
          · exact absurd (by rw [← fs]; exact List.mem_map.mpr ⟨_, g2, rfl⟩) z
        · refine fin (nth ns n) ⟨fun z => ?_, fun _ => rfl⟩ (by rw [g2]; rfl)
          exact absurd z (by rw [← fs]; exact g1)
      · rintro H5 ⟨ms, s5, h5, m5, t5⟩
        rw [List.length_map] at m5 t5
        refine ⟨D2, _, rfl, .inl (.inl h5), fun t o nt od => ?_⟩
        exact q t ms _ ((s4.trans s5).trans (same_upd nt)) ((s4.trans s5).free nt) (.inr ⟨o, od, upd_same⟩) ⟨m5, fun i h => t5 i h (by omega)⟩
end
end Lh

namespace Lh
open PySem PySem.Spec PyProof.Rows L2
section
variable {P : Program} {w : World} {K : PySem.W.Frag} {mg : Str → Option Value} {base : Heap}
def spLawRestless : Sp := fun vs H Q _ => ∃ (l st : Addr) (us : List V) (rs : List Rule) (ns : List Int), vs = [.ref l, .ref st] ∧ H l = some (.lst us) ∧ RulesAt H us rs ∧ Halls rs ∧ TupAt H st (ns.map V.int) ∧ ns.length = rs.length ∧
  ∀ (z : Addr) (H' : Hp), Same H H' → H z = none → H' z = some (.lst ((restL rs ns).map V.int)) → Q (.ref z) H'
set_option maxHeartbeats 1000000 in
theorem ok_law_restless (T : Txt K mg w) : FnOk P w K mg base CX0 4 T.f_restless T.fd_restless p_restless spLawRestless := by
  have G_law_turned := ok_law_turned (P := P) (w := w) (base := base) T
  refine T.F_restless.ok sc_restless (fun vs H Q E h => ?_) (fun cdv A outer s H vs Q E hr h => ?_)
  · obtain ⟨l, st, us, rs, ns, rfl, _⟩ := h
    rfl
  · obtain ⟨l, st, us, rs, ns, rfl, hl, ra, hh, hS, hn, q⟩ := h
    have r1 := hh.2.1
    have lu : us.length = rs.length := ra.length
    have bt := beatF_ok hn
    refine ⟨_, (pss_cons (ps_set (i := 2) sc_restless.nd rfl (.inl rfl) (pe_call G_law_turned (hr.mono (by decide)) (by rfl) T.g_law_turned T.F_law_turned.kp T.b_law_turned .nil pass0 (pa_cons (pv 0) (pa_cons (pv 1) (pa_cons (pe_listRg (by rfl) (by rfl) T.m_list (prg_1 (by rfl) T.m_range (pe_callB call_len_seq (by rfl) T.m_len (by decide +kernel) (pa_cons (pv 0) pa_nil)))) pa_nil)))))
      (pss_one (ps_ret (pe_lc (own := [("_law_one", 3), ("_law_number", 4)]) (g := gTup K 2 (gCons (gName 3) (gCons (gName 4) gNil))) (by rfl) sc_restless.nd (pi_enumT (by rfl) T.m_enumerate (pa_cons (pv 2) pa_nil)) (blkOk_by (own := [("_law_one", 3), ("_law_number", 4)]) (N := n_restless) (sc := defScope s_restless) (by decide +kernel)) (fun _ _ _ _ _ => (pg_tup rfl (pgs_cons (pg_name (i := 3) sc_restless.nd rfl (.inl rfl) (.inr rfl)) (pgs_cons (pg_name (i := 4) sc_restless.nd rfl (.inl rfl) (.inr rfl)) pgs_nil)))) (fun _ _ _ _ _ => (pts_one (pt_cmpR op_ne (pv 4) (pe_ix (r := rIxT K) ix_tup (pv 1) (pv 3) (fun _ _ => rfl)) (nomark _)))) (fun _ _ _ _ _ => (pv 3)))))), ?_⟩
    refine ⟨.ref l, rfl, .ref st, rfl, .ref l, rfl, l, _, rfl, .inl (.inl (.inl hl)), _, rfl, RgOk.of_le (by omega) (by omega) (by omega) (by omega), fun pl np => ?_⟩
    rw [lu]
    have s0 := same_upd (o := .lst (rgV 0 (rs.length : Int))) np
    refine ⟨l, st, pl, us, rs, ns, (List.range ((rs.length : Int)).toNat).map (fun k : Nat => (k : Int)), rfl, s0 _ _ hl, ra.keep (Keep.same s0), hh, hS.keep (Keep.same s0), hn, by rw [upd_same, rg_ints], (rg_rising _ (by omega)).2, by rw [List.length_map, List.length_range]; omega, fun t ms H1 s1 nt ht tu => ?_⟩
    have be : Beat rs ns ms := ⟨tu.1, fun i hi => ⟨fun _ => (tu.2 i hi).1 (List.mem_map.mpr ⟨i, List.mem_range.mpr (by omega), rfl⟩), fun z => absurd trivial z⟩⟩
    have em : ms = beatF rs ns := be.unique hn bt
    have sH1 := s0.trans s1
    have hS1 := hS.keep (Keep.same sH1)
    have lm : ms.length = rs.length := by rw [be.1]; exact hn
    refine ⟨.ref t, rfl, t, _, rfl, ht.sq, fun D hD => ?_⟩
    refine lc_it (walk_enumT (xs := ms.map V.int)) (fun i H3 => Same H1 H3 ∧ H3 D = some (.lst ((((List.range i).filter fun i : Nat => decide (nth (beatF rs ns) i ≠ nth ns i)).map fun k : Nat => (k : Int)).map V.int))) ⟨same_upd hD, upd_same⟩ ?_ ?_ ?_
    · rintro i H3 _ ⟨s3, _⟩
      exact (ht.keep (Keep.same s3)).sq
    · rintro i y H3 H4 hi ⟨s3, h3⟩ ⟨u, x1, x2, rfl, nu, rfl, e1, e2⟩
      rw [List.length_map] at hi
      have hi' : i < rs.length := by omega
      have e1' : x1 = .int (i : Nat) := (Option.some.inj e1).symm
      have e2' : x2 = .int (nth (beatF rs ns) i) := by
        have h1 := nth_get (ns := ms) (p := (i : Int)) (by omega) (by omega)
        rw [Int.toNat_natCast] at h1
        rw [← em]
        exact Option.some.inj (e2.symm.trans h1)
      subst e1' e2'
      have sU := same_upd (o := .tup [.int (i : Nat), .int (nth (beatF rs ns) i)]) nu
      have hS4 := (hS1.keep (Keep.same s3)).keep (Keep.same sU)
      refine ⟨u, _, rfl, .inl (.inl upd_same), rfl, _, _, rfl, _, _, rfl, rfl, rfl, ?_⟩
      refine ⟨.int (nth (beatF rs ns) i), rfl, .ref st, rfl, .int (i : Nat), rfl, st, _, _, _, rfl, rfl, hS4.sq, nth_at (by omega) (by omega), rfl, _, rfl, ?_⟩
      refine ite2 (fun z => ?_) (fun z => ?_)
      · have ne : nth (beatF rs ns) i ≠ nth ns i := by simpa using z
        refine ⟨.int (i : Nat), rfl, _, sU _ _ h3, by rw [List.length_map, List.length_map]; exact small1000 (Nat.le_trans (List.length_filter_le _ _) (by rw [List.length_range]; omega)), same_mut (s3.trans sU) hD, ?_⟩
        rw [upd_same, List.range_succ, List.filter_append, List.map_append, List.map_append, List.filter_cons, if_pos (decide_eq_true ne)]
        rfl
      · have eq : nth (beatF rs ns) i = nth ns i := by simpa using z
        refine ⟨s3.trans sU, ?_⟩
        rw [sU _ _ h3, List.range_succ, List.filter_append, List.filter_cons, if_neg (by simpa using eq), List.filter_nil, List.append_nil]
    · rintro H3 ⟨s3, h3⟩
      rw [List.length_map, lm] at h3
      exact q D H3 (sH1.trans s3) (sH1.free hD) h3
end
end Lh

namespace Lh
open PySem PySem.Spec PyProof.Rows L2
section
variable {P : Program} {w : World} {K : PySem.W.Frag} {mg : Str → Option Value} {base : Heap}
def spLawBeaten : Sp := fun vs H Q _ => ∃ (l st : Addr) (us : List V) (rs : List Rule) (ns : List Int), vs = [.ref l, .ref st] ∧ H l = some (.lst us) ∧ RulesAt H us rs ∧ Halls rs ∧ TupAt H st (ns.map V.int) ∧ ns.length = rs.length ∧
  ∀ (t : Addr) (ms : List Int) (H' : Hp), Same H H' → H t = none → TupAt H' t (ms.map V.int) → Beat rs ns ms → Q (.ref t) H'
theorem ok_law_beaten (T : Txt K mg w) : FnOk P w K mg base CX0 4 T.f_law_beaten T.fd_law_beaten p_law_beaten spLawBeaten := by
  have G_law_turned := ok_law_turned (P := P) (w := w) (base := base) T
  refine T.F_law_beaten.ok sc_law_beaten (fun vs H Q E h => ?_) (fun cdv A outer s H vs Q E hr h => ?_)
  · obtain ⟨l, st, us, rs, ns, rfl, _⟩ := h
    rfl
  · obtain ⟨l, st, us, rs, ns, rfl, hl, ra, hh, hS, hn, q⟩ := h
    have r1 := hh.2.1
    have lu : us.length = rs.length := ra.length
    refine ⟨_, (pss_one (ps_ret (pe_call G_law_turned (hr.mono (by decide)) (by rfl) T.g_law_turned T.F_law_turned.kp T.b_law_turned .nil pass0 (pa_cons (pv 0) (pa_cons (pv 1) (pa_cons (pe_listRg (by rfl) (by rfl) T.m_list (prg_1 (by rfl) T.m_range (pe_callB call_len_seq (by rfl) T.m_len (by decide +kernel) (pa_cons (pv 0) pa_nil)))) pa_nil)))))), ?_⟩
    refine ⟨.ref l, rfl, .ref st, rfl, .ref l, rfl, l, _, rfl, .inl (.inl (.inl hl)), _, rfl, RgOk.of_le (by omega) (by omega) (by omega) (by omega), fun pl np => ?_⟩
    rw [lu]
    have s0 := same_upd (o := .lst (rgV 0 (rs.length : Int))) np
    refine ⟨l, st, pl, us, rs, ns, (List.range ((rs.length : Int)).toNat).map (fun k : Nat => (k : Int)), rfl, s0 _ _ hl, ra.keep (Keep.same s0), hh, hS.keep (Keep.same s0), hn, by rw [upd_same, rg_ints], (rg_rising _ (by omega)).2, by rw [List.length_map, List.length_range]; omega, fun t ms H' s' nt ht tu => ?_⟩
    refine q t ms H' (s0.trans s') (s0.free nt) ht ⟨tu.1, fun i hi => ⟨fun _ => (tu.2 i hi).1 ?_, fun z => absurd trivial z⟩⟩
    exact List.mem_map.mpr ⟨i, List.mem_range.mpr (by omega), rfl⟩
end
end Lh

namespace Lh
open PySem PySem.Spec PyProof.Rows L2
section
variable {P : Program} {w : World} {K : PySem.W.Frag} {mg : Str → Option Value} {base : Heap}
def spRefusedH (C CH X : Addr) : Sp := fun vs H Q _ => ∃ (x pa en pl : Addr) (s : HS) (past : List HS) (qs : List Int) (k : Nat) (hk : k < qs.length), vs = [.ref x, .ref pl] ∧ HouseAt C CH H x pa en s past ∧ s.Ok ∧ past.length ≤ 999 ∧ SeqH H pl (qs.map V.int) ∧ pl ≠ pa ∧
  (∀ j (hj : j < k), 0 ≤ qs[j] ∧ qs[j] < s.own.length) ∧ ¬ (0 ≤ qs[k] ∧ qs[k] < s.own.length) ∧ ∀ H', Same H H' → Q (.int qs[k]) H'
set_option maxHeartbeats 1000000 in
theorem ok_refusedH (T : Txt K mg w) : FnOk P w K mg base CX0 12 T.f_refused T.fd_refused p_refused (spRefusedH T.C_House T.C_Hall T.C_NoPerson) := by
  have G_House_turn := ok_House_turnX (P := P) (w := w) (base := base) T
  refine T.F_refused.ok sc_refused (fun vs H Q E h => ?_) (fun cdv A outer s0 H vs Q E hr h => ?_)
  · obtain ⟨x, pa, en, pl, s, past, qs, k, hk, rfl, _⟩ := h
    rfl
  · obtain ⟨x, pa, en, pl, s, past, qs, k, hk, rfl, hO, ok, l9, hL, npl, on, out, q⟩ := h
    obtain ⟨dx, hx, pt, st, hX, co⟩ := hO.ex
    refine ⟨_, (pss_cons (ps_set (i := 2) sc_refused.nd rfl (.inl rfl) pe_non)
      (pss_cons (ps_try_keep (i := 3) rfl rfl rfl sc_refused.nd rfl rfl (tests2 (by exact ⟨rfl, by decide, .inl T.g_BadRule⟩) (by exact ⟨rfl, by decide, .inl T.g_NoPerson⟩)) (fun W pn xe tk _ => (pss_one (ps_expr (pe_methS (pv 0) T.cl_House T.me_House_turn G_House_turn (hr.mono (by decide)) T.b_House_turn (fun σ => passAt tk σ) (pa_cons (pv 1) pa_nil))))) (fun a oe cls d pn _ _ => (pss_one (ps_set (i := 2) sc_refused.nd rfl (.inl rfl) (pv 3)))))
      (pss_one (ps_ret (pe_ifExp (PW.pt (pw_and (pt_val (pe_callB (call_or call_isi call_isX) (by rfl) T.m_isinstance (by decide +kernel) (pa_cons (pv 2) (pa_cons (pe_glob (v := .ref T.C_NoPerson) (by rfl) T.g_NoPerson rfl) pa_nil)))) (pw_and1 (pt_val (pe_callB (call_or call_isi call_isX) (by rfl) T.m_isinstance (by decide +kernel) (pa_cons (pv 2) (pa_cons (pe_bltn (v := .ty "IndexError") (by rfl) T.m_IndexError (by decide +kernel) rfl) pa_nil))))))) (pe_xk (pv 2)) pe_non))))), ?_⟩
    have xk := T.xc_NoPerson
    have start : L2.start n_refused [V.ref x, V.ref pl] = [some (.ref x), some (.ref pl), none, none] := rfl
    rw [start]
    refine seq_asg (seq_useN (fun σ H1 => ∃ (e d : Addr), σ = [some (.ref x), some (.ref pl), some (.ref e), none] ∧ Same H H1 ∧ H1 e = some (exK e (.ref T.C_NoPerson) (some d)) ∧ H1 d = some (.xd [("person", .int qs[k])])) (fun N hN => ?_) ?_)
    · refine ⟨.ref x, rfl, x, dx, _, rfl, hX, hs_no (by decide +kernel), .ref pl, rfl, x, pa, en, pl, s, past, qs, rfl, hO, ok, l9, hL, npl, fun inr => absurd (inr _ (List.getElem_mem hk)) out, fun k2 hk2 on2 out2 d H' s' nd hd => ?_⟩
      have ek : k2 = k := by
        rcases Nat.lt_trichotomy k2 k with c | c | c
        · exact absurd (on k2 c) out2
        · exact c
        · exact absurd (on2 k c) out
      subst ek
      refine ⟨exm_two T.em_NoPerson_BadRule T.em_NoPerson_NoPerson, fun e ne => ⟨.ref e, rfl, ?_⟩⟩
      have se := same_upd (o := exK e (.ref T.C_NoPerson) (some d)) ne
      exact hN _ _ ⟨e, d, rfl, s'.trans se, upd_same, se _ _ hd⟩
    rintro σ H1 ⟨e, d, rfl, s1, he, hd⟩
    refine ⟨.ref e, rfl, .inr ⟨e, T.C_NoPerson, d, _, .ref T.C_NoPerson, .ref T.C_NoPerson, _, rfl, he, hd, xk, fun u h => h, T.ki_NoPerson_NoPerson, ?_⟩⟩
    refine ⟨_, rfl, iteP rfl ?_⟩
    refine ⟨.ref e, rfl, .inr ⟨e, T.C_NoPerson, d, _, .ty "IndexError", .type "IndexError", _, rfl, he, hd, xk, fun u h => h, T.ki_NoPerson_IndexError, ?_⟩⟩
    refine ⟨_, rfl, iteP rfl ?_⟩
    exact ⟨.ref e, rfl, e, T.C_NoPerson, d, _, .int qs[k], rfl, he, hd, T.xf_NoPerson, T.na_NoPerson_person, rfl, q H1 s1⟩
def vN? : Option Nat → V
  | none => .non
  | some m => .int (m : Int)
def GoneB (rs : List Rule) (ns : List Int) (o : Option Nat) (b : Nat) : Prop := match o with
  | none => Come rs ns (beatN rs ns b) b
  | some m => b = m
theorem rest_chg {rs : List Rule} {ns : List Int} (hn : ns.length = rs.length) (k : Nat) : restL rs (beatN rs ns k) = chgL (beatN rs ns k) (beatN rs ns (k + 1)) := by
  have l := beatN_len hn (k + 1)
  unfold chgL
  rw [l]
  rfl
theorem eqv_nilH (a : List Int) : PyData.eqv (.list (a.map PyData.int)) (.list []) = a.isEmpty := by
  rw [PyData.eqv]
  cases a <;> rfl
def spGone : Sp := fun vs H Q _ => ∃ (l st : Addr) (o : Option Nat) (us : List V) (rs : List Rule) (ns : List Int), vs = [.ref l, .ref st, vN? o] ∧ H l = some (.lst us) ∧ RulesAt H us rs ∧ Halls rs ∧ TupAt H st (ns.map V.int) ∧ ns.length = rs.length ∧ (∀ n ∈ ns, 0 ≤ n) ∧
  ∀ (p t : Addr) (b : Nat) (H' : Hp), Same H H' → H' p = some (.tup [.ref t, .int (chN rs ns b), .int b]) → TupAt H' t ((beatN rs ns b).map V.int) → GoneB rs ns o b → Q (.ref p) H'
set_option maxHeartbeats 4000000 in
theorem ok_goneH (T : Txt K mg w) : FnOk P w K mg base CX0 6 T.f_gone T.fd_gone p_gone spGone := by
  have G_restless := ok_law_restless (P := P) (w := w) (base := base) T
  have G_law_beaten := ok_law_beaten (P := P) (w := w) (base := base) T
  refine T.F_gone.ok sc_gone (fun vs H Q E h => ?_) (fun cdv A outer s0 H vs Q E hr h => ?_)
  · obtain ⟨l, st, o, us, rs, ns, rfl, _⟩ := h
    rfl
  · obtain ⟨l, st, o, us, rs, ns, rfl, hl, ra, hh, hS, hn, pos, q⟩ := h
    obtain ⟨N, still, rest⟩ := beat_rest hh hn pos
    have l12 := hh.2.1
    refine ⟨_, (pss_cons (ps_asg (pe_tup (pa_cons pe_int (pa_cons pe_int pa_nil))) (pg_tup rfl (pgs_cons (pg_name (i := 3) sc_gone.nd rfl (.inl rfl)) (pgs_cons (pg_name (i := 4) sc_gone.nd rfl (.inl rfl)) pgs_nil))))
      (pss_cons (ps_while PassesOwn.never (PW.pt (pw_or (pt_cmpR op_isN (pv 2) pe_non (nomark _)) (pw_or1 (pt_cmpR op_lt (pv 4) (pv 2) (nomark _)))))
        (pss_cons (ps_set (i := 5) sc_gone.nd rfl (.inl rfl) (pe_call G_restless (hr.mono (by decide)) (by rfl) T.g_restless T.F_restless.kp T.b_restless .nil pass0 (pa_cons (pv 0) (pa_cons (pv 1) pa_nil))))
        (pss_cons (ps_if (PW.pt (pw_and (pt_cmpR op_isN (pv 2) pe_non (nomark _)) (pw_and1 (pt_cmpR (op_eqD hr.units) (pv 5) (pe_lst pa_nil) (nomark _)))))
          (pss_one (ps_ret (pe_tup (pa_cons (pv 1) (pa_cons (pv 3) (pa_cons (pv 4) pa_nil))))))
          pss_nil)
        (pss_one (ps_par3 (i := 1) (j := 3) (l := 4) (by rfl) sc_gone.nd rfl rfl rfl (by decide) (by decide) (by decide) rfl rfl rfl (pa_cons (pe_call G_law_beaten (hr.mono (by decide)) (by rfl) T.g_law_beaten T.F_law_beaten.kp T.b_law_beaten .nil pass0 (pa_cons (pv 0) (pa_cons (pv 1) pa_nil))) (pa_cons (pe_op op_add (pv 3) (pe_callB call_len_seq (by rfl) T.m_len (by decide +kernel) (pa_cons (pv 5) pa_nil))) (pa_cons (pe_op op_add (pv 4) pe_int) pa_nil))) (by rfl))))))
      (pss_one (ps_ret (pe_tup (pa_cons (pv 1) (pa_cons (pv 3) (pa_cons (pv 4) pa_nil)))))))), ?_⟩
    have start : L2.start n_gone [V.ref l, V.ref st, vN? o] = [some (.ref l), some (.ref st), some (vN? o), none, none, none] := rfl
    rw [start]
    refine ⟨by show 2 ≤ sizeLine; decide, fun p0 np0 => ⟨p0, _, rfl, .inl (.inl upd_same), rfl, _, _, rfl, _, _, rfl, rfl, ?_⟩⟩
    have s0 := same_upd (o := .tup [.int 0, .int 0]) np0
    dsimp only [List.set_cons_succ, List.set_cons_zero]
    refine seq_useN (fun σ H3 => ∃ (t : Addr) (b : Nat) (y5 : Option V), σ = [some (.ref l), some (.ref t), some (vN? o), some (.int (chN rs ns b)), some (.int b), y5] ∧ Same H H3 ∧ TupAt H3 t ((beatN rs ns b).map V.int) ∧ o = some b) (fun NN hN => ?_) ?_
    · cases o with
      | none =>
        refine ⟨fun mm σ H3 => ∃ (k : Nat) (t : Addr) (y5 : Option V), mm = N - k ∧ σ = [some (.ref l), some (.ref t), some .non, some (.int (chN rs ns k)), some (.int k), y5] ∧ Same H H3 ∧ TupAt H3 t ((beatN rs ns k).map V.int) ∧ ∀ i, i < k → beatN rs ns i ≠ beatN rs ns (i + 1), ⟨_, 0, st, none, rfl, rfl, s0, hS.keep (Keep.same s0), fun i hi => absurd hi (by omega)⟩, ?_⟩
        rintro mm σ H3 ⟨k, t, y5, rfl, rfl, s3, ht, nw⟩
        have lk := beatN_len hn k
        refine ⟨.non, rfl, rfl, _, rfl, iteP rfl ?_⟩
        dsimp only
        rw [if_pos rfl]
        refine ⟨fun σ' H' => ∃ (t2 : Addr) (y5 : Option V), σ' = [some (.ref l), some (.ref t2), some .non, some (.int (chN rs ns (k + 1))), some (.int ((k : Int) + 1)), y5] ∧ Same H H' ∧ TupAt H' t2 ((beatN rs ns (k + 1)).map V.int) ∧ beatN rs ns (k + 1) ≠ beatN rs ns k, fun σ' H' ⟨t2, z5, e1, e2, e3, e4⟩ => ⟨N - (k + 1), ?_, k + 1, t2, z5, rfl, e1, e2, e3, fun i hi => ?_⟩, ?_⟩
        · have : k < N := by
            rcases Nat.lt_or_ge k N with c | c
            · exact c
            · exact absurd ((still (k + 1) (by omega)).trans (still k c).symm) e4
          omega
        · by_cases c : i = k
          · subst c; exact fun z => e4 z.symm
          · exact nw i (by omega)
        refine ⟨.ref l, rfl, .ref t, rfl, l, t, us, rs, beatN rs ns k, rfl, s3 _ _ hl, ra.keep (Keep.same s3), hh, ht, lk, fun z H4 s4 nz hz => ?_⟩
        rw [rest_chg hn] at hz
        have s34 := s3.trans s4
        dsimp only [List.set_cons_succ, List.set_cons_zero]
        refine ⟨.non, rfl, rfl, _, rfl, iteP rfl ?_⟩
        refine ⟨.ref z, rfl, by show 0 ≤ sizeLine; decide, fun n1 nn1 => ?_⟩
        have sn1 := same_upd (o := .lst []) nn1
        refine ⟨.list ((chgL (beatN rs ns k) (beatN rs ns (k + 1))).map PyData.int), .list [], .lst (.inl (.inl (sn1 _ _ hz))) (RpAll.dp (bx := l) (RpAll.ints _)), .lst (.inl (.inl upd_same)) .nil, shaped_ints _, by decide +kernel, ?_⟩
        rw [eqv_nilH]
        by_cases c : chgL (beatN rs ns k) (beatN rs ns (k + 1)) = []
        · have e := (chg_nil (lk.trans (beatN_len hn (k + 1)).symm)).mp c
          refine ⟨_, rfl, iteP (by rw [c]; rfl) ⟨.ref t, rfl, .int (chN rs ns k), rfl, .int k, rfl, by show 3 ≤ sizeLine; decide, fun p np => ?_⟩⟩
          have sp := same_upd (o := .tup [.ref t, .int (chN rs ns k), .int k]) np
          refine q p t k _ (s34.trans (sn1.trans sp)) upd_same ((ht.keep (Keep.same s4)).keep (Keep.same (sn1.trans sp))) ⟨rfl, ?_, nw⟩
          have := beatN_step hn k
          rw [e] at this
          exact this
        have e : beatN rs ns (k + 1) ≠ beatN rs ns k := fun e => c ((chg_nil (lk.trans (beatN_len hn (k + 1)).symm)).mpr e)
        refine ⟨_, rfl, iteN (by cases hc : chgL (beatN rs ns k) (beatN rs ns (k + 1)) with | nil => exact absurd hc c | cons _ _ => rfl) ?_⟩
        dsimp only [tNext]
        have hz := sn1 _ _ hz
        have s4 := s4.trans sn1
        have s34 := s34.trans sn1
        have ht4 := ht.keep (Keep.same s4)
        refine ⟨.ref l, rfl, .ref t, rfl, l, t, us, rs, beatN rs ns k, rfl, s34 _ _ hl, ra.keep (Keep.same s34), hh, ht4, lk, fun t2 ms H5 s5 nt ht2 be => ?_⟩
        obtain rfl : ms = beatN rs ns (k + 1) := be.unique lk (beatN_step hn k)
        have e6 : chN rs ns k + (((chgL (beatN rs ns k) (beatN rs ns (k + 1))).map V.int).length : Int) = chN rs ns (k + 1) := by rw [List.length_map]; rfl
        refine ⟨.int (chN rs ns k), rfl, .ref z, rfl, z, _, rfl, .inl (.inl (.inl (s5 _ _ hz))), _, _, rfl, rfl, .int k, rfl, _, _, rfl, rfl, _, _, _, rfl, ?_⟩
        exact ⟨t2, some (.ref z), by rw [← e6]; rfl, s34.trans s5, ht2, e⟩
      | some m =>
        refine ⟨fun mm σ H3 => ∃ (k : Nat) (t : Addr) (y5 : Option V), mm = m - k ∧ σ = [some (.ref l), some (.ref t), some (.int m), some (.int (chN rs ns k)), some (.int k), y5] ∧ Same H H3 ∧ TupAt H3 t ((beatN rs ns k).map V.int) ∧ k ≤ m, ⟨_, 0, st, none, rfl, rfl, s0, hS.keep (Keep.same s0), Nat.zero_le _⟩, ?_⟩
        rintro mm σ H3 ⟨k, t, y5, rfl, rfl, s3, ht, nw⟩
        have lk := beatN_len hn k
        refine ⟨.int m, rfl, rfl, _, rfl, iteN rfl ?_⟩
        refine ⟨.int k, rfl, .int m, rfl, _, _, rfl, rfl, ?_⟩
        refine ⟨_, rfl, ?_⟩
        dsimp only
        by_cases c : k < m
        · rw [if_pos (decide_eq_true (by omega : (k : Int) < (m : Int)))]
          refine ⟨fun σ' H' => ∃ (t2 : Addr) (y5 : Option V), σ' = [some (.ref l), some (.ref t2), some (.int m), some (.int (chN rs ns (k + 1))), some (.int ((k : Int) + 1)), y5] ∧ Same H H' ∧ TupAt H' t2 ((beatN rs ns (k + 1)).map V.int), fun σ' H' ⟨t2, z5, e1, e2, e3⟩ => ⟨m - (k + 1), by omega, k + 1, t2, z5, rfl, e1, e2, e3, by omega⟩, ?_⟩
          refine ⟨.ref l, rfl, .ref t, rfl, l, t, us, rs, beatN rs ns k, rfl, s3 _ _ hl, ra.keep (Keep.same s3), hh, ht, lk, fun z H4 s4 nz hz => ?_⟩
          rw [rest_chg hn] at hz
          have s34 := s3.trans s4
          dsimp only [List.set_cons_succ, List.set_cons_zero]
          refine ⟨.int m, rfl, rfl, _, rfl, iteN rfl (iteN rfl ?_)⟩
          dsimp only [tNext]
          have ht4 := ht.keep (Keep.same s4)
          refine ⟨.ref l, rfl, .ref t, rfl, l, t, us, rs, beatN rs ns k, rfl, s34 _ _ hl, ra.keep (Keep.same s34), hh, ht4, lk, fun t2 ms H5 s5 nt ht2 be => ?_⟩
          obtain rfl : ms = beatN rs ns (k + 1) := be.unique lk (beatN_step hn k)
          have e6 : chN rs ns k + (((chgL (beatN rs ns k) (beatN rs ns (k + 1))).map V.int).length : Int) = chN rs ns (k + 1) := by rw [List.length_map]; rfl
          refine ⟨.int (chN rs ns k), rfl, .ref z, rfl, z, _, rfl, .inl (.inl (.inl (s5 _ _ hz))), _, _, rfl, rfl, .int k, rfl, _, _, rfl, rfl, _, _, _, rfl, ?_⟩
          exact ⟨t2, some (.ref z), by rw [← e6]; rfl, s34.trans s5, ht2⟩
        · rw [if_neg (by rw [decide_eq_false (by omega : ¬ (k : Int) < (m : Int))]; exact Bool.false_ne_true)]
          obtain rfl : k = m := by omega
          exact hN _ _ ⟨t, k, y5, rfl, s3, ht, rfl⟩
    rintro σ H3 ⟨t, b, y5, rfl, s3, ht, rfl⟩
    refine ⟨.ref t, rfl, .int (chN rs ns b), rfl, .int b, rfl, by show 3 ≤ sizeLine; decide, fun p np => ?_⟩
    have sp := same_upd (o := .tup [.ref t, .int (chN rs ns b), .int b]) np
    exact q p t b _ (s3.trans sp) upd_same (ht.keep (Keep.same sp)) rfl
end
end Lh

namespace Lh
open PySem PySem.Spec PyProof.Rows L2
theorem cutV_id (xs : List V) (lo hi : Option Int) : cutV xs lo hi = cutI xs lo hi := by
  have h := cut_map id xs lo hi
  rw [List.map_id, List.map_id] at h
  exact h
theorem sl_tup_use {K : PySem.W.Frag} {H : Hp} {a : Addr} {xs : List V} {lo hi : Option Int} {Q : VK} (h : TupAt H a xs) (q : ∀ (c : Addr) (H' : Hp), Same H H' → TupAt H' c (cutI xs lo hi) → Q (.ref c) H') : rSlA K (.ref a) lo hi H Q := by
  refine ⟨a, xs, rfl, h.sq, fun w => q a H (Same.refl _) ?_, fun _ p np => q p _ (same_upd np) (.inl (by rw [upd_same, cutV_id]))⟩
  have e : cutI xs lo hi = xs := by
    unfold cutI
    rw [w.1, w.2, List.drop_zero, Nat.sub_zero, List.take_length]
  rw [e]; exact h
theorem cat_use {K : PySem.W.Frag} {H : Hp} {a b : Addr} {xs ys : List V} {Q : VK} (ha : TupAt H a xs) (hb : TupAt H b ys) (hz : xs.length + ys.length ≤ sizeLine) (q : ∀ (c : Addr) (H' : Hp), Same H H' → TupAt H' c (xs ++ ys) → Q (.ref c) H') : rCatA K (.ref a) (.ref b) H Q := by
  refine ⟨a, b, xs, ys, rfl, rfl, ha.sq, hb.sq, hz, fun e => q b H (Same.refl _) (by rw [e]; exact hb), fun _ e => q a H (Same.refl _) (by rw [e, List.append_nil]; exact ha), fun _ _ p np => q p _ (same_upd np) (.inl upd_same)⟩
/-- the standing in which p shows v -/
theorem put_at {ns : List Int} {p : Nat} (hp : p < ns.length) (v : V) : cutI (ns.map V.int) none (some (p : Int)) ++ [v] ++ cutI (ns.map V.int) (some ((p : Int) + 1)) none = (ns.map V.int).set p v := by
  rw [cut_to _ _ (by rw [List.length_map]; omega), show (p : Int) + 1 = ((p + 1 : Nat) : Int) by omega, cut_from _ _ (by rw [List.length_map]; omega), List.set_eq_take_append_cons_drop, if_pos (by rw [List.length_map]; exact hp), List.append_assoc]
  rfl
end Lh

namespace Lh
open PySem PySem.Spec PyProof.Rows L2
section
variable {P : Program} {w : World} {K : PySem.W.Frag} {mg : Str → Option Value} {base : Heap}
def spSame : Nat → Sp
  | 0 => fun _ _ _ _ => False
  | n + 1 => fun vs H Q _ => ∃ (bx : Addr) (v u : V) (d : PyData), vs = [v, u] ∧ Rp bx H v d ∧ Rp bx H u d ∧ okD n d ∧ ∀ H', Same H H' → Q (.bl true) H'
theorem ok_same (T : Txt K mg w) : ∀ n, FnOk P w K mg base CX0 n T.f_same T.fd_same p_same (spSame n)
  | 0 => ⟨fun _ _ _ _ h => h.elim, fun _ _ _ _ _ _ _ _ _ _ _ _ _ h => h.elim⟩
  | n + 1 => by
    have G_same : FnOk P w K mg base CX0 n T.f_same T.fd_same p_same (spSame n) := ok_same T n
    refine T.F_same.ok sc_same (fun vs H Q E h => ?_) (fun cdv A outer s H vs Q E hr h => ?_)
    · obtain ⟨bx, v, u, d, rfl, _⟩ := h
      rfl
    · obtain ⟨bx, v, u, d, rfl, hv, hu, hd, q⟩ := h
      refine ⟨_, (pss_cons (ps_if (pt_val (pe_callB call_isiT (by rfl) T.m_isinstance (by decide +kernel) (pa_cons (pv 1) (pa_cons (pe_tup (pa_cons (pe_bltn (v := .ty "list") (by rfl) T.m_list (by decide +kernel) rfl) (pa_cons (pe_bltn (v := .ty "tuple") (by rfl) T.m_tuple (by decide +kernel) rfl) pa_nil))) pa_nil))))
        (pss_cons (ps_if (PW.pt (pw_or (pt_cmpR op_ne (pe_callB call_isi (by rfl) T.m_isinstance (by decide +kernel) (pa_cons (pv 0) (pa_cons (pe_bltn (v := .ty "list") (by rfl) T.m_list (by decide +kernel) rfl) pa_nil))) (pe_callB call_isi (by rfl) T.m_isinstance (by decide +kernel) (pa_cons (pv 1) (pa_cons (pe_bltn (v := .ty "list") (by rfl) T.m_list (by decide +kernel) rfl) pa_nil))) (nomark _)) (pw_or1 (pt_cmpR op_ne (pe_callB call_isi (by rfl) T.m_isinstance (by decide +kernel) (pa_cons (pv 0) (pa_cons (pe_bltn (v := .ty "tuple") (by rfl) T.m_tuple (by decide +kernel) rfl) pa_nil))) (pe_callB call_isi (by rfl) T.m_isinstance (by decide +kernel) (pa_cons (pv 1) (pa_cons (pe_bltn (v := .ty "tuple") (by rfl) T.m_tuple (by decide +kernel) rfl) pa_nil))) (nomark _)))))
          (pss_one (ps_ret pe_bl))
          pss_nil)
        (pss_one (ps_ret (pe_and (pe_cmpR op_eq (pe_callB call_len_seq (by rfl) T.m_len (by decide +kernel) (pa_cons (pv 0) pa_nil)) (pe_callB call_len_seq (by rfl) T.m_len (by decide +kernel) (pa_cons (pv 1) pa_nil)) (nomark _)) (pe_one (pe_callB (cr_all rfl) (by rfl) T.m_all (by decide +kernel) (pa_cons (pe_lc (own := [("_law_one", 2), ("_law_two", 3)]) (g := gTup K 2 (gCons (gName 2) (gCons (gName 3) gNil))) (by rfl) sc_same.nd (RZ.pi_zipA (by rfl) T.m_zip (pa_cons (pv 0) (pa_cons (pv 1) pa_nil))) (blkOk_by (own := [("_law_one", 2), ("_law_two", 3)]) (N := n_same) (sc := defScope s_same) (by decide +kernel)) (fun _ _ _ _ _ => (pg_tup rfl (pgs_cons (pg_name (i := 2) sc_same.nd rfl (.inl rfl) (.inr rfl)) (pgs_cons (pg_name (i := 3) sc_same.nd rfl (.inl rfl) (.inr rfl)) pgs_nil)))) (fun _ _ _ _ _ => pts_nil) (fun _ _ _ _ _ => (pe_call G_same hr (by rfl) T.g_same T.F_same.kp T.b_same .nil pass0 (pa_cons (pv 2) (pa_cons (pv 3) pa_nil))))) pa_nil)))))))
        pss_nil)
      (pss_cons (ps_if (PW.pt (pw_or (pt_cmpR op_isN (pv 1) pe_non (nomark _)) (pw_or1 (pt_cmpR op_isN (pv 0) pe_non (nomark _)))))
        (pss_one (ps_ret (pe_and (pe_cmpR op_isN (pv 1) pe_non (nomark _)) (pe_one (pe_cmpR op_isN (pv 0) pe_non (nomark _))))))
        pss_nil)
      (pss_cons (ps_if (PW.pt (pw_or (pt_val (pe_callB call_isi (by rfl) T.m_isinstance (by decide +kernel) (pa_cons (pv 1) (pa_cons (pe_bltn (v := .ty "bool") (by rfl) T.m_bool (by decide +kernel) rfl) pa_nil)))) (pw_or1 (pt_val (pe_callB call_isi (by rfl) T.m_isinstance (by decide +kernel) (pa_cons (pv 1) (pa_cons (pe_bltn (v := .ty "str") (by rfl) T.m_str (by decide +kernel) rfl) pa_nil)))))))
        (pss_one (ps_ret (pe_and (pe_cmpR op_eq (pe_callB call_isi (by rfl) T.m_isinstance (by decide +kernel) (pa_cons (pv 0) (pa_cons (pe_bltn (v := .ty "bool") (by rfl) T.m_bool (by decide +kernel) rfl) pa_nil))) (pe_callB call_isi (by rfl) T.m_isinstance (by decide +kernel) (pa_cons (pv 1) (pa_cons (pe_bltn (v := .ty "bool") (by rfl) T.m_bool (by decide +kernel) rfl) pa_nil))) (nomark _)) (pe_one (pe_cmpR op_eq (pv 0) (pv 1) (nomark _))))))
        pss_nil)
      (pss_one (ps_ret (pe_and (pe_callB call_isi (by rfl) T.m_isinstance (by decide +kernel) (pa_cons (pv 0) (pa_cons (pe_bltn (v := .ty "int") (by rfl) T.m_int (by decide +kernel) rfl) pa_nil))) (pe_and (pe_not (pe_callB call_isi (by rfl) T.m_isinstance (by decide +kernel) (pa_cons (pv 0) (pa_cons (pe_bltn (v := .ty "bool") (by rfl) T.m_bool (by decide +kernel) rfl) pa_nil)))) (pe_one (pe_cmpR op_eq (pv 0) (pv 1) (nomark _)))))))))), ?_⟩
      have ty : ∀ {H' : Hp} {x : V}, Same H H' → Rp bx H x d → TyX K H' x (.type (tyD d)) := fun s h => (h.ext (Ext.of s)).ty
      have sz : ∀ {m : Nat}, m ≤ 8388608 → m < sizeLine := fun h => Nat.lt_of_le_of_lt h (by decide)
      cases d with
      | none =>
        cases hv
        cases hu
        refine rd_isi2 (x := .non) (T := "NoneType") rfl (.base .non) (by decide +kernel : kitB "NoneType" "list" = some false) (by decide +kernel : kitB "NoneType" "tuple" = some false) (fun p hp => ?_) (fun p hp => .base .non)
        refine ⟨_, rfl, iteN rfl ?_⟩
        refine ⟨.non, rfl, rfl, _, rfl, iteP (decide_eq_true rfl) (iteP rfl ?_)⟩
        refine ⟨.non, rfl, rfl, _, rfl, iteP (decide_eq_true rfl) ?_⟩
        exact ⟨.non, rfl, rfl, blT (decide_eq_true rfl) (q _ (same_upd hp))⟩
      | bool b =>
        cases hv
        cases hu
        refine rd_isi2 (x := .bl b) (T := "bool") rfl (.base (.bl b)) (by decide +kernel : kitB "bool" "list" = some false) (by decide +kernel : kitB "bool" "tuple" = some false) (fun p hp => ?_) (fun p hp => .base (.bl b))
        refine ⟨_, rfl, iteN rfl ?_⟩
        refine ⟨.bl b, rfl, rfl, _, rfl, iteN (decide_eq_false (by intro z; cases z)) ⟨.bl b, rfl, rfl, _, rfl, iteN (decide_eq_false (by intro z; cases z)) ?_⟩⟩
        refine rd_isi (x := .bl b) (T := "bool") rfl (.base (.bl b)) (by decide +kernel : kitB "bool" "bool" = some true) ⟨_, rfl, iteP rfl (iteP rfl ?_)⟩
        refine rd_isi (x := .bl b) (T := "bool") rfl (.base (.bl b)) (by decide +kernel : kitB "bool" "bool" = some true) ?_
        refine rd_isi (x := .bl b) (T := "bool") rfl (.base (.bl b)) (by decide +kernel : kitB "bool" "bool" = some true) ⟨rfl, _, rfl, iteP (decide_eq_true rfl) ?_⟩
        exact ⟨.bl b, rfl, .bl b, rfl, rfl, blT (decide_eq_true rfl) (q _ (same_upd hp))⟩
      | int i =>
        cases hv
        cases hu
        refine rd_isi2 (x := .int i) (T := "int") rfl (.base (.int i)) (by decide +kernel : kitB "int" "list" = some false) (by decide +kernel : kitB "int" "tuple" = some false) (fun p hp => ?_) (fun p hp => .base (.int i))
        refine ⟨_, rfl, iteN rfl ?_⟩
        refine ⟨.int i, rfl, rfl, _, rfl, iteN (decide_eq_false (by intro z; cases z)) ⟨.int i, rfl, rfl, _, rfl, iteN (decide_eq_false (by intro z; cases z)) ?_⟩⟩
        refine rd_isi (x := .int i) (T := "int") rfl (.base (.int i)) (by decide +kernel : kitB "int" "bool" = some false) ⟨_, rfl, iteN rfl ?_⟩
        refine rd_isi (x := .int i) (T := "int") rfl (.base (.int i)) (by decide +kernel : kitB "int" "str" = some false) ⟨_, rfl, iteN rfl ?_⟩
        refine rd_isi (x := .int i) (T := "int") rfl (.base (.int i)) (by decide +kernel : kitB "int" "int" = some true) ⟨_, rfl, iteP rfl ?_⟩
        refine rd_isi (x := .int i) (T := "int") rfl (.base (.int i)) (by decide +kernel : kitB "int" "bool" = some false) ⟨_, rfl, _, rfl, iteP rfl ?_⟩
        exact ⟨.int i, rfl, .int i, rfl, rfl, blT (decide_eq_true rfl) (q _ (same_upd hp))⟩
      | str x =>
        cases hv
        cases hu
        refine rd_isi2 (x := .str x) (T := "str") rfl (.base (.str x)) (by decide +kernel : kitB "str" "list" = some false) (by decide +kernel : kitB "str" "tuple" = some false) (fun p hp => ?_) (fun p hp => .base (.str x))
        refine ⟨_, rfl, iteN rfl ?_⟩
        refine ⟨.str x, rfl, rfl, _, rfl, iteN (decide_eq_false (by intro z; cases z)) ⟨.str x, rfl, rfl, _, rfl, iteN (decide_eq_false (by intro z; cases z)) ?_⟩⟩
        refine rd_isi (x := .str x) (T := "str") rfl (.base (.str x)) (by decide +kernel : kitB "str" "bool" = some false) ⟨_, rfl, iteN rfl ?_⟩
        refine rd_isi (x := .str x) (T := "str") rfl (.base (.str x)) (by decide +kernel : kitB "str" "str" = some true) ⟨_, rfl, iteP rfl ?_⟩
        refine rd_isi (x := .str x) (T := "str") rfl (.base (.str x)) (by decide +kernel : kitB "str" "bool" = some false) ?_
        refine rd_isi (x := .str x) (T := "str") rfl (.base (.str x)) (by decide +kernel : kitB "str" "bool" = some false) ⟨rfl, _, rfl, iteP (decide_eq_true rfl) ?_⟩
        exact ⟨.str x, rfl, .str x, rfl, rfl, blT (decide_eq_true rfl) (q _ (same_upd hp))⟩
      | list ds =>
        cases n with
        | zero => exact hd.elim
        | succ n =>
        obtain ⟨hlen, hds⟩ := hd
        refine rd_isi2 (x := u) (T := "list") rfl hu.ty (by decide +kernel : kitB "list" "list" = some true) (by decide +kernel : kitB "list" "tuple" = some false) (fun p hp => ?_) (fun p hp => ty (same_upd hp) hu)
        have s1 := same_upd (o := .tup [.ty "list", .ty "tuple"]) hp
        refine ⟨_, rfl, iteP rfl ?_⟩
        refine rd_isi (x := v) (T := "list") rfl (ty s1 hv) (by decide +kernel : kitB "list" "list" = some true) ?_
        refine rd_isi (x := u) (T := "list") rfl (ty s1 hu) (by decide +kernel : kitB "list" "list" = some true) ⟨rfl, _, rfl, iteN rfl ?_⟩
        refine rd_isi (x := v) (T := "list") rfl (ty s1 hv) (by decide +kernel : kitB "list" "tuple" = some false) ?_
        refine rd_isi (x := u) (T := "list") rfl (ty s1 hu) (by decide +kernel : kitB "list" "tuple" = some false) ⟨rfl, _, rfl, iteN rfl ?_⟩
        have hv1 := hv.ext (Ext.of s1)
        have hu1 := hu.ext (Ext.of s1)
        generalize hH1 : upd H p (.tup [.ty "list", .ty "tuple"]) = H1 at *
        cases hv1 with
        | @lst a xs _ ha na rx =>
        cases hu1 with
        | @lst b ys _ hb nb ry =>
        have ex : xs.length = ds.length := rx.length
        have ey : ys.length = ds.length := ry.length
        refine ⟨.ref a, rfl, a, _, rfl, .inl (.inl (.inl ha)), .ref b, rfl, b, _, rfl, .inl (.inl (.inl hb)), rfl, _, rfl, iteP (decide_eq_true (by rw [ex, ey])) ?_⟩
        refine ⟨.ref a, rfl, .ref b, rfl, a, b, xs, ys, rfl, .inl ⟨.inl (.inl ha), .inl (.inl hb), fun D hD => ?_⟩⟩
        refine lc_it (walk_zip (xs := xs) (ys := ys) (n := ds.length) (by rw [ex, ey, Nat.min_self])) (fun i H3 => Same H1 H3 ∧ H3 D = some (.lst (List.replicate i (.bl true)))) ⟨same_upd hD, upd_same⟩ ?_ ?_ ?_
        · rintro i H3 _ ⟨sm, _⟩
          exact ⟨.inl (.inl (sm _ _ ha)), .inl (.inl (sm _ _ hb))⟩
        · rintro i x H3 H4 hi ⟨sm, hD3⟩ ⟨t, x1, x2, rfl, nt, rfl, e1, e2⟩
          have sT := same_upd (o := .tup [x1, x2]) nt
          refine ⟨t, _, rfl, .inl (.inl upd_same), rfl, _, _, rfl, _, _, rfl, rfl, rfl, yes (iteT ?_)⟩
          obtain ⟨z1, f1, r1⟩ := rx.get (List.getElem?_eq_getElem hi)
          obtain ⟨z2, f2, r2⟩ := ry.get (List.getElem?_eq_getElem hi)
          have g1 : x1 = z1 := Option.some.inj (e1.symm.trans f1)
          have g2 : x2 = z2 := Option.some.inj (e2.symm.trans f2)
          subst g1 g2
          refine ⟨x1, rfl, x2, rfl, bx, x1, x2, ds[i], rfl, r1.ext (Ext.of (sm.trans sT)), r2.ext (Ext.of (sm.trans sT)), hds _ (List.getElem_mem hi), fun H5 s5 => ?_⟩
          refine ⟨_, s5 _ _ (sT _ _ hD3), by rw [List.length_replicate]; exact sz (by omega), same_mut (sm.trans (sT.trans s5)) hD, ?_⟩
          rw [upd_same, List.replicate_succ']
        · rintro H3 ⟨sm, hD3⟩
          refine ⟨D, List.replicate ds.length true, rfl, .inl (.inl (by rw [hD3, List.map_replicate])), blT ?_ (q _ (s1.trans sm))⟩
          rw [List.all_eq_true]
          intro z hz
          rw [List.eq_of_mem_replicate hz]
          rfl
      | tuple ds =>
        cases n with
        | zero => exact hd.elim
        | succ n =>
        obtain ⟨hlen, hds⟩ := hd
        refine rd_isi2 (x := u) (T := "tuple") rfl hu.ty (by decide +kernel : kitB "tuple" "list" = some false) (by decide +kernel : kitB "tuple" "tuple" = some true) (fun p hp => ?_) (fun p hp => ty (same_upd hp) hu)
        have s1 := same_upd (o := .tup [.ty "list", .ty "tuple"]) hp
        refine ⟨_, rfl, iteP rfl ?_⟩
        refine rd_isi (x := v) (T := "tuple") rfl (ty s1 hv) (by decide +kernel : kitB "tuple" "list" = some false) ?_
        refine rd_isi (x := u) (T := "tuple") rfl (ty s1 hu) (by decide +kernel : kitB "tuple" "list" = some false) ⟨rfl, _, rfl, iteN rfl ?_⟩
        refine rd_isi (x := v) (T := "tuple") rfl (ty s1 hv) (by decide +kernel : kitB "tuple" "tuple" = some true) ?_
        refine rd_isi (x := u) (T := "tuple") rfl (ty s1 hu) (by decide +kernel : kitB "tuple" "tuple" = some true) ⟨rfl, _, rfl, iteN rfl ?_⟩
        have hv1 := hv.ext (Ext.of s1)
        have hu1 := hu.ext (Ext.of s1)
        generalize hH1 : upd H p (.tup [.ty "list", .ty "tuple"]) = H1 at *
        cases hv1 with
        | @tup a xs _ ha na rx =>
        cases hu1 with
        | @tup b ys _ hb nb ry =>
        have ex : xs.length = ds.length := rx.length
        have ey : ys.length = ds.length := ry.length
        refine ⟨.ref a, rfl, a, _, rfl, .inr ha.sq, .ref b, rfl, b, _, rfl, .inr hb.sq, rfl, _, rfl, iteP (decide_eq_true (by rw [ex, ey])) ?_⟩
        refine ⟨.ref a, rfl, .ref b, rfl, a, b, xs, ys, rfl, .inr ⟨ha.sq, hb.sq, fun D hD => ?_⟩⟩
        refine lc_it (walk_zipT (xs := xs) (ys := ys) (n := ds.length) ex ey) (fun i H3 => Same H1 H3 ∧ H3 D = some (.lst (List.replicate i (.bl true)))) ⟨same_upd hD, upd_same⟩ ?_ ?_ ?_
        · rintro i H3 _ ⟨sm, _⟩
          exact ⟨(ha.ext (Ext.of (bx := bx) sm) na).sq, (hb.ext (Ext.of (bx := bx) sm) nb).sq⟩
        · rintro i x H3 H4 hi ⟨sm, hD3⟩ ⟨t, x1, x2, rfl, nt, rfl, e1, e2⟩
          have sT := same_upd (o := .tup [x1, x2]) nt
          refine ⟨t, _, rfl, .inl (.inl upd_same), rfl, _, _, rfl, _, _, rfl, rfl, rfl, yes (iteT ?_)⟩
          obtain ⟨z1, f1, r1⟩ := rx.get (List.getElem?_eq_getElem hi)
          obtain ⟨z2, f2, r2⟩ := ry.get (List.getElem?_eq_getElem hi)
          have g1 : x1 = z1 := Option.some.inj (e1.symm.trans f1)
          have g2 : x2 = z2 := Option.some.inj (e2.symm.trans f2)
          subst g1 g2
          refine ⟨x1, rfl, x2, rfl, bx, x1, x2, ds[i], rfl, r1.ext (Ext.of (sm.trans sT)), r2.ext (Ext.of (sm.trans sT)), hds _ (List.getElem_mem hi), fun H5 s5 => ?_⟩
          refine ⟨_, s5 _ _ (sT _ _ hD3), by rw [List.length_replicate]; exact sz (by omega), same_mut (sm.trans (sT.trans s5)) hD, ?_⟩
          rw [upd_same, List.replicate_succ']
        · rintro H3 ⟨sm, hD3⟩
          refine ⟨D, List.replicate ds.length true, rfl, .inl (.inl (by rw [hD3, List.map_replicate])), blT ?_ (q _ (s1.trans sm))⟩
          rw [List.all_eq_true]
          intro z hz
          rw [List.eq_of_mem_replicate hz]
          rfl
      | dict kvs => cases hv
end
end Lh

namespace Lh
open PySem PySem.Spec PyProof.Rows L2
theorem okD_ints {n : Nat} {ns : List Int} (h : ns.length ≤ 8388608) : okD (n + 1) (.tuple (ns.map PyData.int)) := by
  refine ⟨by rw [List.length_map]; exact h, fun d hd => ?_⟩
  obtain ⟨x, _, rfl⟩ := List.mem_map.mp hd
  cases n <;> trivial
def wayD (nss : List (List Int)) : PyData := .list (nss.map fun ms => .tuple (ms.map PyData.int))
theorem okD_way {n : Nat} {nss : List (List Int)} (h : nss.length ≤ 8388608) (h2 : ∀ ms ∈ nss, ms.length ≤ 8388608) : okD (n + 2) (wayD nss) := by
  refine ⟨by rw [List.length_map]; exact h, fun d hd => ?_⟩
  obtain ⟨x, hx, rfl⟩ := List.mem_map.mp hd
  exact okD_ints (h2 x hx)
theorem tup_nb {bx : Addr} {c : Int} {H : Hp} {t : Addr} {xs : List V} (b : Box bx c H) (h : TupAt H t xs) : t ≠ bx := by
  obtain ⟨_, _, _, hb, _⟩ := b
  rcases h with h | ⟨o, _, h⟩
  · exact ne_of h hb (by intro z; cases z)
  · exact ne_of h hb (by intro z; cases z)
theorem StandsAt.rp {bx : Addr} {c : Int} {H : Hp} (b : Box bx c H) : ∀ {vs : List V} {nss : List (List Int)}, StandsAt H vs nss → RpAll bx H vs (nss.map fun ms => .tuple (ms.map PyData.int))
  | _, _, .nil => .nil
  | _, _, .cons ⟨t, e, h⟩ r => by
    subst e
    exact .cons (.tup h (tup_nb b h) (RpAll.ints _)) (StandsAt.rp b r)
theorem StandsAt.drop {H : Hp} : ∀ {vs : List V} {nss : List (List Int)} (k : Nat), StandsAt H vs nss → StandsAt H (vs.drop k) (nss.drop k)
  | _, _, 0, h => h
  | _, _, k + 1, .nil => .nil
  | _, _, k + 1, .cons _ r => StandsAt.drop k r
theorem StandsAt.take {H : Hp} : ∀ {vs : List V} {nss : List (List Int)} (k : Nat), StandsAt H vs nss → StandsAt H (vs.take k) (nss.take k)
  | _, _, 0, h => .nil
  | _, _, k + 1, .nil => .nil
  | _, _, k + 1, .cons h r => .cons h (StandsAt.take k r)
/-- what stands while a hall is asked -/
structure F7 (C bx : Addr) (c : Int) (H0 : Hp) (l x t : Addr) (us : List V) (rs : List Rule) (ns : List Int) (Hk : Hp) : Prop where
  e : Ext bx H0 Hk
  b : Box bx c Hk
  hl : Hk l = some (.lst us)
  ra : RulesAt Hk us rs
  hA : HallAt C Hk x rs
  hS : TupAt Hk t (ns.map V.int)
theorem F7.same {C bx : Addr} {c : Int} {H0 : Hp} {l x t : Addr} {us : List V} {rs : List Rule} {ns : List Int} {Hk H' : Hp} (f : F7 C bx c H0 l x t us rs ns Hk) (s : Same Hk H') : F7 C bx c H0 l x t us rs ns H' :=
  ⟨f.e.trans (Ext.of s), f.b.same s, s _ _ f.hl, f.ra.keep (Keep.same s), f.hA.keep s, f.hS.keep (Keep.same s)⟩
theorem F7.draw {C bx : Addr} {c c' : Int} {H0 : Hp} {l x t : Addr} {us : List V} {rs : List Rule} {ns : List Int} {Hk H' : Hp} (f : F7 C bx c H0 l x t us rs ns Hk) (nl : l ≠ bx) (e : Ext bx Hk H') (b : Box bx c' H') : F7 C bx c' H0 l x t us rs ns H' :=
  ⟨f.e.trans e, b, e _ _ nl f.hl, f.ra.keep (Keep.ext e f.b), f.hA.ext e f.b, f.hS.keep (Keep.ext e f.b)⟩
theorem F7.lst {C bx : Addr} {c : Int} {H0 : Hp} {l x t d : Addr} {us ys zs : List V} {rs : List Rule} {ns : List Int} {Hk : Hp} (f : F7 C bx c H0 l x t us rs ns Hk) (hd : Hk d = some (.lst ys)) (n1 : d ≠ bx) (n2 : l ≠ d) (n0 : H0 d = none) : F7 C bx c H0 l x t us rs ns (upd Hk d (.lst zs)) := by
  have kT := keep_lst (ys := zs) hd
  refine ⟨f.e.new n0, f.b.at n1, by rw [upd_ne n2]; exact f.hl, f.ra.keep kT, ?_, f.hS.keep kT⟩
  obtain ⟨dx, t', vs, h1, h2, h3⟩ := f.hA
  refine ⟨dx, t', vs, ?_, h2.keep kT, h3.keep kT⟩
  rw [upd_ne (ne_of h1 hd (by intro z; cases z))]
  exact h1
def tupD (ms : List Int) : PyData := .tuple (ms.map PyData.int)
theorem TupAt.rpI {bx : Addr} {c : Int} {H : Hp} (b : Box bx c H) {t : Addr} {ms : List Int} (h : TupAt H t (ms.map V.int)) : Rp bx H (.ref t) (tupD ms) := .tup h (tup_nb b h) (RpAll.ints _)
theorem okD_tups {n : Nat} {ds : List (List Int)} (h : ds.length ≤ 8388608) (h2 : ∀ ms ∈ ds, ms.length ≤ 8388608) : okD (n + 2) (.list (ds.map tupD)) := okD_way h h2
theorem okD_intsL {n : Nat} {ns : List Int} (h : ns.length ≤ 8388608) : okD (n + 1) (.list (ns.map PyData.int)) := by
  refine ⟨by rw [List.length_map]; exact h, fun d hd => ?_⟩
  obtain ⟨x, _, rfl⟩ := List.mem_map.mp hd
  cases n <;> trivial
def spRight : Sp := fun vs H Q _ => ∃ bx : Addr, vs = [.ref bx] ∧ Box bx 0 H ∧ ∀ H', Ext bx H H' → Q (.bl true) H'
end Lh

namespace Lh
open PySem PySem.Spec PyProof.Rows L2
/-- what stands while a house is asked: now is [standing, changes] -/
structure G50 (C CH bx x pa en nw l : Addr) (us : List V) (rs : List Rule) (sh : List Int) (ch : Int) (past : List HS) (c : Int) (H : Hp) : Prop where
  b : Box bx c H
  hO : HouseAt C CH H x pa en ⟨rs, [], sh, ch⟩ past
  hh : Halls rs
  ln : sh.length = rs.length
  nn : ∀ n ∈ sh, 0 ≤ n ∧ n ≤ 1000000
  hl : H l = some (.lst us)
  ra : RulesAt H us rs
  hn : ∃ st, H nw = some (.lst [.ref st, .int ch]) ∧ TupAt H st (sh.map V.int)
  pb : pa ≠ bx ∧ en ≠ bx ∧ nw ≠ bx ∧ l ≠ bx
  pn : nw ≠ pa ∧ nw ≠ en ∧ l ≠ pa ∧ l ≠ nw
section
variable {C CH bx x pa en nw l : Addr} {us : List V} {rs : List Rule} {sh : List Int} {ch : Int} {past : List HS} {c : Int} {H H' : Hp}
theorem G50.ok (g : G50 C CH bx x pa en nw l us rs sh ch past c H) : (HS.mk rs [] sh ch).Ok := ⟨g.hh, g.ln, g.nn, fun q hq => absurd hq (by simp), Nat.zero_le _⟩
theorem G50.xb (g : G50 C CH bx x pa en nw l us rs sh ch past c H) : x ≠ bx ∧ x ≠ nw ∧ x ≠ l := by
  obtain ⟨dx, hx, pt, st, e, _⟩ := g.hO.ex
  obtain ⟨_, _, _, hb, _⟩ := g.b
  obtain ⟨_, hn, _⟩ := g.hn
  exact ⟨ne_of e hb (by intro z; cases z), ne_of e hn (by intro z; cases z), ne_of e g.hl (by intro z; cases z)⟩
theorem G50.aw {F : List Addr} (g : G50 C CH bx x pa en nw l us rs sh ch past c H) (a : Aw F H H') (m : ∀ f ∈ F, Mut H f) (n1 : bx ∉ F) (n2 : x ∉ F) (n3 : pa ∉ F) (n4 : en ∉ F) (n5 : nw ∉ F) (n6 : l ∉ F) : G50 C CH bx x pa en nw l us rs sh ch past c H' := by
  have k := a.keepM m
  obtain ⟨st, hn, hs⟩ := g.hn
  obtain ⟨p, q, r, hb, z⟩ := g.b
  exact ⟨⟨p, q, r, a _ _ n1 hb, z⟩, g.hO.aw a m n2 n3 n4, g.hh, g.ln, g.nn, a _ _ n6 g.hl, g.ra.keep k.k, ⟨st, a _ _ n5 hn, hs.keep k.k⟩, g.pb, g.pn⟩
theorem G50.same (g : G50 C CH bx x pa en nw l us rs sh ch past c H) (s : Same H H') : G50 C CH bx x pa en nw l us rs sh ch past c H' := g.aw (F := []) (Aw.of s) (fun f hf => absurd hf (by simp)) (by simp) (by simp) (by simp) (by simp) (by simp) (by simp)
theorem Ext.aw (e : Ext bx H H') : Aw [bx] H H' := fun a o n h => e a o (by rw [List.mem_singleton] at n; exact n) h
theorem G50.draw {c2 : Int} (g : G50 C CH bx x pa en nw l us rs sh ch past c H) (e : Ext bx H H') (b : Box bx c2 H') : G50 C CH bx x pa en nw l us rs sh ch past c2 H' := by
  have m : ∀ f ∈ [bx], Mut H f := fun f hf => by
    rw [List.mem_singleton.mp hf]
    obtain ⟨p, q, r, hb, z⟩ := g.b
    exact .inl ⟨_, hb⟩
  have a := Ext.aw e
  have k := a.keepM m
  obtain ⟨st, hn, hs⟩ := g.hn
  exact ⟨b, g.hO.aw a m (nin1 g.xb.1) (nin1 g.pb.1) (nin1 g.pb.2.1), g.hh, g.ln, g.nn, e _ _ g.pb.2.2.2 g.hl, g.ra.keep k.k, ⟨st, e _ _ g.pb.2.2.1 hn, hs.keep k.k⟩, g.pb, g.pn⟩
theorem G50.mono {c2 : Int} (g : G50 C CH bx x pa en nw l us rs sh ch past c H) (h : c ≤ c2) : G50 C CH bx x pa en nw l us rs sh ch past c2 H := ⟨g.b.mono h, g.hO, g.hh, g.ln, g.nn, g.hl, g.ra, g.hn, g.pb, g.pn⟩
theorem G50.lt (g : G50 C CH bx x pa en nw l us rs sh ch past c H) : us.length = rs.length := g.ra.length
theorem G50.mut (g : G50 C CH bx x pa en nw l us rs sh ch past c H) : ∀ f ∈ [bx, x, pa, nw], Mut H f := fun f hf => by
  simp only [List.mem_cons, List.not_mem_nil, or_false] at hf
  rcases hf with rfl | rfl | rfl | rfl
  · obtain ⟨p, q, r, hb, z⟩ := g.b
    exact .inl ⟨_, hb⟩
  · exact g.hO.mut _ (by simp)
  · exact g.hO.mut _ (by simp)
  · obtain ⟨st, hn, _⟩ := g.hn
    exact .inl ⟨_, hn⟩
theorem cutI_len (xs : List Int) (r : Int) : (cutI xs none (some r)).length ≤ xs.length := by
  unfold cutI
  rw [List.length_take, List.length_drop]
  omega
theorem beatN_small {rs : List Rule} {ns : List Int} (hh : Halls rs) (hn : ns.length = rs.length) (sm : ∀ n ∈ ns, 0 ≤ n ∧ n ≤ 1000000) : ∀ k, ∀ n ∈ beatN rs ns k, 0 ≤ n ∧ n ≤ 1000000
  | 0 => sm
  | k + 1 => Turned.small hh (beatN_len hn k) (beatN_small hh hn sm k) (beatN_step hn k)
theorem okD_tupI {n : Nat} {ns : List Int} (l : ns.length ≤ 8388608) : okD (n + 1) (.tuple (ns.map PyData.int)) := ⟨by rw [List.length_map]; exact l, fun d hd => by
  obtain ⟨x, _, rfl⟩ := List.mem_map.mp hd
  cases n <;> trivial⟩
/-- what is told, and what's due -/
def Alike50 (bx : Addr) (H0 H : Hp) (v u : V) : Prop :=
  (∃ (a b : Addr) (ns : List Int), v = .ref a ∧ u = .ref b ∧ H a = some (.lst (ns.map V.int)) ∧ H0 a = none ∧ H b = some (.lst (ns.map V.int)) ∧ b ≠ bx ∧ a ≠ bx ∧ ns.length ≤ 1000) ∨
  (∃ (a b : Addr) (ns : List Int), v = .ref a ∧ u = .ref b ∧ TupAt H a (ns.map V.int) ∧ TupAt H b (ns.map V.int) ∧ ns.length ≤ 1000) ∨
  ∃ i : Int, v = .int i ∧ u = .int i
end
section
variable {P : Program} {w : World} {K : PySem.W.Frag} {mg : Str → Option Value} {base : Heap}
def spStep50 (C CH : Addr) : Sp := fun vs H Q _ => ∃ (bx x pa en nw l : Addr) (us : List V) (rs : List Rule) (sh : List Int) (ch : Int) (past : List HS) (c : Int), vs = [.ref bx, .ref x, .ref nw, .ref l] ∧ G50 C CH bx x pa en nw l us rs sh ch past c H ∧ past.length ≤ 999 ∧ c + 100 ≤ 1000000000 ∧
  ∀ (sh2 : List Int) (ch2 : Int) (p2 : List HS) (H' : Hp), p2.length = past.length + 1 → Aw [bx, x, pa, nw] H H' → G50 C CH bx x pa en nw l us rs sh2 ch2 p2 (c + 100) H' → Q (.bl true) H'
set_option maxHeartbeats 8000000 in
theorem ok_step50 (T : Txt K mg w) : FnOk P w K mg base CX0 12 T.f_step_right T.fd_step_right p_step_right (spStep50 T.C_House T.C_Hall) := by
  have G_take := ok_take (P := P) (w := w) (base := base) T
  have G_some := ok_some (P := P) (w := w) (base := base) T
  have G_strewn := ok_strewn (P := P) (w := w) (base := base) T
  have G_law_turned := ok_law_turned (P := P) (w := w) (base := base) T
  have G_gone := ok_goneH (P := P) (w := w) (base := base) T
  have G_House_turn := fn_calm (ok_House_turnX (P := P) (w := w) (base := base) T)
  have G_House_beat := ok_House_beat (P := P) (w := w) (base := base) T
  have G_House_rest := ok_House_rest (P := P) (w := w) (base := base) T
  have G_same := ok_same (P := P) (w := w) (base := base) T 6
  obtain ⟨dsB, V1_House_beat, B1_House_beat⟩ := T.b1_House_beat
  refine T.F_step_right.ok sc_step_right (fun vs H Q E h => ?_) (fun cdv A outer s0 H vs Q E hr h => ?_)
  · obtain ⟨bx, x, pa, en, nw, l, us, rs, sh, ch, past, c, rfl, _⟩ := h
    rfl
  · obtain ⟨bx, x, pa, en, nw, l, us, rs, sh, ch, past, c, rfl, g, l9, c1, q⟩ := h
    refine ⟨_, (pss_cons (ps_asg (pe_tup (pa_cons (pe_ix ix_list (pv 2) pe_int (fun _ _ => rfl)) (pa_cons (pe_call G_take (hr.mono (by decide)) (by rfl) T.g_take T.F_take.kp T.b_take .nil pass0 (pa_cons (pv 0) (pa_cons pe_int pa_nil))) (pa_cons (pe_call G_take (hr.mono (by decide)) (by rfl) T.g_take T.F_take.kp T.b_take .nil pass0 (pa_cons (pv 0) (pa_cons pe_int pa_nil))) pa_nil)))) (pg_tup rfl (pgs_cons (pg_name (i := 4) sc_step_right.nd rfl (.inr rfl)) (pgs_cons (pg_name (i := 5) sc_step_right.nd rfl (.inl rfl)) (pgs_cons (pg_name (i := 6) sc_step_right.nd rfl (.inl rfl)) pgs_nil)))))
      (pss_cons (ps_if (pt_cmpR op_lt (pv 5) pe_int (nomark _))
        (pss_cons (ps_set (i := 7) sc_step_right.nd rfl (.inl rfl) (pe_call G_strewn (hr.mono (by decide)) (by rfl) T.g_strewn T.F_strewn.kp T.b_strewn .nil pass0 (pa_cons (pv 0) (pa_cons (pe_call G_some (hr.mono (by decide)) (by rfl) T.g_some T.F_some.kp T.b_some .nil pass0 (pa_cons (pv 0) (pa_cons (pe_listRg (by rfl) (by rfl) T.m_list (prg_1 (by rfl) T.m_range (pe_callB call_len_seq (by rfl) T.m_len (by decide +kernel) (pa_cons (pv 3) pa_nil)))) (pa_cons pe_int pa_nil)))) pa_nil))))
        (pss_cons (ps_set (i := 7) sc_step_right.nd rfl (.inl rfl) (pe_op op_cat (pv 7) (pe_slice sl_list (pv 7) po_none (po_some (pe_call G_take (hr.mono (by decide)) (by rfl) T.g_take T.F_take.kp T.b_take .nil pass0 (pa_cons (pv 0) (pa_cons pe_int pa_nil)))))))
        (pss_cons (ps_set (i := 8) sc_step_right.nd rfl (.inl rfl) (pe_call G_law_turned (hr.mono (by decide)) (by rfl) T.g_law_turned T.F_law_turned.kp T.b_law_turned .nil pass0 (pa_cons (pv 3) (pa_cons (pv 4) (pa_cons (pv 7) pa_nil)))))
        (pss_cons (ps_setLc (i := 9) (own := [("_law_one", 10), ("_law_number", 11)]) (g := gTup K 2 (gCons (gName 10) (gCons (gName 11) gNil))) (by rfl) sc_step_right.nd rfl rfl (sw_true rfl rfl rfl (by decide +kernel)) (pi_enumT (by rfl) T.m_enumerate (pa_cons (pv 8) pa_nil)) (blkOk_by (own := [("_law_one", 10), ("_law_number", 11)]) (N := n_step_right) (sc := defScope s_step_right) (by decide +kernel)) (fun _ _ _ _ _ => (pg_tup rfl (pgs_cons (pg_name (i := 10) sc_step_right.nd rfl (.inl rfl) (.inr rfl)) (pgs_cons (pg_name (i := 11) sc_step_right.nd rfl (.inl rfl) (.inr rfl)) pgs_nil)))) (fun _ _ _ _ _ => (pts_one (pt_cmpR op_ne (pv 11) (pe_ix (r := rIxT K) ix_tup (pv 4) (pv 10) (fun _ _ => rfl)) (nomark _)))) (fun _ _ _ _ _ => (pv 10)))
        (pss_cons (ps_set (i := 12) sc_step_right.nd rfl (.inl rfl) (pe_ifExp (pt_cmpR op_gt (pv 5) pe_int (nomark _)) (pe_meth (pv 1) T.cl_House T.me_House_turn G_House_turn (hr.mono (by decide)) T.b_House_turn .nil pass0 (pa_cons (pv 7) pa_nil)) (pe_meth (pv 1) T.cl_House T.me_House_turn G_House_turn (hr.mono (by decide)) T.b_House_turn .nil pass0 (pa_cons (pe_callTy call_tuple_of (by rfl) T.m_tuple (by decide +kernel) (pa_cons (pv 7) pa_nil)) pa_nil))))
        (pss_cons (ps_asg (pv 8) (pg_sub (pv 2) pe_int set_list))
        (pss_one (ps_asg (pe_op op_add (pe_ix ix_list (pv 2) pe_int (fun _ _ => rfl)) (pe_callB call_len_seq (by rfl) T.m_len (by decide +kernel) (pa_cons (pv 9) pa_nil))) (pg_sub (pv 2) pe_int set_list)))))))))
        (pss_one (ps_if (pt_cmpR op_lt (pv 5) pe_int (nomark _))
          (pss_cons (ps_set (i := 6) sc_step_right.nd rfl (.inl rfl) (pe_ifExp (pt_cmpR op_eq (pv 5) pe_int (nomark _)) pe_int (pv 6)))
          (pss_cons (ps_set (i := 12) sc_step_right.nd rfl (.inl rfl) (pe_ifExp (pt_cmpR op_eq (pv 5) pe_int (nomark _)) (pe_meth0 (pv 1) T.cl_House T.me_House_beat G_House_beat (hr.mono (by decide)) B1_House_beat V1_House_beat pass0) (pe_meth (pv 1) T.cl_House T.me_House_beat G_House_beat (hr.mono (by decide)) T.b_House_beat .nil pass0 (pa_cons (pv 6) pa_nil))))
          (pss_cons (ps_asg (pe_call G_gone (hr.mono (by decide)) (by rfl) T.g_gone T.F_gone.kp T.b_gone .nil pass0 (pa_cons (pv 3) (pa_cons (pv 4) (pa_cons (pv 6) pa_nil)))) (pg_tup rfl (pgs_cons (pg_sub (pv 2) pe_int set_list) (pgs_cons (pg_name (i := 13) sc_step_right.nd rfl (.inl rfl)) (pgs_cons (pg_name (i := 6) sc_step_right.nd rfl (.inl rfl)) pgs_nil)))))
          (pss_one (ps_asg (pe_tup (pa_cons (pe_op op_add (pe_ix ix_list (pv 2) pe_int (fun _ _ => rfl)) (pv 13)) (pa_cons (pe_ix ix_list (pv 2) pe_int (fun _ _ => rfl)) pa_nil))) (pg_tup rfl (pgs_cons (pg_sub (pv 2) pe_int set_list) (pgs_cons (pg_name (i := 9) sc_step_right.nd rfl (.inl rfl)) pgs_nil))))))))
          (pss_cons (ps_set (i := 12) sc_step_right.nd rfl (.inl rfl) (pe_meth0 (pv 1) T.cl_House T.me_House_rest G_House_rest (hr.mono (by decide)) T.b_House_rest .nil pass0))
          (pss_cons (ps_asg (pe_call G_gone (hr.mono (by decide)) (by rfl) T.g_gone T.F_gone.kp T.b_gone .nil pass0 (pa_cons (pv 3) (pa_cons (pv 4) (pa_cons pe_non pa_nil)))) (pg_tup rfl (pgs_cons (pg_sub (pv 2) pe_int set_list) (pgs_cons (pg_name (i := 13) sc_step_right.nd rfl (.inl rfl)) (pgs_cons (pg_name (i := 9) sc_step_right.nd rfl (.inl rfl)) pgs_nil)))))
          (pss_one (ps_asg (pe_op op_add (pe_ix ix_list (pv 2) pe_int (fun _ _ => rfl)) (pv 13)) (pg_sub (pv 2) pe_int set_list))))))))
      (pss_cons (ps_set (i := 14) sc_step_right.nd rfl (.inl rfl) (pe_call G_same (hr.mono (by decide)) (by rfl) T.g_same T.F_same.kp T.b_same .nil pass0 (pa_cons (pv 12) (pa_cons (pv 9) pa_nil))))
      (pss_cons (ps_if (pt_val (pe_callB call_isi (by rfl) T.m_isinstance (by decide +kernel) (pa_cons (pv 12) (pa_cons (pe_bltn (v := .ty "list") (by rfl) T.m_list (by decide +kernel) rfl) pa_nil))))
        (pss_one (ps_expr (pe_bm PySem.F.plainAttrs_list PySem.F.slot_list_append PySem.F.type_list_append mt_append (pv 12) (pa_cons pe_str pa_nil))))
        pss_nil)
      (pss_one (ps_ret (pv 14))))))), ?_⟩
    obtain ⟨st, hn, hs⟩ := g.hn
    have l12 := g.hh.2.1
    have lus := g.lt
    have ln := g.ln
    have start : L2.start n_step_right [V.ref bx, V.ref x, V.ref nw, V.ref l] = [some (.ref bx), some (.ref x), some (.ref nw), some (.ref l), none, none, none, none, none, none, none, none, none, none, none] := rfl
    rw [start]
    refine ⟨.ref nw, rfl, nw, _, 0, .ref st, rfl, rfl, .inl (.inl hn), rfl, .ref bx, rfl, bx, _, 6, rfl, by decide, by decide, by omega, g.b, fun way H1 w0 w1 e1 b1 => ?_⟩
    have g1 := g.draw e1 b1
    refine ⟨.ref bx, rfl, bx, _, 6, rfl, by decide, by decide, by omega, b1, fun bt H2 t0 t1 e2 b2 => ⟨by show 3 ≤ sizeLine; decide, fun tp ntp => ⟨tp, _, rfl, .inl (.inl upd_same), rfl, _, _, rfl, _, _, rfl, _, _, rfl, rfl, ?_⟩⟩⟩
    have g2 := g1.draw e2 b2
    have stp := same_upd (o := .tup [.ref st, .int way, .int bt]) ntp
    have g3 := g2.same stp
    have e03 : Ext bx H (upd H2 tp (.tup [.ref st, .int way, .int bt])) := e1.trans (e2.trans (Ext.of stp))
    have hs3 := (hs.keep (Keep.ext e1 g.b)).keep ((Keep.ext e2 b1).trans (Keep.same stp))
    have hn3 := e03 _ _ g.pb.2.2.1 hn
    have a03 : Aw [bx, x, pa, nw] H (upd H2 tp (.tup [.ref st, .int way, .int bt])) := (Ext.aw e03).mono fun f hf => by rw [List.mem_singleton.mp hf]; exact List.mem_cons_self
    generalize upd H2 tp (.tup [.ref st, .int way, .int bt]) = H3 at g3 e03 hs3 hn3 a03
    dsimp only [List.set_cons_succ, List.set_cons_zero]
    refine seq_useN (fun σ H4 => ∃ (y6 y7 y8 y10 y11 y13 : Option V) (due found : V) (sh2 : List Int) (ch2 : Int) (p2 : List HS), σ = [some (.ref bx), some (.ref x), some (.ref nw), some (.ref l), some (.ref st), some (.int way), y6, y7, y8, some due, y10, y11, some found, y13, none] ∧ p2.length = past.length + 1 ∧ Aw [bx, x, pa, nw] H H4 ∧ G50 T.C_House T.C_Hall bx x pa en nw l us rs sh2 ch2 p2 (c + 90) H4 ∧ Alike50 bx H H4 found due) (fun N hN => ?_) ?_
    · refine ⟨.int way, rfl, way, 3, rfl, rfl, _, rfl, ite2 (fun z => ?_) (fun z => ?_)⟩
      · -- turns
        have dr : ∀ {H5 : Hp} {c5 : Int} {H6 : Hp} {p2 : List HS} {s2 : List Int} {k2 : Int}, G50 T.C_House T.C_Hall bx x pa en nw l us rs s2 k2 p2 c5 H5 → Ext bx H5 H6 → Aw [bx, x, pa, nw] H5 H6 := fun _ e => (Ext.aw e).mono fun f hf => by rw [List.mem_singleton.mp hf]; exact List.mem_cons_self
        refine seq_useN (fun σ H4 => ∃ (pl : Addr) (qs : List Int), σ = [some (.ref bx), some (.ref x), some (.ref nw), some (.ref l), some (.ref st), some (.int way), some (.int bt), some (.ref pl), none, none, none, none, none, none, none] ∧ G50 T.C_House T.C_Hall bx x pa en nw l us rs sh ch past (c + 80) H4 ∧ Ext bx H3 H4 ∧ H3 pl = none ∧ H4 pl = some (.lst (qs.map V.int)) ∧ (∀ q ∈ qs, 0 ≤ q ∧ q < (rs.length : Int)) ∧ qs.length ≤ 12) (fun N3 hN3 => ?_) ?_
        · refine ⟨.ref bx, rfl, .ref bx, rfl, .ref l, rfl, l, us, rfl, .inl (.inl (.inl g3.hl)), _, rfl, RgOk.of_le (by omega) (by omega) (by omega) (by omega), fun r nr => ?_⟩
          have sr := same_upd (o := .lst (rgV 0 ((us.length : Nat) : Int))) nr
          have g4 := g3.same sr
          refine ⟨bx, r, _, 2, (List.range ((us.length : Nat) : Int).toNat).map (fun k : Nat => (k : Int)), rfl, by decide, by decide, by rw [List.length_map, List.length_range]; omega, by rw [List.length_map, List.length_range]; omega, g4.b, by rw [upd_same, rg_ints], g3.b.ne nr, fun q1 ms H5 e5 b5 nq1 hq1 sub => ?_⟩
          have g5 := g4.draw e5 b5
          have lms : ms.length ≤ 12 := by
            have := sub.length_le
            rw [List.length_map, List.length_range] at this
            omega
          have inm : ∀ q ∈ ms, 0 ≤ q ∧ q < (rs.length : Int) := fun q hq => by
            obtain ⟨k, hk, rfl⟩ := List.mem_map.mp (sub.subset hq)
            have := List.mem_range.mp hk
            omega
          refine ⟨bx, q1, _, ms, rfl, by rw [List.length_map, List.length_range]; omega, by omega, g5.b, hq1, g4.b.ne nq1, fun pl ks H6 e6 b6 npl hpl perm => ?_⟩
          refine hN3 _ _ ⟨pl, ks, rfl, (g5.draw e6 b6).mono (by rw [List.length_map, List.length_range]; omega), (Ext.of sr).trans (e5.trans e6), sr.free (?_), hpl, fun q hq => inm q (perm.mem_iff.mp hq), by rw [perm.length_eq]; exact lms⟩
          exact (Ext.aw e5).free (nin1 (g5.b.ne npl)) npl
        rintro σ H4 ⟨pl, qs, rfl, g4, e4, npl, hpl, inr, l12q⟩
        refine seq_useN (fun σ H4 => ∃ (pl : Addr) (qs : List Int), σ = [some (.ref bx), some (.ref x), some (.ref nw), some (.ref l), some (.ref st), some (.int way), some (.int bt), some (.ref pl), none, none, none, none, none, none, none] ∧ G50 T.C_House T.C_Hall bx x pa en nw l us rs sh ch past (c + 90) H4 ∧ Ext bx H3 H4 ∧ H3 pl = none ∧ H4 pl = some (.lst (qs.map V.int)) ∧ (∀ q ∈ qs, 0 ≤ q ∧ q < (rs.length : Int)) ∧ qs.length ≤ 24) (fun N2 hN2 => ?_) ?_
        · have nplb : pl ≠ bx := g3.b.ne npl
          refine ⟨.ref pl, rfl, .ref pl, rfl, .ref bx, rfl, bx, _, 2, rfl, by decide, by decide, by omega, g4.b, fun r H5 r0 r1 e5 b5 => ⟨r, rfl, pl, _, rfl, .inl (.inl (e5 _ _ nplb hpl)), fun c1 nc1 => ?_⟩⟩
          have hp5 := e5 _ _ nplb hpl
          have sc := same_upd (o := .lst (cutV (qs.map V.int) none (some r))) nc1
          refine ⟨pl, c1, _, _, rfl, rfl, sc _ _ hp5, upd_same, Nat.le_of_lt (small1000 (by have := cutV_length (qs.map V.int) none (some r); rw [List.length_map] at this ⊢; omega)), fun d nd => ?_⟩
          have sd := same_upd (o := .lst (qs.map V.int ++ cutV (qs.map V.int) none (some r))) nd
          have g6 := ((g4.draw e5 b5).same sc).same sd
          have ec : qs.map V.int ++ cutV (qs.map V.int) none (some r) = (qs ++ cutI qs none (some r)).map V.int := by
            rw [List.map_append, show cutV (qs.map V.int) none (some r) = (cutI qs none (some r)).map V.int from cut_map V.int qs none (some r)]
          have e46 : Ext bx H3 (upd (upd H5 c1 (.lst (cutV (qs.map V.int) none (some r)))) d (.lst (qs.map V.int ++ cutV (qs.map V.int) none (some r)))) := e4.trans (e5.trans (Ext.of (sc.trans sd)))
          refine hN2 _ _ ⟨d, qs ++ cutI qs none (some r), rfl, g6.mono (by omega), e46, ?_, by rw [upd_same, ec], fun q hq => ?_, ?_⟩
          · have nb : d ≠ bx := ((g4.draw e5 b5).same sc).b.ne nd
            exact (Ext.aw e4).free (nin1 nb) ((Ext.aw e5).free (nin1 nb) (sc.free nd))
          · rcases List.mem_append.mp hq with z | z
            · exact inr q z
            · refine inr q ?_
              unfold cutI at z
              exact List.mem_of_mem_drop (List.mem_of_mem_take z)
          · have := cutI_len qs r
            rw [List.length_append]; omega
        rintro σ H4 ⟨pl, qs, rfl, g4, e4, npl, hpl, inr, l24⟩
        have hs4 := hs3.keep (Keep.ext e4 g3.b)
        have npl3 : pl ≠ bx ∧ pl ≠ pa := ⟨g3.b.ne npl, (g3.hO.pa_ne npl).2.1⟩
        obtain ⟨st4, hn4, hq4⟩ := g4.hn
        refine ⟨.ref l, rfl, .ref st, rfl, .ref pl, rfl, l, st, pl, us, rs, sh, qs, rfl, g4.hl, g4.ra, g4.hh, hs4, ln, hpl, inr, by omega, fun t ms H5 s5 nt ht tu => ?_⟩
        have g5 := g4.same s5
        have lms : ms.length = rs.length := tu.1.trans ln
        dsimp only [List.set_cons_succ, List.set_cons_zero]
        refine seq_useN (fun σ H6 => ∃ (D : Addr) (y10 y11 : Option V), σ = [some (.ref bx), some (.ref x), some (.ref nw), some (.ref l), some (.ref st), some (.int way), some (.int bt), some (.ref pl), some (.ref t), some (.ref D), y10, y11, none, none, none] ∧ Same H5 H6 ∧ H5 D = none ∧ H6 D = some (.lst ((chgL sh ms).map V.int))) (fun N2 hN2 => ?_) ?_
        · refine ⟨.ref t, rfl, t, _, rfl, ht.sq, fun D hD => ?_⟩
          refine lc_filt (walk_enumT (xs := ms.map V.int)) (fun k => decide (nth ms (k : Nat) ≠ nth sh (k : Nat))) (fun k => .int (k : Nat)) hD (by rw [List.length_map]; omega) (fun H3 s3 => (ht.keep (Keep.same s3)).sq) ?_ ?_
          · rintro k z HA HB hk s3 ⟨u, x1, x2, rfl, nu, rfl, f1, f2⟩ Q' Z hQ hZ
            rw [List.length_map] at hk
            have f1 : x1 = .int (k : Nat) := (Option.some.inj f1).symm
            have f3 := nth_get (ns := ms) (p := (k : Int)) (by omega) (by omega)
            rw [Int.toNat_natCast] at f3
            have f2 : x2 = .int (nth ms k) := Option.some.inj (f2.symm.trans f3)
            subst f1 f2
            have sT := same_upd (o := .tup [.int (k : Nat), .int (nth ms k)]) nu
            refine ⟨u, _, rfl, .inl (.inl upd_same), rfl, _, _, rfl, _, _, rfl, rfl, rfl, ?_⟩
            refine ⟨.int (nth ms k), rfl, .ref st, rfl, .int (k : Nat), rfl, st, _, (k : Int), _, rfl, rfl, (hs4.keep (Keep.same (s5.trans (s3.trans sT)))).sq, nth_at (by omega) (by omega), rfl, ?_⟩
            rw [dec_int]
            refine ⟨_, rfl, ite2 (fun z => ?_) (fun z => ?_)⟩
            · exact ⟨.int (k : Nat), rfl, hQ (decide_eq_true (by simpa using z)) _ sT⟩
            · exact hZ (by simpa using z) _ sT
          intro H6 s6 h6
          refine hN2 _ _ ⟨D, _, _, rfl, s6, hD, ?_⟩
          rw [h6]
          unfold chgL
          rw [List.length_map, List.map_map]
          rfl
        rintro σ H6 ⟨D, y10, y11, rfl, s6, nD, hD⟩
        have g6 := g5.same s6
        have s46 := s5.trans s6
        have hp6 := s46 _ _ hpl
        obtain ⟨dx6, hx6, pt6, st6, hX6, co6⟩ := g6.hO.ex
        have nDo := g5.hO.pa_ne nD
        have nDb := g5.b.ne nD
        have nDn : D ≠ nw := by
          obtain ⟨_, hn5, _⟩ := g5.hn
          exact (ne_of_none hn5 nD).symm
        refine seq_useN (fun σ H7 => ∃ (f : Addr), σ = [some (.ref bx), some (.ref x), some (.ref nw), some (.ref l), some (.ref st), some (.int way), some (.int bt), some (.ref pl), some (.ref t), some (.ref D), y10, y11, some (.ref f), none, none] ∧ Aw [x, pa] H6 H7 ∧ H6 f = none ∧ H7 f = some (.lst ((chgL sh ms).map V.int)) ∧ HouseAt T.C_House T.C_Hall H7 x pa en ⟨rs, [], ms, ch + (chgL sh ms).length⟩ (past ++ [⟨rs, [], sh, ch⟩])) (fun N2 hN2 => ?_) ?_
        · refine ⟨.int way, rfl, way, 0, rfl, rfl, _, rfl, ite2 (fun z => ?_) (fun z => ?_)⟩
          · refine ⟨.ref x, rfl, x, dx6, _, rfl, hX6, hs_no (by decide +kernel), .ref pl, rfl, x, pa, en, pl, ⟨rs, [], sh, ch⟩, past, qs, rfl, g6.hO, g6.ok, l9, .inl hp6, npl3.2, fun _ f ms2 H8 a8 nf hf tu2 hO8 => ?_, fun k hk on out => absurd (inr _ (List.getElem_mem hk)) out⟩
            obtain rfl : ms2 = ms := Turned.unique ln (fun _ _ => Iff.rfl) tu2 tu
            exact hN2 _ _ ⟨f, rfl, a8, nf, hf, hO8⟩
          · refine ⟨.ref x, rfl, x, dx6, _, rfl, hX6, hs_no (by decide +kernel), .ref pl, rfl, pl, _, rfl, .inl ⟨.inl (.inl hp6), fun tt ntt => ?_⟩⟩
            have st7 := same_upd (o := .tup (qs.map V.int)) ntt
            refine ⟨x, pa, en, tt, ⟨rs, [], sh, ch⟩, past, qs, rfl, (g6.same st7).hO, (g6.same st7).ok, l9, .inr (.inl upd_same), (g6.hO.pa_ne ntt).2.1, fun _ f ms2 H8 a8 nf hf tu2 hO8 => ?_, fun k hk on out => absurd (inr _ (List.getElem_mem hk)) out⟩
            obtain rfl : ms2 = ms := Turned.unique ln (fun _ _ => Iff.rfl) tu2 tu
            exact hN2 _ _ ⟨f, rfl, (Aw.of st7).trans a8, st7.free nf, hf, hO8⟩
        rintro σ H7 ⟨f, rfl, a7, nf, hf, hO7⟩
        have nfo := g6.hO.pa_ne nf
        have nfb := g6.b.ne nf
        obtain ⟨st7, hn7, hs7⟩ := g6.hn
        have n67 : nw ∉ [x, pa] := nin2 g6.xb.2.1.symm g6.pn.1
        have hn7 := a7 _ _ n67 hn7
        have km7 := a7.keepM g6.hO.mut
        have nfn : f ≠ nw := by
          obtain ⟨_, hn5, _⟩ := g6.hn
          exact (ne_of_none hn5 nf).symm
        have ht7 := (ht.keep (Keep.same s6)).keep km7.k
        have hD7 := a7 _ _ (nin2 nDo.1 nDo.2.1) hD
        refine ⟨.ref t, rfl, .ref nw, rfl, nw, _, _, 0, rfl, rfl, hn7, rfl, ?_⟩
        have a8 : Aw [nw] H7 (upd H7 nw (.lst ([V.ref st7, .int ch].set 0 (.ref t)))) := Aw.one
        have h8 := upd_same (H := H7) (a := nw) (o := HO.lst ([V.ref st7, .int ch].set 0 (.ref t)))
        generalize upd H7 nw (.lst ([V.ref st7, .int ch].set 0 (.ref t))) = H8 at a8 h8
        have hD8 := a8 _ _ (nin1 nDn) hD7
        refine ⟨.ref nw, rfl, nw, _, 1, .int ch, rfl, rfl, .inl (.inl h8), rfl, .ref D, rfl, D, _, rfl, .inl (.inl (.inl hD8)), _, _, rfl, rfl, .ref nw, rfl, nw, _, _, 1, rfl, rfl, h8, rfl, ?_⟩
        have a9 : Aw [nw] H8 (upd H8 nw (.lst (([V.ref st7, .int ch].set 0 (.ref t)).set 1 (.int (ch + ((chgL sh ms).map V.int).length))))) := Aw.one
        have h9 := upd_same (H := H8) (a := nw) (o := HO.lst (([V.ref st7, .int ch].set 0 (.ref t)).set 1 (.int (ch + ((chgL sh ms).map V.int).length))))
        dsimp only
        generalize upd H8 nw (.lst (([V.ref st7, .int ch].set 0 (.ref t)).set 1 (.int (ch + ((chgL sh ms).map V.int).length)))) = H9 at a9 h9
        rw [List.length_map] at h9
        have a79 : Aw [nw] H7 H9 := a8.trans a9
        have mn : ∀ f ∈ [nw], Mut H7 f := fun f hf => by rw [List.mem_singleton.mp hf]; exact .inl ⟨_, hn7⟩
        have k79 := a79.keepM mn
        have nx : x ∉ [nw] := nin1 g6.xb.2.1
        have a39 : Aw [bx, x, pa, nw] H6 H9 := (a7.mono fun f hf => by simp only [List.mem_cons, List.not_mem_nil, or_false] at hf ⊢; rcases hf with h | h <;> simp [h]).trans (a79.mono fun f hf => by rw [List.mem_singleton.mp hf]; simp)
        have a36 : Aw [bx, x, pa, nw] H3 H6 := (dr g3 e4).trans (Aw.of s46)
        have cl := chg_len sh ms
        refine hN _ _ ⟨_, _, _, _, _, _, _, _, ms, ch + (chgL sh ms).length, past ++ [⟨rs, [], sh, ch⟩], rfl, by rw [List.length_append]; rfl, a03.trans (a36.trans a39), ?_, .inl ⟨f, D, chgL sh ms, rfl, rfl, a79 _ _ (nin1 nfn) hf, ?_, a79 _ _ (nin1 nDn) hD7, nDb, nfb, by omega⟩⟩
        · obtain ⟨p, q, r, hb, zz⟩ := g6.b
          have hb7 := a7 _ _ (nin2 g6.xb.1.symm g6.pb.1.symm) hb
          exact ⟨⟨p, q, r, a79 _ _ (nin1 g6.pb.2.2.1.symm) hb7, zz⟩, hO7.aw a79 mn nx (nin1 g6.pn.1.symm) (nin1 g6.pn.2.1.symm), g6.hh, lms, Turned.small g6.hh ln g6.nn tu, a79 _ _ (nin1 g6.pn.2.2.2) (a7 _ _ (nin2 g6.xb.2.2.symm g6.pn.2.2.1) g6.hl), (g6.ra.keep km7.k).keep k79.k, ⟨t, h9, ht7.keep k79.k⟩, g6.pb, g6.pn⟩
        · exact (Ext.aw e03).free (nin1 nfb) ((Ext.aw e4).free (nin1 nfb) (s46.free nf))
      · refine ⟨.int way, rfl, way, 5, rfl, rfl, _, rfl, ite2 (fun z2 => ?_) (fun z2 => ?_)⟩
        · -- beats
          refine seq_useN (fun σ H4 => ∃ m : Nat, σ = [some (.ref bx), some (.ref x), some (.ref nw), some (.ref l), some (.ref st), some (.int way), some (.int m), none, none, none, none, none, none, none, none] ∧ H4 = H3 ∧ m ≤ 6 ∧ (way = 3 → m = 1)) (fun N2 hN2 => ?_) ?_
          · refine ⟨.int way, rfl, rfl, ?_⟩
            rw [dec_int]
            refine ⟨_, rfl, ite2 (fun y => ?_) (fun y => ?_)⟩
            · exact hN2 _ _ ⟨1, rfl, rfl, by decide, fun _ => rfl⟩
            · refine ⟨.int bt, rfl, hN2 _ _ ⟨bt.toNat, by rw [show ((bt.toNat : Nat) : Int) = bt by omega]; rfl, rfl, by omega, fun e => ?_⟩⟩
              rw [e] at y
              exact absurd y (by decide)
          rintro σ H4 ⟨m, rfl, rfl, m6, m3⟩
          obtain ⟨dx6, hx6, pt6, st6, hX6, co6⟩ := g3.hO.ex
          refine seq_useN (fun σ H7 => ∃ (f : Addr), σ = [some (.ref bx), some (.ref x), some (.ref nw), some (.ref l), some (.ref st), some (.int way), some (.int m), none, none, none, none, none, some (.ref f), none, none] ∧ Aw [x, pa] H4 H7 ∧ TupAt H7 f ((beatN rs sh m).map V.int) ∧ HouseAt T.C_House T.C_Hall H7 x pa en ((HS.mk rs [] sh ch).beats m) (past ++ [⟨rs, [], sh, ch⟩])) (fun N2 hN2 => ?_) ?_
          · refine ⟨.int way, rfl, rfl, ?_⟩
            rw [dec_int]
            refine ⟨_, rfl, ite2 (fun y => ?_) (fun y => ?_)⟩
            · have m1 := m3 (by simpa using y)
              subst m1
              refine ⟨.ref x, rfl, x, dx6, _, rfl, hX6, hs_no (by decide +kernel), x, pa, en, 1, ⟨rs, [], sh, ch⟩, past, rfl, g3.hO, g3.ok, l9, by decide, fun f H8 a8 hf hO8 => hN2 _ _ ⟨f, rfl, a8, hf, hO8⟩⟩
            · refine ⟨.ref x, rfl, x, dx6, _, rfl, hX6, hs_no (by decide +kernel), .int m, rfl, x, pa, en, m, ⟨rs, [], sh, ch⟩, past, rfl, g3.hO, g3.ok, l9, by omega, fun f H8 a8 hf hO8 => hN2 _ _ ⟨f, rfl, a8, hf, hO8⟩⟩
          rintro σ H7 ⟨f, rfl, a7, hf, hO7⟩
          have km7 := a7.keepM g3.hO.mut
          obtain ⟨st7, hn7, hs7⟩ := g3.hn
          have hn7 := a7 _ _ (nin2 g3.xb.2.1.symm g3.pn.1) hn7
          have hl7 := a7 _ _ (nin2 g3.xb.2.2.symm g3.pn.2.2.1) g3.hl
          refine ⟨.ref l, rfl, .ref st, rfl, .int m, rfl, l, st, some m, us, rs, sh, rfl, hl7, g3.ra.keep km7.k, g3.hh, hs3.keep km7.k, ln, fun n hn => (g3.nn n hn).1, fun p t b H8 s8 hp ht gb => ?_⟩
          obtain rfl : b = m := gb
          have hn8 := s8 _ _ hn7
          refine ⟨p, _, rfl, .inl (.inl hp), rfl, _, _, rfl, .ref nw, rfl, nw, _, _, 0, rfl, rfl, hn8, rfl, ?_⟩
          have a9 : Aw [nw] H8 (upd H8 nw (.lst ([V.ref st7, .int ch].set 0 (.ref t)))) := Aw.one
          have h9 := upd_same (H := H8) (a := nw) (o := HO.lst ([V.ref st7, .int ch].set 0 (.ref t)))
          generalize upd H8 nw (.lst ([V.ref st7, .int ch].set 0 (.ref t))) = H9 at a9 h9 ⊢
          refine ⟨_, _, rfl, _, _, rfl, rfl, ?_⟩
          dsimp only [List.set_cons_succ, List.set_cons_zero]
          refine ⟨.ref nw, rfl, nw, _, 1, .int ch, rfl, rfl, .inl (.inl h9), rfl, .int (chN rs sh b), rfl, _, _, rfl, rfl, .ref nw, rfl, nw, _, 0, .ref t, rfl, rfl, .inl (.inl h9), rfl, by show 2 ≤ sizeLine; decide, fun u nu => ?_⟩
          have su := same_upd (o := .tup [.int (ch + chN rs sh b), .ref t]) nu
          have gu := upd_same (H := H9) (a := u) (o := HO.tup [.int (ch + chN rs sh b), .ref t])
          dsimp only
          generalize upd H9 u (.tup [.int (ch + chN rs sh b), .ref t]) = HA at su gu
          have hnA := su _ _ h9
          refine ⟨u, _, rfl, .inl (.inl gu), rfl, _, _, rfl, .ref nw, rfl, nw, _, _, 1, rfl, rfl, hnA, rfl, ?_⟩
          have aB : Aw [nw] HA (upd HA nw (.lst (([V.ref st7, .int ch].set 0 (.ref t)).set 1 (.int (ch + chN rs sh b))))) := Aw.one
          have hB := upd_same (H := HA) (a := nw) (o := HO.lst (([V.ref st7, .int ch].set 0 (.ref t)).set 1 (.int (ch + chN rs sh b))))
          generalize upd HA nw (.lst (([V.ref st7, .int ch].set 0 (.ref t)).set 1 (.int (ch + chN rs sh b)))) = HB at aB hB ⊢
          refine ⟨_, _, rfl, rfl, ?_⟩
          dsimp only [List.set_cons_succ, List.set_cons_zero]
          have a7B : Aw [nw] H7 HB := (Aw.of s8).trans (a9.trans ((Aw.of su).trans aB))
          have mn : ∀ f ∈ [nw], Mut H7 f := fun f hf => by rw [List.mem_singleton.mp hf]; exact .inl ⟨_, hn7⟩
          have k7B := a7B.keepM mn
          have m8 : ∀ f ∈ [nw], Mut H8 f := fun f hf => by rw [List.mem_singleton.mp hf]; exact .inl ⟨_, hn8⟩
          have k8B := (a9.trans ((Aw.of su).trans aB)).keepM m8
          have a4B : Aw [bx, x, pa, nw] H4 HB := (a7.mono fun f hf => by simp only [List.mem_cons, List.not_mem_nil, or_false] at hf ⊢; rcases hf with h | h <;> simp [h]).trans (a7B.mono fun f hf => by rw [List.mem_singleton.mp hf]; simp)
          have lb := beatN_len ln b
          refine hN _ _ ⟨_, _, _, _, _, _, _, _, beatN rs sh b, ch + chN rs sh b, past ++ [⟨rs, [], sh, ch⟩], rfl, by rw [List.length_append]; rfl, a03.trans a4B, ?_, .inr (.inl ⟨f, t, beatN rs sh b, rfl, rfl, hf.keep k7B.k, ht.keep k8B.k, by rw [lb]; omega⟩)⟩
          obtain ⟨p1, q1, r1, hb, zz⟩ := g3.b
          have hb7 := a7 _ _ (nin2 g3.xb.1.symm g3.pb.1.symm) hb
          have hbc : r1 ≤ c + 90 := by have := zz.2.2.2.2; omega
          exact ⟨⟨p1, q1, r1, a7B _ _ (nin1 g3.pb.2.2.1.symm) hb7, zz.1, zz.2.1, zz.2.2.1, zz.2.2.2.1, hbc⟩, hO7.aw a7B mn (nin1 g3.xb.2.1) (nin1 g3.pn.1.symm) (nin1 g3.pn.2.1.symm), g3.hh, lb, beatN_small g3.hh ln g3.nn b, a7B _ _ (nin1 g3.pn.2.2.2) hl7, (g3.ra.keep km7.k).keep k7B.k, ⟨t, hB, ht.keep k8B.k⟩, g3.pb, g3.pn⟩
        · -- till it rests
          obtain ⟨dx6, hx6, pt6, st6, hX6, co6⟩ := g3.hO.ex
          refine seq_useN (fun σ H7 => ∃ (m : Nat), σ = [some (.ref bx), some (.ref x), some (.ref nw), some (.ref l), some (.ref st), some (.int way), some (.int bt), none, none, none, none, none, some (.int m), none, none] ∧ Aw [x, pa] H3 H7 ∧ Come rs sh (beatN rs sh m) m ∧ HouseAt T.C_House T.C_Hall H7 x pa en ((HS.mk rs [] sh ch).beats m) (past ++ [⟨rs, [], sh, ch⟩])) (fun N2 hN2 => ?_) ?_
          · exact ⟨.ref x, rfl, x, dx6, _, rfl, hX6, hs_no (by decide +kernel), x, pa, en, ⟨rs, [], sh, ch⟩, past, rfl, g3.hO, g3.ok, l9, fun m H8 a8 cm hO8 => hN2 _ _ ⟨m, rfl, a8, cm, hO8⟩⟩
          rintro σ H7 ⟨m, rfl, a7, cm, hO7⟩
          have km7 := a7.keepM g3.hO.mut
          obtain ⟨st7, hn7, hs7⟩ := g3.hn
          have hn7 := a7 _ _ (nin2 g3.xb.2.1.symm g3.pn.1) hn7
          have hl7 := a7 _ _ (nin2 g3.xb.2.2.symm g3.pn.2.2.1) g3.hl
          refine ⟨.ref l, rfl, .ref st, rfl, l, st, none, us, rs, sh, rfl, hl7, g3.ra.keep km7.k, g3.hh, hs3.keep km7.k, ln, fun n hn => (g3.nn n hn).1, fun p t b H8 s8 hp ht gb => ?_⟩
          obtain rfl : b = m := (Come.unique ln (show Come rs sh (beatN rs sh b) b from gb) cm).2
          have hn8 := s8 _ _ hn7
          refine ⟨p, _, rfl, .inl (.inl hp), rfl, _, _, rfl, .ref nw, rfl, nw, _, _, 0, rfl, rfl, hn8, rfl, ?_⟩
          have a9 : Aw [nw] H8 (upd H8 nw (.lst ([V.ref st7, .int ch].set 0 (.ref t)))) := Aw.one
          have h9 := upd_same (H := H8) (a := nw) (o := HO.lst ([V.ref st7, .int ch].set 0 (.ref t)))
          generalize upd H8 nw (.lst ([V.ref st7, .int ch].set 0 (.ref t))) = H9 at a9 h9 ⊢
          refine ⟨_, _, rfl, _, _, rfl, rfl, ?_⟩
          dsimp only [List.set_cons_succ, List.set_cons_zero]
          refine ⟨.ref nw, rfl, nw, _, 1, .int ch, rfl, rfl, .inl (.inl h9), rfl, .int (chN rs sh b), rfl, _, _, rfl, rfl, .ref nw, rfl, nw, _, _, 1, rfl, rfl, h9, rfl, ?_⟩
          have aB : Aw [nw] H9 (upd H9 nw (.lst (([V.ref st7, .int ch].set 0 (.ref t)).set 1 (.int (ch + chN rs sh b))))) := Aw.one
          have hB := upd_same (H := H9) (a := nw) (o := HO.lst (([V.ref st7, .int ch].set 0 (.ref t)).set 1 (.int (ch + chN rs sh b))))
          dsimp only
          generalize upd H9 nw (.lst (([V.ref st7, .int ch].set 0 (.ref t)).set 1 (.int (ch + chN rs sh b)))) = HB at aB hB ⊢
          have a7B : Aw [nw] H7 HB := (Aw.of s8).trans (a9.trans aB)
          have mn : ∀ f ∈ [nw], Mut H7 f := fun f hf => by rw [List.mem_singleton.mp hf]; exact .inl ⟨_, hn7⟩
          have k7B := a7B.keepM mn
          have m8 : ∀ f ∈ [nw], Mut H8 f := fun f hf => by rw [List.mem_singleton.mp hf]; exact .inl ⟨_, hn8⟩
          have k8B := (a9.trans aB).keepM m8
          have a4B : Aw [bx, x, pa, nw] H3 HB := (a7.mono fun f hf => by simp only [List.mem_cons, List.not_mem_nil, or_false] at hf ⊢; rcases hf with h | h <;> simp [h]).trans (a7B.mono fun f hf => by rw [List.mem_singleton.mp hf]; simp)
          have lb := beatN_len ln b
          refine hN _ _ ⟨_, _, _, _, _, _, _, _, beatN rs sh b, ch + chN rs sh b, past ++ [⟨rs, [], sh, ch⟩], rfl, by rw [List.length_append]; rfl, a03.trans a4B, ?_, .inr (.inr ⟨b, rfl, rfl⟩)⟩
          obtain ⟨p1, q1, r1, hb, zz⟩ := g3.b
          have hb7 := a7 _ _ (nin2 g3.xb.1.symm g3.pb.1.symm) hb
          have hbc : r1 ≤ c + 90 := by have := zz.2.2.2.2; omega
          exact ⟨⟨p1, q1, r1, a7B _ _ (nin1 g3.pb.2.2.1.symm) hb7, zz.1, zz.2.1, zz.2.2.1, zz.2.2.2.1, hbc⟩, hO7.aw a7B mn (nin1 g3.xb.2.1) (nin1 g3.pn.1.symm) (nin1 g3.pn.2.1.symm), g3.hh, lb, beatN_small g3.hh ln g3.nn b, a7B _ _ (nin1 g3.pn.2.2.2) hl7, (g3.ra.keep km7.k).keep k7B.k, ⟨t, hB, ht.keep k8B.k⟩, g3.pb, g3.pn⟩
    rintro σ H4 ⟨y6, y7, y8, y10, y11, y13, due, found, sh2, ch2, p2, rfl, l2, a4, g4, al⟩
    have lc : c + 90 ≤ c + 100 := by omega
    rcases al with ⟨a, b, ns, rfl, rfl, ha, nH, hb, nbb, nab, ll⟩ | ⟨a, b, ns, rfl, rfl, ha, hb, ll⟩ | ⟨i, rfl, rfl⟩
    · refine ⟨.ref a, rfl, .ref b, rfl, bx, .ref a, .ref b, .list (ns.map PyData.int), rfl, .lst ha nab (RpAll.ints _), .lst hb nbb (RpAll.ints _), okD_intsL (by omega), fun H5 s5 => ?_⟩
      have ha5 := s5 _ _ ha
      refine rd_isi (x := .ref a) (T := "list") rfl (.base (.lst ha5)) (by decide +kernel : kitB "list" "list" = some true) ⟨true, rfl, iteP rfl ?_⟩
      refine ⟨.ref a, rfl, .inl ⟨rfl, _, .inl (.inl ha5)⟩, a, _, .str "more", rfl, rfl, ha5, small1000 (by rw [List.length_map]; exact ll), ?_⟩
      have g5 := g4.same s5
      obtain ⟨dx, hx, pt, st2, hX, _⟩ := g.hO.ex
      obtain ⟨es, he⟩ := g.hO.he
      obtain ⟨n1, n2, n3⟩ := g.hO.pa_ne nH
      have n4 : a ≠ nw := (ne_of_none hn nH).symm
      have n5 : a ≠ l := (ne_of_none g.hl nH).symm
      have aw : Aw [a] H5 (upd H5 a (.lst (ns.map V.int ++ [V.str "more"]))) := Aw.one
      have g6 := g5.aw aw (fun f hf => by rw [List.mem_singleton.mp hf]; exact .inl ⟨_, ha5⟩) (nin1 nab.symm) (nin1 n1.symm) (nin1 n2.symm) (nin1 n3.symm) (nin1 n4.symm) (nin1 n5.symm)
      have a6 : Aw [bx, x, pa, nw] H (upd H5 a (.lst (ns.map V.int ++ [V.str "more"]))) := fun z o nz hz => by
        rw [upd_ne (fun e => by rw [e] at hz; rw [hz] at nH; cases nH)]
        exact s5 _ _ (a4 z o nz hz)
      exact ⟨_, rfl, q sh2 ch2 p2 _ l2 a6 (g6.mono lc)⟩
    · refine ⟨.ref a, rfl, .ref b, rfl, bx, .ref a, .ref b, .tuple (ns.map PyData.int), rfl, .tup ha (tup_nb g4.b ha) (RpAll.ints _), .tup hb (tup_nb g4.b hb) (RpAll.ints _), okD_tupI (by omega), fun H5 s5 => ?_⟩
      refine rd_isi (x := .ref a) (T := "tuple") rfl (ha.keep (Keep.same s5)).ty (by decide +kernel : kitB "tuple" "list" = some false) ⟨false, rfl, iteN rfl ?_⟩
      exact ⟨_, rfl, q sh2 ch2 p2 _ l2 (a4.trans (Aw.of s5)) ((g4.same s5).mono lc)⟩
    · refine ⟨.int i, rfl, .int i, rfl, bx, .int i, .int i, .int i, rfl, .int _, .int _, trivial, fun H5 s5 => ?_⟩
      refine rd_isi (x := .int i) (T := "int") rfl (.base (.int i)) (by decide +kernel : kitB "int" "list" = some false) ⟨false, rfl, iteN rfl ?_⟩
      exact ⟨_, rfl, q sh2 ch2 p2 _ l2 (a4.trans (Aw.of s5)) ((g4.same s5).mono lc)⟩
end
end Lh

namespace Lh
open PySem PySem.Spec PyProof.Rows L2
section
variable {P : Program} {w : World} {K : PySem.W.Frag} {mg : Str → Option Value} {base : Heap}
def spShownB : Sp := fun vs H Q _ => ∃ (bx l : Addr) (c : Int) (us : List V), vs = [.ref bx, .ref l] ∧ c + 100 ≤ 1000000000 ∧ us.length ≤ 12 ∧ Box bx c H ∧ H l = some (.lst us) ∧ l ≠ bx ∧
  ∀ (t : Addr) (ns : List Int) (H' : Hp), Ext bx H H' → Box bx (c + 100) H' → H t = none → TupAt H' t (ns.map V.int) → ns.length = us.length → (∀ n ∈ ns, 0 ≤ n ∧ n ≤ 1000000) → Q (.ref t) H'
set_option maxHeartbeats 2000000 in
theorem ok_shownB (T : Txt K mg w) : FnOk P w K mg base CX0 2 T.f_shown T.fd_shown p_shown spShownB := by
  have G_take := ok_take (P := P) (w := w) (base := base) T
  refine T.F_shown.ok sc_shown (fun vs H Q E h => ?_) (fun cdv A outer s H vs Q E hr h => ?_)
  · obtain ⟨bx, l, c, us, rfl, _⟩ := h
    rfl
  · obtain ⟨bx, l, c, us, rfl, c1, l1, hB, hl, nlb, q⟩ := h
    refine ⟨_, (pss_cons (ps_par (i := 2) (j := 3) (by rfl) sc_shown.nd rfl rfl (by decide) rfl rfl (pa_cons (pe_call G_take (hr.mono (by decide)) (by rfl) T.g_take T.F_take.kp T.b_take .nil pass0 (pa_cons (pv 0) (pa_cons pe_int pa_nil))) (pa_cons (pe_lst pa_nil) pa_nil)) (by rfl))
      (pss_cons (ps_for PassesOwn.never rfl (pi_list (pv 1)) (pg_name (i := 4) sc_shown.nd rfl (.inl rfl))
        (pss_one (ps_expr (pe_bm PySem.F.plainAttrs_list PySem.F.slot_list_append PySem.F.type_list_append mt_append (pv 3) (pa_cons (pe_ix ix_list (pe_lst (pa_cons (pe_call G_take (hr.mono (by decide)) (by rfl) T.g_take T.F_take.kp T.b_take .nil pass0 (pa_cons (pv 0) (pa_cons pe_int pa_nil))) (pa_cons (pe_call G_take (hr.mono (by decide)) (by rfl) T.g_take T.F_take.kp T.b_take .nil pass0 (pa_cons (pv 0) (pa_cons pe_int pa_nil))) (pa_cons pe_int (pa_cons (pe_call G_take (hr.mono (by decide)) (by rfl) T.g_take T.F_take.kp T.b_take .nil pass0 (pa_cons (pv 0) (pa_cons (pe_op op_pow pe_int pe_int) pa_nil))) (pa_cons (pe_call G_take (hr.mono (by decide)) (by rfl) T.g_take T.F_take.kp T.b_take .nil pass0 (pa_cons (pv 0) (pa_cons pe_int pa_nil))) pa_nil)))))) (pv 2) (fun _ _ => rfl)) pa_nil)))))
      (pss_one (ps_ret (pe_callTy call_tupleF (by rfl) T.m_tuple (by decide +kernel) (pa_cons (pv 3) pa_nil)))))), ?_⟩
    refine ⟨.ref bx, rfl, bx, _, 5, rfl, by decide, by decide, by omega, hB, fun r1 H1 r10 r11 e1 b1 => ⟨by show 0 ≤ sizeLine; decide, fun d nd => ⟨_, _, rfl, ?_⟩⟩⟩
    have ndb := b1.ne nd
    have ndH : H d = none := e1.free ndb nd
    have hl1 := same_upd (o := .lst []) nd _ _ (e1 _ _ nlb hl)
    refine ⟨.ref l, rfl, l, rfl, ⟨_, .inl (.inl hl1)⟩, ?_⟩
    refine for_it (walk_list (xs := us)) (fun i σ H3 => ∃ (y : Option V) (ns : List Int), σ = [some (.ref bx), some (.ref l), some (.int r1), some (.ref d), y] ∧ Ext bx H H3 ∧ Box bx (c + 1 + 4 * i) H3 ∧ H3 d = some (.lst (ns.map V.int)) ∧ ns.length = i ∧ ∀ n ∈ ns, 0 ≤ n ∧ n ≤ 1000000) ⟨none, [], rfl, e1.trans ((Ext.refl _).new nd), by simpa using b1.new nd, upd_same, rfl, fun n h => absurd h (by simp)⟩ ?_ ?_ ?_
    · rintro i σ H3 _ ⟨y, ns, rfl, e3, _⟩
      exact .inl (.inl (e3 _ _ nlb hl))
    · rintro i v σ H3 H4 hi ⟨y, ns, rfl, e3, b3, h3, n3, p3⟩ ⟨rfl, hv⟩
      refine ⟨.ref d, rfl, .inl ⟨rfl, _, .inl (.inl h3)⟩, ?_⟩
      refine ⟨.ref bx, rfl, bx, _, 4, rfl, by decide, by decide, by omega, b3, fun a1 H5 a10 a11 e5 b5 => ?_⟩
      refine ⟨.ref bx, rfl, bx, _, 20, rfl, by decide, by decide, by omega, b5, fun a2 H6 a20 a21 e6 b6 => ?_⟩
      refine ⟨.ref bx, rfl, 10, 6, rfl, rfl, ⟨by decide, by decide, by decide⟩, bx, _, _, rfl, by decide, by decide, by omega, b6, fun a3 H7 a30 a31 e7 b7 => ?_⟩
      refine ⟨.ref bx, rfl, bx, _, 3, rfl, by decide, by decide, by omega, b7, fun a4 H8 a40 a41 e8 b8 => ⟨by show 5 ≤ sizeLine; decide, fun z nz => ?_⟩⟩
      have nzb := b8.ne nz
      obtain ⟨x, mx, ax⟩ := pick (xs := [V.int a1, .int a2, .int 7, .int a3, .int a4]) r10 (by simpa using r11)
      have eX : Ext bx H4 H8 := ((e5.trans e6).trans e7).trans e8
      refine ⟨.int r1, rfl, z, _, r1, x, rfl, rfl, .inl (.inl upd_same), ax, ?_⟩
      have a31c : a3 ≤ 1000000 := Int.le_of_lt (Int.lt_of_lt_of_le a31 (by decide))
      obtain ⟨n, rfl, n0⟩ : ∃ n : Int, x = .int n ∧ 0 ≤ n ∧ n ≤ 1000000 := by
        simp only [List.mem_cons, List.not_mem_nil, or_false] at mx
        rcases mx with rfl | rfl | rfl | rfl | rfl
        · exact ⟨_, rfl, a10, by omega⟩
        · exact ⟨_, rfl, a20, by omega⟩
        · exact ⟨_, rfl, by decide, by decide⟩
        · exact ⟨_, rfl, a30, a31c⟩
        · exact ⟨_, rfl, a40, by omega⟩
      have hd8 := same_upd (o := .lst [V.int a1, .int a2, .int 7, .int a3, .int a4]) nz _ _ (eX _ _ ndb h3)
      refine ⟨d, _, .int n, rfl, rfl, hd8, by rw [List.length_map]; exact small1000 (by omega), ?_⟩
      refine ⟨_, ns ++ [n], rfl, ((e3.trans eX).trans ((Ext.refl _).new nz)).new ndH, ((b8.new nz).at ndb).mono (by omega), by rw [upd_same, List.map_append]; rfl, by rw [List.length_append, n3]; rfl, fun n' hn' => ?_⟩
      rcases List.mem_append.mp hn' with h | h
      · exact p3 n' h
      · rw [List.mem_singleton.mp h]; exact n0
    · rintro σ H3 ⟨y, ns, rfl, e3, b3, h3, n3, p3⟩
      refine ⟨.ref d, rfl, d, _, rfl, .inl (.inl h3), fun t o nt od => ?_⟩
      exact q t ns _ (e3.trans ((Ext.refl _).new nt)) ((b3.new nt).mono (by omega)) (e3.free (b3.ne nt) nt) (.inr ⟨o, od, upd_same⟩) n3 p3
end
end Lh

namespace Lh
open PySem PySem.Spec PyProof.Rows L2
def pairD (q : Int × Int) : PyData := .tuple [.int q.1, .int q.2]
def Rule.data : Rule → PyData
  | .held n => .tuple [.str "held", .int n]
  | .sum own ties => .tuple [.str "sum", .int own, .tuple (ties.map pairD)]
  | .cap own ties most => .tuple [.str "cap", .int own, .tuple (ties.map pairD), .int most]
  | .kinds own seen => .tuple [.str "kinds", .int own, .tuple (seen.map PyData.int)]
  | .next seen => .tuple [.str "next", .tuple (seen.map PyData.int)]
  | .free seen => .tuple [.str "free", .tuple (seen.map PyData.int)]
theorem Box.neF {bx : Addr} {c : Int} {H : Hp} (h : Box bx c H) {p : Addr} {o : Obj} {u : HO} (n : H p = some (.frz o u)) : p ≠ bx := by
  obtain ⟨a, b, n', h, _⟩ := h
  exact ne_of n h (by intro z; cases z)
theorem pairs_rp {bx : Addr} {c : Int} {H : Hp} (b : Box bx c H) : ∀ {ps : List Addr} {ties : List (Int × Int)}, Paired (PairAtH H) ps ties → RpAll bx H (ps.map V.ref) (ties.map pairD)
  | _, _, .nil => .nil
  | _, _, .cons h r => .cons (.tup (.inl h) (b.neT h) (.cons (.int _) (.cons (.int _) .nil))) (pairs_rp b r)
theorem TiesAt.rp {bx : Addr} {c : Int} {H : Hp} (b : Box bx c H) {t : Addr} {ties : List (Int × Int)} (h : TiesAt H t ties) : Rp bx H (.ref t) (.tuple (ties.map pairD)) := by
  obtain ⟨o, ps, od, ht, pr⟩ := h
  exact .tup (.inr ⟨o, od, ht⟩) (b.neF ht) (pairs_rp b pr)
theorem SeenAt.rp {bx : Addr} {c : Int} {H : Hp} (b : Box bx c H) {t : Addr} {seen : List Int} (h : SeenAt H t seen) : Rp bx H (.ref t) (.tuple (seen.map PyData.int)) := by
  rcases h with ht | ⟨o, od, ht⟩
  · exact .tup (.inl ht) (b.neT ht) (RpAll.ints seen)
  · exact .tup (.inr ⟨o, od, ht⟩) (b.neF ht) (RpAll.ints seen)
theorem RuleAt.rp {bx : Addr} {c : Int} {H : Hp} (b : Box bx c H) {v : V} : ∀ {r : Rule}, RuleAt H v r → Rp bx H v r.data
  | .held n, ⟨a, e, h⟩ => by rw [e]; exact .tup (.inl h) (b.neT h) (.cons (.str _) (.cons (.int _) .nil))
  | .sum _ _, ⟨a, t, e, h, q⟩ => by rw [e]; exact .tup (.inl h) (b.neT h) (.cons (.str _) (.cons (.int _) (.cons (q.rp b) .nil)))
  | .cap _ _ _, ⟨a, t, e, h, q⟩ => by rw [e]; exact .tup (.inl h) (b.neT h) (.cons (.str _) (.cons (.int _) (.cons (q.rp b) (.cons (.int _) .nil))))
  | .kinds _ _, ⟨a, t, e, h, q⟩ => by rw [e]; exact .tup (.inl h) (b.neT h) (.cons (.str _) (.cons (.int _) (.cons (q.rp b) .nil)))
  | .next _, ⟨a, t, e, h, q⟩ => by rw [e]; exact .tup (.inl h) (b.neT h) (.cons (.str _) (.cons (q.rp b) .nil))
  | .free _, ⟨a, t, e, h, q⟩ => by rw [e]; exact .tup (.inl h) (b.neT h) (.cons (.str _) (.cons (q.rp b) .nil))
/-! ### data that can be shown -/
def tame (w : Nat) : Nat → PyData → Prop
  | _, .none => True
  | _, .bool _ => True
  | _, .int i => i.natAbs < 10 ^ 12
  | _, .str x => x.cps.size ≤ 10 ∧ ∀ c ∈ x.cps.toList, c < 16 ^ 8
  | n + 1, .list ds => ds.length ≤ w ∧ ∀ d ∈ ds, tame w n d
  | n + 1, .tuple ds => ds.length ≤ w ∧ ∀ d ∈ ds, tame w n d
  | _, _ => False
def Bk (w : Nat) : Nat → Nat
  | 0 => 10
  | n + 1 => 10 + w * (Bk w n + 1)
theorem Bk_ge (w : Nat) : ∀ n, 10 ≤ Bk w n
  | 0 => Nat.le_refl _
  | n + 1 => Nat.le_add_right _ _
theorem log_small {i : Int} (h : i.natAbs < 10 ^ 12) : i.natAbs.log2 < 1920 := by
  by_cases z : i.natAbs = 0
  · rw [z]; decide
  · rw [Nat.log2_lt z]
    exact Nat.lt_trans h (Nat.lt_of_lt_of_le (by decide : 10 ^ 12 < 2 ^ 40) (Nat.pow_le_pow_right (by decide) (by decide)))
structure Shown (n : Nat) (b : Nat) (d : PyData) : Prop where
  sh : d.showable = true
  nd : d.hasDict = false
  dp : d.depth ≤ n
  lv : d.leavesShort 13 = true
  bk : d.bulk ≤ b
theorem all_sh : ∀ {ds : List PyData} {n b : Nat}, (∀ d ∈ ds, Shown n b d) → PyData.showableAll ds = true ∧ PyData.hasDictAll ds = false ∧ PyData.depthAll ds ≤ n ∧ PyData.leavesShortAll 13 ds = true ∧ PyData.bulkAll ds ≤ ds.length * (b + 1)
  | [], n, b, _ => ⟨rfl, rfl, Nat.zero_le _, rfl, by show 0 ≤ _; omega⟩
  | d :: r, n, b, h => by
    have h1 := h d List.mem_cons_self
    obtain ⟨a1, a2, a3, a4, a5⟩ := all_sh (ds := r) (n := n) (b := b) (fun x hx => h x (List.mem_cons_of_mem _ hx))
    refine ⟨?_, ?_, ?_, ?_, ?_⟩
    · show (d.showable && PyData.showableAll r) = true
      rw [h1.sh, a1]; rfl
    · show (d.hasDict || PyData.hasDictAll r) = false
      rw [h1.nd, a2]; rfl
    · show max d.depth (PyData.depthAll r) ≤ n
      have := h1.dp
      omega
    · show (d.leavesShort 13 && PyData.leavesShortAll 13 r) = true
      rw [h1.lv, a4]; rfl
    · show d.bulk + 1 + PyData.bulkAll r ≤ (r.length + 1) * (b + 1)
      have := h1.bk
      rw [Nat.add_mul]
      omega
theorem tame_shown (w : Nat) : ∀ (n : Nat) (d : PyData), tame w n d → Shown n (Bk w n) d
  | n, .none, _ => ⟨rfl, rfl, Nat.zero_le _, rfl, Nat.zero_le _⟩
  | n, .bool _, _ => ⟨rfl, rfl, Nat.zero_le _, rfl, Nat.zero_le _⟩
  | n, .int i, h => by
    have h' : i.natAbs < 10 ^ 12 := by cases n <;> exact h
    exact ⟨decide_eq_true (log_small h'), rfl, Nat.zero_le _, decide_eq_true (PyData.shown_int_le h'), Nat.zero_le _⟩
  | n, .str x, h => by
    have h' : x.cps.size ≤ 10 ∧ ∀ c ∈ x.cps.toList, c < 16 ^ 8 := by cases n <;> exact h
    refine ⟨rfl, rfl, Nat.zero_le _, ?_, Nat.le_trans h'.1 (Bk_ge w n)⟩
    show (x.cps.toList.all fun c => decide (c < 16 ^ 8)) = true
    rw [List.all_eq_true]
    exact fun c hc => decide_eq_true (h'.2 c hc)
  | 0, .list _, h => h.elim
  | 0, .tuple _, h => h.elim
  | n + 1, .list ds, ⟨hl, h⟩ => by
    obtain ⟨a1, a2, a3, a4, a5⟩ := all_sh (fun d hd => tame_shown w n d (h d hd))
    refine ⟨a1, a2, Nat.succ_le_succ a3, a4, ?_⟩
    show PyData.bulkAll ds ≤ 10 + w * (Bk w n + 1)
    have := Nat.mul_le_mul_right (Bk w n + 1) hl
    omega
  | n + 1, .tuple ds, ⟨hl, h⟩ => by
    obtain ⟨a1, a2, a3, a4, a5⟩ := all_sh (fun d hd => tame_shown w n d (h d hd))
    refine ⟨a1, a2, Nat.succ_le_succ a3, a4, ?_⟩
    show PyData.bulkAll ds ≤ 10 + w * (Bk w n + 1)
    have := Nat.mul_le_mul_right (Bk w n + 1) hl
    omega
  | 0, .dict _, h => h.elim
  | n + 1, .dict _, h => h.elim
theorem tame_fits {w n : Nat} {d : PyData} (h : tame w n d) (hb : Bk w n ≤ 2 ^ 20) : d.shown.length ≤ sizeLine :=
  PyData.shown_fits_bulk (B := 13) (by decide) (by decide) (tame_shown w n d h).lv (Nat.le_trans (tame_shown w n d h).bk hb)
theorem tame_ok {w : Nat} (hw : w ≤ 8388608) : ∀ (n : Nat) (d : PyData), tame w n d → okD n d
  | n, .none, _ => by cases n <;> trivial
  | n, .bool _, _ => by cases n <;> trivial
  | n, .int i, _ => by cases n <;> trivial
  | n, .str x, _ => by cases n <;> trivial
  | 0, .list _, h => h.elim
  | 0, .tuple _, h => h.elim
  | n + 1, .list ds, ⟨hl, h⟩ => ⟨Nat.le_trans hl hw, fun d hd => tame_ok hw n d (h d hd)⟩
  | n + 1, .tuple ds, ⟨hl, h⟩ => ⟨Nat.le_trans hl hw, fun d hd => tame_ok hw n d (h d hd)⟩
  | 0, .dict _, h => h.elim
  | n + 1, .dict _, h => h.elim
theorem tame_int {w n : Nat} {i : Int} (h : i.natAbs < 10 ^ 12) : tame w n (.int i) := by cases n <;> exact h
theorem tame_word {w n : Nat} {x : Str} (h : x.cps.size ≤ 10 ∧ ∀ c ∈ x.cps.toList, c < 16 ^ 8) : tame w n (.str x) := by cases n <;> exact h
theorem tame_pairs {w n : Nat} (hw : 2 ≤ w) {l : List (Int × Int)} (h : ∀ q ∈ l, q.1.natAbs < 10 ^ 12 ∧ q.2.natAbs < 10 ^ 12) (hl : l.length ≤ w) : tame w (n + 2) (.tuple (l.map pairD)) := by
  refine ⟨by rw [List.length_map]; exact hl, fun d hd => ?_⟩
  obtain ⟨q, hq, rfl⟩ := List.mem_map.mp hd
  refine ⟨hw, fun x hx => ?_⟩
  have := h q hq
  rcases List.mem_cons.mp hx with e | e
  · rw [e]; exact tame_int this.1
  · rw [List.mem_singleton.mp e]; exact tame_int this.2
theorem tame_seen {w n : Nat} {l : List Int} (h : ∀ q ∈ l, q.natAbs < 10 ^ 12) (hl : l.length ≤ w) : tame w (n + 1) (.tuple (l.map PyData.int)) := by
  refine ⟨by rw [List.length_map]; exact hl, fun d hd => ?_⟩
  obtain ⟨q, hq, rfl⟩ := List.mem_map.mp hd
  exact tame_int (h q hq)
theorem tame_rule {w : Nat} (hw : 4 ≤ w) {many : Int} (hm : many ≤ 1000000) : ∀ {r : Rule}, r.Wf many → r.persons.length ≤ w → tame w 3 r.data
  | .held n, h, _ => by
    have h' : 0 ≤ n ∧ n ≤ 1000000 := by
      first
        | exact h
        | exact ⟨(show smallI n from h).1, Int.le_trans (show smallI n from h).2 (by decide)⟩
    refine ⟨by show 2 ≤ w; omega, fun d hd => ?_⟩
    simp only [List.mem_cons, List.not_mem_nil, or_false] at hd
    rcases hd with rfl | rfl
    · exact tame_word (by decide +kernel)
    · exact tame_int (by omega)
  | .sum own ties, ⟨ho, rs, w1⟩, hl => by
    unfold smallI at ho
    have hl' : ties.length ≤ w := by simpa [Rule.persons] using hl
    refine ⟨by show 3 ≤ w; omega, fun d hd => ?_⟩
    simp only [List.mem_cons, List.not_mem_nil, or_false] at hd
    rcases hd with rfl | rfl | rfl
    · exact tame_word (by decide +kernel)
    · exact tame_int (by omega)
    · refine tame_pairs (by omega) (fun q hq => ?_) hl'
      have h1 := rs.2 _ (List.mem_map_of_mem (f := (·.1)) hq)
      have h2 := w1 q hq
      omega
  | .cap own ties most, ⟨ho, rs, w1, hmo⟩, hl => by
    unfold smallI at ho hmo
    have hl' : ties.length ≤ w := by simpa [Rule.persons] using hl
    refine ⟨by show 4 ≤ w; omega, fun d hd => ?_⟩
    simp only [List.mem_cons, List.not_mem_nil, or_false] at hd
    rcases hd with rfl | rfl | rfl | rfl
    · exact tame_word (by decide +kernel)
    · exact tame_int (by omega)
    · refine tame_pairs (by omega) (fun q hq => ?_) hl'
      have h1 := rs.2 _ (List.mem_map_of_mem (f := (·.1)) hq)
      have h2 := w1 q hq
      omega
    · exact tame_int (by omega)
  | .kinds own seen, ⟨ho, rs⟩, hl => by
    unfold smallI at ho
    refine ⟨by show 3 ≤ w; omega, fun d hd => ?_⟩
    simp only [List.mem_cons, List.not_mem_nil, or_false] at hd
    rcases hd with rfl | rfl | rfl
    · exact tame_word (by decide +kernel)
    · exact tame_int (by omega)
    · exact tame_seen (fun q hq => by have := rs.2 q hq; omega) hl
  | .next seen, rs, hl => by
    have rs' : Rising many seen := rs
    refine ⟨by show 2 ≤ w; omega, fun d hd => ?_⟩
    simp only [List.mem_cons, List.not_mem_nil, or_false] at hd
    rcases hd with rfl | rfl
    · exact tame_word (by decide +kernel)
    · exact tame_seen (fun q hq => by have := rs'.2 q hq; omega) hl
  | .free seen, rs, hl => by
    have rs' : Rising many seen := rs
    refine ⟨by show 2 ≤ w; omega, fun d hd => ?_⟩
    simp only [List.mem_cons, List.not_mem_nil, or_false] at hd
    rcases hd with rfl | rfl
    · exact tame_word (by decide +kernel)
    · exact tame_seen (fun q hq => by have := rs'.2 q hq; omega) hl
end Lh

namespace LhN
open PySem PySem.Spec PyProof.Rows
section
variable {prog : Program} {w : World} {A : Around} {E : Value → Shared → Prop} {s : Shared} {K : PySem.W.Frag} {x y C L f : Addr} {h₀ : Heap} {m : Str → Option Value} {ox oy : Obj} {od od' : Option Obj}
theorem ifBound_objNe {M : Model} {args : List Value} {Q : Option Value → Shared → Prop} (X : K.In s.heap) (I : PySem.W.InstAt s.heap x ox C od) (hs : PySem.W.findIn K (.ref C) "__ne__" = some (some (.builtin "object.__ne__")))
    (h : wpAny M A (call (.builtin "object.__ne__") (.ref x :: args)) (fun v => Q (some v)) E s) : wpAny M A (callSpecialIfBound? (.ref x) "__ne__" args) Q E s := by
  simp only [callSpecialIfBound?, bindSpecialIfBound?]
  refine wpAny_holding (wpAny_bind (wpAny_bind (wpAny_bind (I.type.here ((PySem.W.looks_findIn X hs).here ?_)))))
  refine wpAny_bind (wpAny_askSetting (wpAny_ite ?_))
  have fin : wpAny M A (call (.builtin "object.__ne__") ([.ref x] ++ args) >>= fun v => pure (some v)) Q E s := wpAny_bind (wpAny_mono h (fun v s' h' => wpAny_pure h') fun _ _ h' => h')
  split
  · exact wpAny_bind (wpAny_of_eq (F.cmp_object.ne.bind _) (wpAny_pure (by exact fin)))
  · exact wpAny_tryCatch (wpAny_bind (wpAny_of_eq (F.cmp_object.ne.bind _) (wpAny_pure (by exact fin))))
theorem entry_ne (hu : A.units < cLine) (X : K.In s.heap) (I : PySem.W.InstAt s.heap x ox C od) (hs : PySem.W.findIn K (.ref C) "__eq__" = some (some (.ref f))) (hf : PySem.W.isFn K (.ref f) = true) {Q : Fin → Shared → Prop}
    (hcall : wpAny (model prog w) A (call (.ref f) [.ref x, .ref y]) (fun v s' => ∃ b, v = .bool b ∧ Q (.done (.ret (.bool (!b)))) s') E s) :
    wpAny (model prog w) A (Builtin.«object.__ne__» ⟨[.ref x, .ref y], []⟩) Q E s := by
  unfold Builtin.«object.__ne__»
  repeat (first
    | with_reducible refine wpAny_cRoomFor hu ?_
    | (refine wpAny_bind (m := callSpecialIfBound? (.ref x) (Str.ofString "__eq__") [.ref y])
        (PySem.W.ifBound_K X I hs hf (wpAny_mono hcall (fun r s' hr => by
          obtain ⟨b, rfl, hq⟩ := hr
          repeat (first | exact hq | exact wpAny_pure hq | exact wpAny_truthy_bool hq | (refine wpAny_bind (m := truthy (.bool _)) (wpAny_truthy_bool ?_)) | wp_step)) fun _ _ e => e)))
    | wp_step)
theorem ne_K {Q : Value → Shared → Prop} (hu : A.units < cLine) (hu1 : A.in1.units < cLine) (X : K.In s.heap) (I : PySem.W.InstAt s.heap x ox C od) (J : PySem.W.InstAt s.heap y oy C od')
    (hn : PySem.W.findIn K (.ref C) "__ne__" = some (some (.builtin "object.__ne__"))) (hm : PySem.W.mroIn K C (.type "object") = some true) (hs : PySem.W.findIn K (.ref C) "__eq__" = some (some (.ref f))) (hf : PySem.W.isFn K (.ref f) = true)
    (h : wpAny (model prog w) A.in1 (call (.ref f) [.ref x, .ref y]) (fun v s' => ∃ b, v = .bool b ∧ Q (.bool (!b)) s') E s) : wpAny (model prog w) A (richCompare .NotEq (.ref x) (.ref y)) Q E s := by
  have one : wpAny (model prog w) A (tryCompare (.ref x) "__ne__" (.ref y)) (fun r s' => ∃ v, r = some v ∧ Q v s') E s := by
    unfold tryCompare
    refine wpAny_bind (ifBound_objNe X I hn (wpAny_call (codeAny_call_builtin F.cmp_object.ne.plain F.cmpEntry_ne (PySem.W.check_slot F.cmpKind_ne F.cmpSplit_ne (I.type.andThen (PySem.W.looks_mroIn X hm)) (F.cmpArgs_ne _ _) (entry_ne (A := A.in1) hu1 X I hs hf (wpAny_mono h (fun v s' hv => ?_) fun _ _ e => e))))))
    obtain ⟨b, rfl, hq⟩ := hv
    first | exact ⟨b, rfl, wpAny_pure ⟨_, rfl, hq⟩⟩ | exact ⟨b, rfl, wpAny_pure (wpAny_pure ⟨_, rfl, hq⟩)⟩ | exact ⟨b, rfl, _, rfl, hq⟩
  unfold richCompare
  simp only [oneThing_ref]
  refine wpAny_holding (wpAny_bind (wpAny_cRoomFor hu ?_))
  rw [cmpInfo_NotEq]
  dsimp only
  refine wpAny_bind (I.type.here (wpAny_bind (J.type.here ?_)))
  rw [show (Value.ref C != Value.ref C) = false from by simp]
  simp only [Bool.false_eq_true, if_false]
  refine wpAny_bind (wpAny_pure ?_)
  simp only [Bool.false_eq_true, if_false]
  refine wpAny_bind (wpAny_mono one (fun r s' z => ?_) fun _ _ e => e)
  obtain ⟨v, rfl, hq⟩ := z
  exact wpAny_pure hq
end
end LhN
namespace Lh
open PySem PySem.Spec PyProof.Rows L2
theorem op_neIns {X : Cx} {k : Nat} {f C : Addr} {fd : FuncData} {ps : List Str} {sp : Sp} (hn : PySem.W.findIn X.K (.ref C) "__ne__" = some (some (.builtin "object.__ne__"))) (hm : PySem.W.mroIn X.K C (.type "object") = some true)
    (me : Meth X.K C "__eq__" f) (F : FnOk X.prog X.w X.K X.mg X.base CX0 k f fd ps sp) (hb : Binds X.K fd ps []) (hr : Room (k + 1) X.A) :
    OpR X (compareOp .NotEq) (fun x y H Q => ∃ (a b dx dy : Addr) (fs gs : List (Str × V)), x = .ref a ∧ y = .ref b ∧ H a = some (.ins C dx fs) ∧ H b = some (.ins C dy gs) ∧ sp [.ref a, .ref b] H (fun v H' => ∃ t : Bool, v = .bl t ∧ Q (.bl (!t)) H') E0) := by
  intro pins s σ H x y v u Q I rx ry hq
  obtain ⟨a, b, dx, dy, fs, gs, rfl, rfl, ha, hb', h⟩ := hq
  cases rx
  cases ry
  show wpAny (model X.prog X.w) X.A (richCompare .NotEq (.ref a) (.ref b)) (EP X pins σ Q) X.xe s
  obtain ⟨mA, J, _⟩ := ins_get I.hok ha
  obtain ⟨mB, J', _⟩ := ins_get I.hok hb'
  obtain ⟨od, J, _⟩ := J.look
  obtain ⟨od', J', _⟩ := J'.look
  refine LhN.ne_K hr.units0 hr.in1.units0 I.kIn J J' hn hm me.at_ me.fn ?_
  have e0 := I.env0
  have e1 : Env0 X.prog X.w X.K X.mg X.base X.A.in1 X.stack s H := ⟨e0.frames, e0.mod, e0.bs, e0.bsz, e0.funs, e0.frf, e0.hok, e0.bare⟩
  have hl : ([Value.ref a, Value.ref b] ++ []).length = ps.length := by rw [← F.len _ _ _ _ h]; rfl
  have bb := hb s [.ref a, .ref b] I.kIn hl
  rw [List.append_nil] at bb
  have vv : Vals [V.ref a, V.ref b] [Value.ref a, Value.ref b] := .cons rfl (.cons rfl .nil)
  have run := F.run X.A.in1 X.stack s H ⟨[.ref a, .ref b], []⟩ [.ref a, .ref b] [.ref a, .ref b] _ E0 hr.in1 e1 bb vv h
  refine wpAny_call (codeAny_mono run ?_)
  rintro (e | fl) t ht
  · exact False.elim ht
  cases fl with
  | next => exact False.elim ht
  | brk => exact False.elim ht
  | cont => exact False.elim ht
  | ret z =>
    obtain ⟨v, H', J2, rv, n, rfl, q⟩ := I.after ht
    cases (show z = Value.bool n from rv)
    exact ⟨n, rfl, .bl (!n), H', J2, rfl, q⟩
theorem lay_prsN : ∀ ps : List (Int × Int), PyData.canLayAll0 (ps.map pairD) = true ∧ PyData.depthAll (ps.map pairD) ≤ 1
  | [] => ⟨rfl, Nat.zero_le _⟩
  | q :: r => by
    obtain ⟨h1, h2⟩ := lay_prsN r
    refine ⟨?_, ?_⟩
    · show ((true && (true && true)) && PyData.canLayAll0 (r.map pairD)) = true
      rw [h1]; rfl
    · show max (max 0 (max 0 0) + 1) (PyData.depthAll (r.map pairD)) ≤ 1
      omega
theorem lay_rule : ∀ r : Rule, PyData.canLay0 r.data = true ∧ PyData.depth r.data ≤ 3
  | .held n => ⟨by show (PyData.canLay0 (.str "held") && (true && true)) = true; decide +kernel, by show max 0 (max 0 0) + 1 ≤ 3; omega⟩
  | .sum own ties => by
    obtain ⟨h1, h2⟩ := lay_prsN ties
    refine ⟨?_, ?_⟩
    · show (PyData.canLay0 (.str "sum") && (true && (PyData.canLayAll0 (ties.map pairD) && true))) = true
      rw [h1]; decide +kernel
    · show max 0 (max 0 (max (PyData.depthAll (ties.map pairD) + 1) 0)) + 1 ≤ 3
      omega
  | .cap own ties most => by
    obtain ⟨h1, h2⟩ := lay_prsN ties
    refine ⟨?_, ?_⟩
    · show (PyData.canLay0 (.str "cap") && (true && (PyData.canLayAll0 (ties.map pairD) && (true && true)))) = true
      rw [h1]; decide +kernel
    · show max 0 (max 0 (max (PyData.depthAll (ties.map pairD) + 1) (max 0 0))) + 1 ≤ 3
      omega
  | .kinds own seen => by
    refine ⟨?_, ?_⟩
    · show (PyData.canLay0 (.str "kinds") && (true && (PyData.canLayAll0 (seen.map PyData.int) && true))) = true
      rw [canLay_ints]; decide +kernel
    · show max 0 (max 0 (max (PyData.depthAll (seen.map PyData.int) + 1) 0)) + 1 ≤ 3
      rw [depth_ints]; omega
  | .next seen => by
    refine ⟨?_, ?_⟩
    · show (PyData.canLay0 (.str "next") && (PyData.canLayAll0 (seen.map PyData.int) && true)) = true
      rw [canLay_ints]; decide +kernel
    · show max 0 (max (PyData.depthAll (seen.map PyData.int) + 1) 0) + 1 ≤ 3
      rw [depth_ints]; omega
  | .free seen => by
    refine ⟨?_, ?_⟩
    · show (PyData.canLay0 (.str "free") && (PyData.canLayAll0 (seen.map PyData.int) && true)) = true
      rw [canLay_ints]; decide +kernel
    · show max 0 (max (PyData.depthAll (seen.map PyData.int) + 1) 0) + 1 ≤ 3
      rw [depth_ints]; omega
theorem lay_rules : ∀ rs : List Rule, PyData.canLayAll0 (rs.map Rule.data) = true ∧ PyData.depthAll (rs.map Rule.data) ≤ 3
  | [] => ⟨rfl, Nat.zero_le _⟩
  | r :: t => by
    obtain ⟨h1, h2⟩ := lay_rules t
    obtain ⟨h3, h4⟩ := lay_rule r
    refine ⟨?_, ?_⟩
    · show (PyData.canLay0 r.data && PyData.canLayAll0 (t.map Rule.data)) = true
      rw [h1, h3]; rfl
    · show max (PyData.depth r.data) (PyData.depthAll (t.map Rule.data)) ≤ 3
      omega
theorem shaped_rules (rs : List Rule) : SeqAt.shaped (.tuple (rs.map Rule.data)) = true := by
  show (PyData.canLayAll0 (rs.map Rule.data) && decide (PyData.depthAll (rs.map Rule.data) + 1 ≤ 64)) = true
  rw [(lay_rules rs).1, decide_eq_true (by have := (lay_rules rs).2; omega)]
  rfl
theorem eqv_rules (rs : List Rule) : PyData.eqv (.tuple (rs.map Rule.data)) (.tuple (rs.map Rule.data)) = true := by
  first
    | exact eqv_refl _ (lay_rules rs).1
    | exact PyData.eqv_refl _ (lay_rules rs).1
    | exact SeqAt.eqv_refl _ (lay_rules rs).1
theorem RulesAt.rpN {bx : Addr} {c : Int} {H : Hp} (b : Box bx c H) : ∀ {us : List V} {rs : List Rule}, RulesAt H us rs → RpAll bx H us (rs.map Rule.data)
  | _, _, .nil => .nil
  | _, _, .cons h r => .cons (h.rp b) (RulesAt.rpN b r)
section
variable {P : Program} {w : World} {K : PySem.W.Frag} {mg : Str → Option Value} {base : Heap}
def spHallEq (C : Addr) : Sp := fun vs H Q _ => ∃ (bx x y : Addr) (c : Int) (rs : List Rule), vs = [.ref x, .ref y] ∧ Box bx c H ∧ HallAt C H x rs ∧ HallAt C H y rs ∧ Q (.bl true) H
theorem ok_Hall_eq (T : Txt K mg w) : FnOk P w K mg base CX0 1 T.f_Hall_eq T.fd_Hall_eq p_Hall_eq (spHallEq T.C_Hall) := by
  refine T.F_Hall_eq.ok sc_Hall_eq (fun vs H Q E h => ?_) (fun cdv A outer s H vs Q E hr h => ?_)
  · obtain ⟨bx, x, y, c, rs, rfl, _⟩ := h
    rfl
  · obtain ⟨bx, x, y, c, rs, rfl, hB, ⟨dx, t, vs, hx, ht, hv⟩, ⟨dy, u, us, hy, hu, hw⟩, q⟩ := h
    refine ⟨_, (pss_one (ps_ret (pe_and (pe_callB (C8.call_isC T.is_Hall) (by rfl) T.m_isinstance (by decide +kernel) (pa_cons (pv 1) (pa_cons (pe_glob (v := .ref T.C_Hall) (by rfl) T.g_Hall rfl) pa_nil))) (pe_one (pe_cmpR (op_eqD hr.units) (pe_fld (pv 0) rfl) (pe_fld (pv 1) rfl) (nomark _)))))), ?_⟩
    refine ⟨.ref y, rfl, y, dy, _, rfl, hy, _, rfl, iteP rfl ?_⟩
    refine ⟨.ref x, rfl, x, T.C_Hall, dx, _, _, rfl, hx, T.cl_Hall, T.na_Hall_kept, kept_yes _, .ref y, rfl, y, T.C_Hall, dy, _, _, rfl, hy, T.cl_Hall, T.na_Hall_kept, kept_yes _, ?_⟩
    refine ⟨.tuple (rs.map Rule.data), .tuple (rs.map Rule.data), .tup ht.sq (RpAll.dp (bx := bx) (RulesAt.rpN hB hv)), .tup hu.sq (RpAll.dp (bx := bx) (RulesAt.rpN hB hw)), shaped_rules rs, shaped_rules rs, ?_⟩
    rw [eqv_rules]
    exact q
end
end Lh

namespace Lh
open PySem PySem.Spec PyProof.Rows L2
theorem okD_rule {n : Nat} {m : Int} {r : Rule} (h : r.Wf m) (hm : m ≤ 1000) (m0 : 0 ≤ m) : okD (n + 3) r.data := by
  have lp := (wf_len h hm m0).1
  have pr : ∀ ties : List (Int × Int), ties.length ≤ 1000 → okD (n + 2) (.tuple (ties.map pairD)) := fun ties ht => by
    refine ⟨by rw [List.length_map]; omega, fun d hd => ?_⟩
    obtain ⟨q, _, rfl⟩ := List.mem_map.mp hd
    refine ⟨by show 2 ≤ 8388608; decide, fun d hd => ?_⟩
    rcases List.mem_cons.mp hd with rfl | hd
    · cases n <;> trivial
    · rw [List.mem_singleton.mp hd]; cases n <;> trivial
  have sn : ∀ seen : List Int, seen.length ≤ 1000 → okD (n + 2) (.tuple (seen.map PyData.int)) := fun seen hs => by
    refine ⟨by rw [List.length_map]; omega, fun d hd => ?_⟩
    obtain ⟨q, _, rfl⟩ := List.mem_map.mp hd
    trivial
  cases r with
  | held n => exact ⟨by show 2 ≤ 8388608; decide, fun d hd => by
      simp only [List.mem_cons, List.not_mem_nil, or_false] at hd
      rcases hd with rfl | rfl <;> trivial⟩
  | sum own ties => exact ⟨by show 3 ≤ 8388608; decide, fun d hd => by
      simp only [List.mem_cons, List.not_mem_nil, or_false] at hd
      rcases hd with rfl | rfl | rfl
      · trivial
      · trivial
      · exact pr _ (by simpa [Rule.persons] using lp)⟩
  | cap own ties most => exact ⟨by show 4 ≤ 8388608; decide, fun d hd => by
      simp only [List.mem_cons, List.not_mem_nil, or_false] at hd
      rcases hd with rfl | rfl | rfl | rfl
      · trivial
      · trivial
      · exact pr _ (by simpa [Rule.persons] using lp)
      · trivial⟩
  | kinds own seen => exact ⟨by show 3 ≤ 8388608; decide, fun d hd => by
      simp only [List.mem_cons, List.not_mem_nil, or_false] at hd
      rcases hd with rfl | rfl | rfl
      · trivial
      · trivial
      · exact sn _ lp⟩
  | next seen => exact ⟨by show 2 ≤ 8388608; decide, fun d hd => by
      simp only [List.mem_cons, List.not_mem_nil, or_false] at hd
      rcases hd with rfl | rfl
      · trivial
      · exact sn _ lp⟩
  | free seen => exact ⟨by show 2 ≤ 8388608; decide, fun d hd => by
      simp only [List.mem_cons, List.not_mem_nil, or_false] at hd
      rcases hd with rfl | rfl
      · trivial
      · exact sn _ lp⟩
def rulesD (rs : List Rule) : PyData := .tuple (rs.map Rule.data)
theorem okD_rules {n : Nat} {rs : List Rule} (h : Halls rs) : okD (n + 4) (rulesD rs) := by
  have := h.2.1
  refine ⟨by rw [List.length_map]; omega, fun d hd => ?_⟩
  obtain ⟨r, hr, rfl⟩ := List.mem_map.mp hd
  exact okD_rule (h.2.2 r hr) (by omega) (by omega)
theorem RulesAt.rp {bx : Addr} {c : Int} {H : Hp} (b : Box bx c H) {us : List V} {rs : List Rule} (h : RulesAt H us rs) : RpAll bx H us (rs.map Rule.data) := RulesAt.rpN b h
end Lh

namespace Lh
open PySem PySem.Spec PyProof.Rows L2
theorem cutI_headN {α : Type} (xs : List α) : (cutI xs none (some 2)).length = min 2 xs.length := by
  unfold cutI
  rw [HT.sIx_none, show HT.sIx xs.length xs.length (some 2) = min 2 xs.length from HT.sIx_nat xs.length _ 2, List.length_take, List.length_drop]
  omega
theorem cutI_tailN {α : Type} (xs : List α) (h : xs.length ≤ 2) : (cutI xs (some 2) (some 63)).length = 0 := by
  unfold cutI
  rw [show HT.sIx xs.length 0 (some 2) = min 2 xs.length from HT.sIx_nat xs.length _ 2, List.length_take, List.length_drop]
  omega
section
variable {P : Program} {w : World} {K : PySem.W.Frag} {mg : Str → Option Value} {base : Heap}
def spFoldedN (K : PySem.W.Frag) : Sp := fun vs H Q _ => ∃ (a : Addr) (ns : List Int), vs = [.ref a, .int 2] ∧ SqL K H a (ns.map V.int) ∧ ns.length ≤ 63 ∧
  ∀ (p : Addr) (ms : List Int) (H' : Hp), Same H H' → H p = none → H' p = some (.lst (ms.map V.int)) → ms.length ≤ 2 → Q (.ref p) H'
theorem ok_foldedN (T : Txt K mg w) : FnOk P w K mg base CX0 1 T.f_folded T.fd_folded p_folded (spFoldedN K) := by
  refine T.F_folded.ok sc_folded (fun vs H Q E h => ?_) (fun cdv A outer s H vs Q E hr h => ?_)
  · obtain ⟨a, ns, rfl, _⟩ := h
    rfl
  · obtain ⟨a, ns, rfl, hS, hl, q⟩ := h
    refine ⟨_, (pss_cons (ps_set (i := 2) sc_folded.nd rfl (.inl rfl) (pe_callTy call_list_of (by rfl) T.m_list (by decide +kernel) (pa_cons (pe_slice sl_list (pv 0) po_none (po_some (pv 1))) pa_nil)))
      (pss_cons (ps_for PassesOwn.never rfl (pi_enum (by rfl) T.m_enumerate (pa_cons (pe_slice sl_list (pv 0) (po_some (pv 1)) (po_some pe_int)) pa_nil)) (pg_tup rfl (pgs_cons (pg_name (i := 3) sc_folded.nd rfl (.inl rfl)) (pgs_cons (pg_name (i := 4) sc_folded.nd rfl (.inl rfl)) pgs_nil)))
        (pss_one (ps_asg (pe_op op_add (pe_ix ix_list (pv 2) (pe_op op_mod (pv 3) (pv 1)) (fun _ _ => rfl)) (pe_op op_mul (pv 4) (pe_op op_add (pv 3) pe_int))) (pg_sub (pv 2) (pe_op op_mod (pv 3) (pv 1)) set_list))))
      (pss_one (ps_ret (pv 2))))), ?_⟩
    -- the cells
    refine ⟨.ref a, rfl, .int 2, rfl, 2, rfl, a, _, rfl, hS, fun c nc => ?_⟩
    have s1 := same_upd (o := .lst (cutV (ns.map V.int) none (some 2))) nc
    refine ⟨c, _, rfl, .inl (.inl (.inl upd_same)), fun l nl => ?_⟩
    have s2 := s1.trans (same_upd (o := .lst (cutV (ns.map V.int) none (some 2))) nl)
    have nlH : H l = none := s1.free nl
    -- the rest of the script
    refine ⟨.ref a, rfl, .int 2, rfl, 2, rfl, 63, rfl, a, _, rfl, s2.seq hS, fun d nd => ?_⟩
    have s3 := s2.trans (same_upd (o := .lst (cutV (ns.map V.int) (some 2) (some 63))) nd)
    have nld : l ≠ d := ne_of_none upd_same nd
    refine ⟨d, _, rfl, .inl (.inl upd_same), ?_⟩
    rw [cut_map V.int, cut_map V.int] at *
    refine for_it (walk_enum (xs := (cutI ns (some 2) (some 63)).map V.int)) (fun i σ H3 => ∃ (y3 y4 : Option V) (ms : List Int), σ = [some (.ref a), some (.int 2), some (.ref l), y3, y4] ∧ Same H H3 ∧ H3 d = some (.lst ((cutI ns (some 2) (some 63)).map V.int)) ∧ H3 l = some (.lst (ms.map V.int)) ∧ ms.length = min 2 ns.length) ?_ ?_ ?_ ?_
    · refine ⟨none, none, cutI ns none (some 2), rfl, s3, upd_same, ?_, cutI_headN ns⟩
      rw [upd_ne nld, upd_same]
    · rintro i σ H3 _ ⟨y3, y4, ms, rfl, _, hd, _⟩
      exact .inl (.inl hd)
    · rintro i x σ H3 H4 hi ⟨y3, y4, ms, rfl, sm, hd, hl3, hm⟩ ⟨t, x1, x2, rfl, nt, rfl, e1, e2⟩
      rw [List.length_map] at hi
      have e1' : V.int (i : Nat) = x1 := Option.some.inj e1
      subst e1'
      have e2' : x2 = .int (cutI ns (some 2) (some 63))[i] := by
        have : ((cutI ns (some 2) (some 63)).map V.int)[i]? = some x2 := e2
        rw [List.getElem?_map, List.getElem?_eq_getElem hi] at this
        exact (Option.some.inj this).symm
      subst e2'
      have h3 : ms.length = 2 := by
        by_cases hc : ns.length ≤ 2
        · rw [cutI_tailN ns hc] at hi; omega
        · omega
      have nlt : l ≠ t := ne_of_none hl3 nt
      have hl4 : (upd H3 t (.tup [.int (i : Nat), .int (cutI ns (some 2) (some 63))[i]])) l = some (.lst (ms.map V.int)) := by rw [upd_ne nlt]; exact hl3
      have hlt : ((i : Int) % 2).toNat < ms.length := by omega
      refine ⟨t, _, rfl, .inl (.inl upd_same), rfl, _, _, rfl, _, _, rfl, rfl, ?_⟩
      refine ⟨.ref l, rfl, .int i, rfl, .int 2, rfl, i, 2, rfl, rfl, by show (0 : Int) < 2; decide, l, _, _, .int ms[((i : Int) % 2).toNat], rfl, rfl, .inl (.inl hl4), ?_, ?_⟩
      · refine at_of (j := ((i : Int) % 2).toNat) (by omega) ?_
        rw [List.getElem?_map, List.getElem?_eq_getElem hlt]; rfl
      refine ⟨_, rfl, .int i, rfl, i, 2, rfl, rfl, _, _, rfl, rfl, .inr ⟨by omega, ?_⟩, _, _, rfl, rfl, .ref l, rfl, .int i, rfl, .int 2, rfl, i, 2, rfl, rfl, by show (0 : Int) < 2; decide, l, _, _, ((i : Int) % 2).toNat, rfl, rfl, hl4, ?_, ?_⟩
      · have : (cutI ns (some 2) (some 63)).length ≤ ns.length := by
          unfold cutI; rw [List.length_take, List.length_drop]; omega
        omega
      · show ixN (ms.map V.int).length ((i : Int) % 2) = some _
        unfold ixN
        rw [List.length_map, if_pos (by omega), if_pos (by omega)]
      · refine ⟨_, _, ms.set ((i : Int) % 2).toNat (ms[((i : Int) % 2).toNat] + (cutI ns (some 2) (some 63))[i] * ((i : Int) + 2)), rfl, ?_, ?_, ?_, ?_⟩
        · exact fun b o e => by
            rw [upd_ne (ne_of_none e nlH), upd_ne (ne_of_none (sm b o e) nt)]
            exact sm b o e
        · rw [upd_ne nld.symm, upd_ne (ne_of_none hd nt)]
          exact hd
        · rw [upd_same, List.map_set]
        · rw [List.length_set]; exact hm
    · rintro σ H3 ⟨y3, y4, ms, rfl, sm, hd, hl3, hm⟩
      exact ⟨.ref l, rfl, q l ms H3 sm nlH hl3 (by omega)⟩
end
end Lh

namespace Lh
open PySem PySem.Spec PyProof.Rows L2
section
variable {P : Program} {w : World} {K : PySem.W.Frag} {mg : Str → Option Value} {base : Heap}
set_option maxHeartbeats 8000000 in
theorem ok_right (T : Txt K mg w) : FnG P w K mg base 13 T.f_right T.fd_right p_right spRight := by
  have G_take := ok_take (P := P) (w := w) (base := base) T
  have G_hall := ok_hall (P := P) (w := w) (base := base) T
  have G_flat := ok_flat (P := P) (w := w) (base := base) T
  have G_shown := ok_shownB (P := P) (w := w) (base := base) T
  have G_Hall_init := ok_Hall_init (P := P) (w := w) (base := base) T
  have G_House_init := ok_House_init (P := P) (w := w) (base := base) T
  have G_step_right := ok_step50 (P := P) (w := w) (base := base) T
  have G_House_standing := ok_House_standing (P := P) (w := w) (base := base) T
  have G_House_turns := ok_House_turns (P := P) (w := w) (base := base) T
  have G_House_hall := ok_House_hall (P := P) (w := w) (base := base) T
  have G_House_held := ok_House_held (P := P) (w := w) (base := base) T
  have G_House_len := ok_House_len (P := P) (w := w) (base := base) T
  have G_House_rest := ok_House_rest (P := P) (w := w) (base := base) T
  have G_Hall_rules := ok_Hall_rulesM (P := P) (w := w) (base := base) T
  have G_refused := ok_refusedH (P := P) (w := w) (base := base) T
  have G_rest_by_beats := ok_rest_by_beats (P := P) (w := w) (base := base) T
  have G_same := ok_same (P := P) (w := w) (base := base) T 7
  refine okG T.F_right sc_right (fun vs H Q E h => ?_) (fun cdv A outer s H vs Q E hr hG h => ?_)
  · obtain ⟨bx, rfl, _⟩ := h
    rfl
  · obtain ⟨bx, rfl, hB, q⟩ := h
    refine ⟨_, (pss_cons (ps_set (i := 1) sc_right.nd rfl (.inl rfl) (pe_ix ix_list (pe_lst (pa_cons (pe_call G_hall (hr.mono (by decide)) (by rfl) T.g_hall T.F_hall.kp T.b_hall .nil pass0 (pa_cons (pv 0) pa_nil)) (pa_cons (pe_call G_flat (hr.mono (by decide)) (by rfl) T.g_flat T.F_flat.kp T.b_flat .nil pass0 (pa_cons (pv 0) (pa_cons pe_int pa_nil))) pa_nil))) (pe_call G_take (hr.mono (by decide)) (by rfl) T.g_take T.F_take.kp T.b_take .nil pass0 (pa_cons (pv 0) (pa_cons pe_int pa_nil))) (fun _ _ => rfl)))
      (pss_cons (ps_set (i := 2) sc_right.nd rfl (.inl rfl) (pe_lst (pa_cons (pe_call G_shown (hr.mono (by decide)) (by rfl) T.g_shown T.F_shown.kp T.b_shown .nil pass0 (pa_cons (pv 0) (pa_cons (pv 1) pa_nil))) (pa_cons pe_int pa_nil))))
      (pss_cons (ps_set (i := 3) sc_right.nd rfl (.inl rfl) (pe_make T.mk_House G_House_init (hr.mono (by decide)) (by rfl) T.g_House T.b_House_init .nil pass0 (pa_cons (pe_make T.mk_Hall G_Hall_init (hr.mono (by decide)) (by rfl) T.g_Hall T.b_Hall_init .nil pass0 (pa_cons (pv 1) pa_nil)) (pa_cons (pe_ix ix_list (pv 2) pe_int (fun _ _ => rfl)) pa_nil))))
      (pss_cons (ps_for PassesOwn.never rfl (pi_range1 (by rfl) T.m_range (pa_cons pe_int pa_nil)) (pg_name (i := 4) sc_right.nd rfl (.inl rfl))
        (pss_cons (ps_if (pt_not (pt_val (pe_call G_step_right (hr.mono (by decide)) (by rfl) T.g_step_right T.F_step_right.kp T.b_step_right .nil pass0 (pa_cons (pv 0) (pa_cons (pv 3) (pa_cons (pv 2) (pa_cons (pv 1) pa_nil)))))))
          (pss_one (ps_ret pe_bl))
          pss_nil)
        (pss_cons (ps_set (i := 5) sc_right.nd rfl (.inl rfl) (pe_lst (pa_cons (pe_meth0 (pv 3) T.cl_House T.me_House_standing G_House_standing (hr.mono (by decide)) T.b_House_standing .nil pass0) (pa_cons (pe_meth0 (pv 3) T.cl_House T.me_House_turns G_House_turns (hr.mono (by decide)) T.b_House_turns .nil pass0) (pa_cons (pe_meth0 (pe_meth0 (pv 3) T.cl_House T.me_House_hall G_House_hall (hr.mono (by decide)) T.b_House_hall .nil pass0) T.cl_Hall T.me_Hall_rules G_Hall_rules (hr.mono (by decide)) T.b_Hall_rules .nil pass0) (pa_cons (pe_meth0 (pv 3) T.cl_House T.me_House_held G_House_held (hr.mono (by decide)) T.b_House_held .nil pass0) (pa_cons (pe_callB (run_len T.me_House_len G_House_len T.b_House_len (hr.mono (by decide))) (by rfl) T.m_len (by decide +kernel) (pa_cons (pv 3) pa_nil)) pa_nil)))))))
        (pss_cons (ps_if (pt_not (pt_val (pe_call G_same (hr.mono (by decide)) (by rfl) T.g_same T.F_same.kp T.b_same .nil pass0 (pa_cons (pv 5) (pa_cons (pe_lst (pa_cons (pe_ix ix_list (pv 2) pe_int (fun _ _ => rfl)) (pa_cons (pe_ix ix_list (pv 2) pe_int (fun _ _ => rfl)) (pa_cons (pe_callTy call_tupleF (by rfl) T.m_tuple (by decide +kernel) (pa_cons (pv 1) pa_nil)) (pa_cons (pe_lst pa_nil) (pa_cons (pe_callB call_len_seq (by rfl) T.m_len (by decide +kernel) (pa_cons (pv 1) pa_nil)) pa_nil)))))) pa_nil)))))
          (pss_one (ps_ret pe_bl))
          pss_nil)
        (pss_cons (ps_set (i := 6) sc_right.nd rfl (.inl rfl) (pe_ix ix_list (pe_lst (pa_cons (pe_un un_neg pe_int) (pa_cons (pe_callB call_len_seq (by rfl) T.m_len (by decide +kernel) (pa_cons (pv 1) pa_nil)) (pa_cons (pe_op op_add (pe_callB call_len_seq (by rfl) T.m_len (by decide +kernel) (pa_cons (pv 1) pa_nil)) pe_int) pa_nil)))) (pe_call G_take (hr.mono (by decide)) (by rfl) T.g_take T.F_take.kp T.b_take .nil pass0 (pa_cons (pv 0) (pa_cons pe_int pa_nil))) (fun _ _ => rfl)))
        (pss_one (ps_if (PW.pt (pw_or (pt_cmpR op_ne (pe_call G_refused (hr.mono (by decide)) (by rfl) T.g_refused T.F_refused.kp T.b_refused .nil pass0 (pa_cons (pv 3) (pa_cons (pe_op op_cat (pe_op op_rep (pe_lst (pa_cons pe_int pa_nil)) (pe_call G_take (hr.mono (by decide)) (by rfl) T.g_take T.F_take.kp T.b_take .nil pass0 (pa_cons (pv 0) (pa_cons pe_int pa_nil)))) (pe_lst (pa_cons (pv 6) pa_nil))) pa_nil))) (pv 6) (nomark _)) (pw_or1 (pt_cmpR (op_neD hr.units) (pe_meth0 (pv 3) T.cl_House T.me_House_standing G_House_standing (hr.mono (by decide)) T.b_House_standing .nil pass0) (pe_ix ix_list (pv 2) pe_int (fun _ _ => rfl)) (nomark _)))))
          (pss_one (ps_ret pe_bl))
          pss_nil)))))))
      (pss_cons (ps_set (i := 7) sc_right.nd rfl (.inl rfl) (pe_call G_rest_by_beats (hr.mono (by decide)) (by rfl) T.g_rest_by_beats T.F_rest_by_beats.kp T.b_rest_by_beats .nil pass0 (pa_cons (pe_make T.mk_Hall G_Hall_init (hr.mono (by decide)) (by rfl) T.g_Hall T.b_Hall_init .nil pass0 (pa_cons (pv 1) pa_nil)) (pa_cons (pe_ix ix_list (pv 2) pe_int (fun _ _ => rfl)) pa_nil))))
      (pss_one (ps_ret (pe_call G_same (hr.mono (by decide)) (by rfl) T.g_same T.F_same.kp T.b_same .nil pass0 (pa_cons (pe_lst (pa_cons (pe_meth0 (pv 3) T.cl_House T.me_House_rest G_House_rest (hr.mono (by decide)) T.b_House_rest .nil pass0) (pa_cons (pe_meth0 (pv 3) T.cl_House T.me_House_standing G_House_standing (hr.mono (by decide)) T.b_House_standing .nil pass0) pa_nil))) (pa_cons (pe_lst (pa_cons (pe_ix ix_tup (pv 7) pe_int (fun _ _ => rfl)) (pa_cons (pe_ix ix_tup (pv 7) pe_int (fun _ _ => rfl)) pa_nil))) pa_nil)))))))))), ?_⟩
    have start : L2.start n_right [V.ref bx] = [some (.ref bx), none, none, none, none, none, none, none] := rfl
    rw [start]
    refine seq_useN (fun σ H1 => ∃ (l : Addr) (us : List V) (rs : List Rule), σ = [some (.ref bx), some (.ref l), none, none, none, none, none, none] ∧ Ext bx H H1 ∧ Box bx 2000 H1 ∧ l ≠ bx ∧ H1 l = some (.lst us) ∧ RulesAt H1 us rs ∧ Halls rs) (fun N hN => ?_) ?_
    · refine ⟨.ref bx, rfl, bx, 0, rfl, by decide, hB, fun l1 us1 rs1 H1 e1 b1 nl1 hl1 ra1 hh1 => ⟨.ref bx, rfl, bx, _, 7, rfl, by decide, by decide, by decide, b1, fun l2 us2 rs2 H2 e2 b2 nl2 hl2 ra2 hh2 => ?_⟩⟩
      have nb1 := hB.ne nl1
      have nb2 := b1.ne nl2
      refine ⟨by show 2 ≤ sizeLine; decide, fun pl npl => ?_⟩
      have npb := b2.ne npl
      have s3 := same_upd (o := .lst [.ref l1, .ref l2]) npl
      have hp := upd_same (H := H2) (a := pl) (o := HO.lst [.ref l1, .ref l2])
      generalize upd H2 pl (.lst [.ref l1, .ref l2]) = H3 at s3 hp
      refine ⟨.ref bx, rfl, bx, _, 2, rfl, by decide, by decide, by decide, b2.same s3, fun r H4 r0 r1 e4 b4 => ?_⟩
      have hp4 := e4 _ _ npb hp
      have e34 : Ext bx H2 H4 := (Ext.of s3).trans e4
      have hl14 := e34 _ _ nb1 (e2 _ _ nb1 hl1)
      have hl24 := e34 _ _ nb2 hl2
      have k24 := (Keep.same s3).trans (Keep.ext e4 (b2.same s3))
      have ra14 := (ra1.keep (Keep.ext e2 b1)).keep k24
      have ra24 := ra2.keep k24
      have r2 : r = 0 ∨ r = 1 := by omega
      rcases r2 with rfl | rfl
      · exact ⟨pl, _, 0, .ref l1, rfl, rfl, .inl (.inl hp4), rfl, hN _ _ ⟨l1, us1, rs1, rfl, e1.trans (e2.trans e34), b4.mono (by decide), nb1, hl14, ra14, hh1⟩⟩
      · exact ⟨pl, _, 1, .ref l2, rfl, rfl, .inl (.inl hp4), rfl, hN _ _ ⟨l2, us2, rs2, rfl, e1.trans (e2.trans e34), b4.mono (by decide), nb2, hl24, ra24, hh2⟩⟩
    rintro σ H1 ⟨l, us, rs, rfl, e1, b1, nlb, hl, ra, hh⟩
    have lus : us.length = rs.length := ra.length
    have l12 := hh.2.1
    refine seq_useN (fun σ H2 => ∃ (nw st : Addr) (sh : List Int), σ = [some (.ref bx), some (.ref l), some (.ref nw), none, none, none, none, none] ∧ Ext bx H1 H2 ∧ Box bx 2100 H2 ∧ H1 nw = none ∧ nw ≠ bx ∧ H2 nw = some (.lst [.ref st, .int 0]) ∧ TupAt H2 st (sh.map V.int) ∧ sh.length = rs.length ∧ ∀ n ∈ sh, 0 ≤ n ∧ n ≤ 1000000) (fun N hN => ?_) ?_
    · refine ⟨.ref bx, rfl, .ref l, rfl, bx, l, _, us, rfl, by decide, by omega, b1, hl, nlb, fun st sh H2 e2 b2 nt ht ln bn => ⟨by show 2 ≤ sizeLine; decide, fun nw nnw => ?_⟩⟩
      have s3 := same_upd (o := .lst [.ref st, .int 0]) nnw
      have nb := b2.ne nnw
      exact hN _ _ ⟨nw, st, sh, rfl, e2.trans (Ext.of s3), b2.same s3, (Ext.aw e2).free (nin1 nb) nnw, nb, upd_same, ht.keep (Keep.same s3), by omega, bn⟩
    rintro σ H2 ⟨nw, st, sh, rfl, e2, b2, nnw, nwb, hnw, hst, ln, bn⟩
    have hl2 := e2 _ _ nlb hl
    have ra2 := ra.keep (Keep.ext e2 b1)
    refine seq_useN (fun σ H3 => ∃ (x pa en : Addr), σ = [some (.ref bx), some (.ref l), some (.ref nw), some (.ref x), none, none, none, none] ∧ Ext bx H2 H3 ∧ H2 x = none ∧ H2 pa = none ∧ G50 T.C_House T.C_Hall bx x pa en nw l us rs sh 0 [] 2100 H3) (fun N hN => ?_) ?_
    · refine ⟨.ref l, rfl, fun h dh nh ndh nhd => ?_⟩
      have sh0 : Same H2 (upd (upd H2 dh (.own h)) h (.ins T.C_Hall dh [])) := fun b o hb => by
        rw [upd_ne (ne_of_none hb nh), upd_ne (ne_of_none hb ndh)]
        exact hb
      refine ⟨h, dh, l, us, rs, rfl, upd_same, sh0 _ _ hl2, ra2.keep (Keep.same sh0), hh, fun H5 k5 hA => ⟨rfl, ?_⟩⟩
      have s5 : Same H2 H5 := fun b o hb => k5 b o (ne_of_none hb nh) (sh0 b o hb)
      refine ⟨.ref nw, rfl, nw, _, 0, .ref st, rfl, rfl, .inl (.inl (s5 _ _ hnw)), rfl, fun x dx nx ndx nxd => ?_⟩
      have sx : Same H5 (upd (upd H5 dx (.own x)) x (.ins T.C_House dx [])) := fun b o hb => by
        rw [upd_ne (ne_of_none hb nx), upd_ne (ne_of_none hb ndx)]
        exact hb
      have k5x := (Keep.same s5).trans (Keep.same sx)
      refine ⟨x, dx, h, st, rs, sh, rfl, upd_same, hA.keep sx, hst.keep k5x, fun pa en H6 k6 npa nen hO => ⟨rfl, ?_⟩⟩
      have s6 : Same H2 H6 := fun b o hb => k6 b o (ne_of_none (s5 b o hb) nx) (sx b o (s5 b o hb))
      have npa2 : H2 pa = none := s5.free (sx.free npa)
      have nen2 : H2 en = none := s5.free (sx.free nen)
      exact hN _ _ ⟨x, pa, en, rfl, Ext.of s6, s5.free nx, npa2, ⟨b2.same s6, hO, hh, ln, bn, s6 _ _ hl2, ra2.keep (Keep.same s6), ⟨st, s6 _ _ hnw, hst.keep (Keep.same s6)⟩, ⟨b2.ne npa2, b2.ne nen2, nwb, nlb⟩, ⟨ne_of_none hnw npa2, ne_of_none hnw nen2, ne_of_none hl2 npa2, ne_of_none hl nnw⟩⟩⟩
    rintro σ H3 ⟨x, pa, en, rfl, e3, nx, npa, g⟩
    have e03 := e1.trans (e2.trans e3)
    have nx0 : H x = none := (Ext.aw e1).free (nin1 g.xb.1) ((Ext.aw e2).free (nin1 g.xb.1) nx)
    have npa0 : H pa = none := (Ext.aw e1).free (nin1 g.pb.1) ((Ext.aw e2).free (nin1 g.pb.1) npa)
    have nnw0 : H nw = none := (Ext.aw e1).free (nin1 nwb) nnw
    have back : ∀ {Ha Hb : Hp}, Ext bx H Ha → Aw [bx, x, pa, nw] Ha Hb → Ext bx H Hb := fun {Ha Hb} e a b o nb hb => a b o (by
      simp only [List.mem_cons, List.not_mem_nil, or_false]
      rintro (h | h | h | h)
      · exact nb h
      · rw [h, nx0] at hb; cases hb
      · rw [h, npa0] at hb; cases hb
      · rw [h, nnw0] at hb; cases hb) (e b o nb hb)
    refine seq_useN (fun σ H4 => ∃ (y4 y5 y6 : Option V) (sh : List Int) (ch : Int) (past : List HS), σ = [some (.ref bx), some (.ref l), some (.ref nw), some (.ref x), y4, y5, y6, none] ∧ Ext bx H H4 ∧ past.length = 8 ∧ G50 T.C_House T.C_Hall bx x pa en nw l us rs sh ch past 5000 H4) (fun N hN => ?_) ?_
    · refine ⟨8, rfl, by decide, by decide, ?_⟩
      refine for_it walk_range (fun i σ H4 => ∃ (y4 y5 y6 : Option V) (sh : List Int) (ch : Int) (past : List HS), σ = [some (.ref bx), some (.ref l), some (.ref nw), some (.ref x), y4, y5, y6, none] ∧ Ext bx H H4 ∧ past.length = i ∧ G50 T.C_House T.C_Hall bx x pa en nw l us rs sh ch past (2100 + 200 * i) H4) ⟨none, none, none, sh, 0, [], rfl, e03, rfl, g.mono (by omega)⟩ (fun _ _ _ _ _ => trivial) ?_ ?_
      · rintro i v σ H4' H4 hi ⟨y4, y5, y6, sh, ch, past, rfl, e4, lp, g4⟩ ⟨rfl, rfl⟩
        have hi' : i < 8 := hi
        dsimp only [List.set_cons_succ, List.set_cons_zero]
        refine seq_useN (fun σ H5 => ∃ (sh : List Int) (ch : Int) (past : List HS), σ = [some (.ref bx), some (.ref l), some (.ref nw), some (.ref x), some (.int (0 + (i : Nat))), y5, y6, none] ∧ Ext bx H H5 ∧ past.length = i + 1 ∧ G50 T.C_House T.C_Hall bx x pa en nw l us rs sh ch past (2200 + 200 * i) H5) (fun N2 hN2 => ?_) ?_
        · refine ⟨.ref bx, rfl, .ref x, rfl, .ref nw, rfl, .ref l, rfl, bx, x, pa, en, nw, l, us, rs, sh, ch, past, _, rfl, g4, by omega, by omega, fun sh2 ch2 p2 H5 l2 a5 g5 => ⟨_, rfl, iteN rfl ?_⟩⟩
          exact hN2 _ _ ⟨sh2, ch2, p2, rfl, back e4 a5, by omega, g5.mono (by omega)⟩
        rintro σ H5 ⟨sh, ch, past, rfl, e5, lp, g5⟩
        obtain ⟨dx, hx, pt, st5, hX, co⟩ := g5.hO.ex
        obtain ⟨stn, hn5, hs5⟩ := g5.hn
        refine seq_useN (fun σ H6 => ∃ (td z : Addr) (t1 t3 t4 : Addr) (ts : List V), σ = [some (.ref bx), some (.ref l), some (.ref nw), some (.ref x), some (.int (0 + (i : Nat))), some (.ref td), y6, none] ∧ Same H5 H6 ∧ td ≠ bx ∧ H6 td = some (.lst [.ref t1, .int ch, .ref t3, .ref t4, .int rs.length]) ∧ TupAt H6 t1 (sh.map V.int) ∧ TupAt H6 t3 ts ∧ RulesAt H6 ts rs ∧ t4 ≠ bx ∧ H6 t4 = some (.lst [])) (fun N2 hN2 => ?_) ?_
        · refine ⟨.ref x, rfl, x, dx, _, rfl, hX, hs_no (by decide +kernel), x, pa, en, _, past, rfl, g5.hO, fun t1 ht1 => ?_⟩
          refine ⟨.ref x, rfl, x, dx, _, rfl, hX, hs_no (by decide +kernel), x, pa, en, _, past, rfl, g5.hO, ?_⟩
          refine ⟨.ref x, rfl, x, dx, _, rfl, hX, hs_no (by decide +kernel), x, pa, en, _, past, rfl, g5.hO, g5.ok, fun z H6 s6 hz => ?_⟩
          obtain ⟨dz, tz, vz, hzX, _, _⟩ := id hz
          refine ⟨z, dz, _, rfl, hzX, kept_no _ (by decide +kernel), z, rs, rfl, hz, fun t3 ts ht3 ra3 => ?_⟩
          have g6 := g5.same s6
          refine ⟨.ref x, rfl, x, dx, _, rfl, s6 _ _ hX, hs_no (by decide +kernel), x, pa, en, _, past, rfl, g6.hO, Nat.zero_le _, fun t4 H7 s7 n4 h4 => ?_⟩
          have g7 := g6.same s7
          refine ⟨.ref x, rfl, x, dx, _, rfl, (s6.trans s7) _ _ hX, x, pa, en, _, past, rfl, g7.hO, l12, (rs.length : Int), rfl, by omega, Int.lt_of_le_of_lt (by omega : (rs.length : Int) ≤ 12) (by decide), by show 5 ≤ sizeLine; decide, fun td ntd => ?_⟩
          have sd := same_upd (o := .lst [.ref t1, .int ch, .ref t3, .ref t4, .int rs.length]) ntd
          exact hN2 _ _ ⟨td, z, t1, t3, t4, ts, rfl, s6.trans (s7.trans sd), g7.b.ne ntd, upd_same, ht1.keep (Keep.same (s6.trans (s7.trans sd))), ht3.keep (Keep.same (s7.trans sd)), ra3.keep (Keep.same (s7.trans sd)), g6.b.ne n4, sd _ _ h4⟩
        rintro σ H6 ⟨td, z, t1, t3, t4, ts, rfl, s6, tdb, htd, ht1, ht3, ra3, n4, h4⟩
        have g6 := g5.same s6
        have hn6 := s6 _ _ hn5
        refine seq_useN (fun σ H7 => σ = [some (.ref bx), some (.ref l), some (.ref nw), some (.ref x), some (.int (0 + (i : Nat))), some (.ref td), y6, none] ∧ Same H6 H7) (fun N2 hN2 => ?_) ?_
        · refine ⟨.ref td, rfl, .ref nw, rfl, nw, _, 0, _, rfl, rfl, .inl (.inl hn6), rfl, .ref nw, rfl, nw, _, 1, _, rfl, rfl, .inl (.inl hn6), rfl, ?_⟩
          refine ⟨.ref l, rfl, l, us, rfl, .inl (.inl g6.hl), fun t o nt od => ?_⟩
          have s7 := same_upd (o := .frz o (.tup us)) nt
          have h7 := upd_same (H := H6) (a := t) (o := HO.frz o (.tup us))
          generalize upd H6 t (.frz o (.tup us)) = H7 at s7 h7
          have g7 := g6.same s7
          refine ⟨by show 0 ≤ sizeLine; decide, fun e0 ne0 => ?_⟩
          have s8 := same_upd (o := .lst []) ne0
          have h8 := upd_same (H := H7) (a := e0) (o := HO.lst [])
          have ne0b := g7.b.ne ne0
          generalize upd H7 e0 (.lst []) = H8 at s8 h8
          have g8 := g7.same s8
          refine ⟨.ref l, rfl, l, us, rfl, .inl (.inl (.inl g8.hl)), by show 5 ≤ sizeLine; decide, fun u nu => ?_⟩
          have s9 := same_upd (o := .lst [.ref stn, .int ch, .ref t, .ref e0, .int us.length]) nu
          have h9 := upd_same (H := H8) (a := u) (o := HO.lst [.ref stn, .int ch, .ref t, .ref e0, .int us.length])
          have ub := g8.b.ne nu
          generalize upd H8 u (.lst [.ref stn, .int ch, .ref t, .ref e0, .int us.length]) = H9 at s9 h9
          have s69 := s7.trans (s8.trans s9)
          have g9 := g6.same s69
          have ht19 := ht1.keep (Keep.same s69)
          have ht39 := ht3.keep (Keep.same s69)
          have htt : TupAt H9 t us := .inr ⟨o, od, (s8.trans s9) _ _ h7⟩
          have hss := hs5.keep (Keep.same (s6.trans s69))
          rw [lus] at h9
          refine ⟨bx, .ref td, .ref u, .list [tupD sh, .int ch, rulesD rs, .list [], .int rs.length], rfl, .lst (s69 _ _ htd) tdb (.cons (.tup ht19 (tup_nb g9.b ht19) (RpAll.ints _)) (.cons (.int _) (.cons (.tup ht39 (tup_nb g9.b ht39) (RulesAt.rp g9.b (ra3.keep (Keep.same s69)))) (.cons (.lst (s69 _ _ h4) n4 .nil) (.cons (.int _) .nil))))), .lst h9 ub (.cons (.tup hss (tup_nb g9.b hss) (RpAll.ints _)) (.cons (.int _) (.cons (.tup htt (tup_nb g9.b htt) (RulesAt.rp g9.b g9.ra)) (.cons (.lst (s9 _ _ h8) ne0b .nil) (.cons (.int _) .nil))))), ?_, fun HA sA => ⟨_, rfl, iteN rfl (hN2 _ _ ⟨rfl, s69.trans sA⟩)⟩⟩
          refine ⟨by show 5 ≤ 8388608; decide, fun d hd => ?_⟩
          simp only [List.mem_cons, List.not_mem_nil, or_false] at hd
          rcases hd with rfl | rfl | rfl | rfl | rfl
          · exact okD_tupI (by rw [g6.ln]; omega)
          · trivial
          · exact okD_rules hh
          · exact ⟨Nat.zero_le _, fun d hd => absurd hd (by simp)⟩
          · trivial
        rintro σ H7 ⟨rfl, s7⟩
        have g7 := g6.same s7
        have e7 := e5.trans (Ext.of (s6.trans s7))
        refine seq_useN (fun σ H8 => ∃ far : Int, σ = [some (.ref bx), some (.ref l), some (.ref nw), some (.ref x), some (.int (0 + (i : Nat))), some (.ref td), some (.int far), none] ∧ Ext bx H7 H8 ∧ G50 T.C_House T.C_Hall bx x pa en nw l us rs sh ch past (2210 + 200 * i) H8 ∧ ¬ (0 ≤ far ∧ far < (rs.length : Int))) (fun N2 hN2 => ?_) ?_
        · refine ⟨1, rfl, .ref l, rfl, l, us, rfl, .inl (.inl (.inl g7.hl)), .ref l, rfl, l, us, rfl, .inl (.inl (.inl g7.hl)), _, _, rfl, rfl, by show 3 ≤ sizeLine; decide, fun pl npl => ?_⟩
          have sp := same_upd (o := .lst [.int (-1), .int us.length, .int (us.length + 9)]) npl
          have hp := upd_same (H := H7) (a := pl) (o := HO.lst [.int (-1), .int us.length, .int (us.length + 9)])
          have npb := g7.b.ne npl
          dsimp only
          generalize upd H7 pl (.lst [.int (-1), .int us.length, .int (us.length + 9)]) = H8 at sp hp
          have g8 := g7.same sp
          refine ⟨.ref bx, rfl, bx, _, 3, rfl, by decide, by decide, by omega, g8.b, fun r H9 r0 r1 e9 b9 => ?_⟩
          have g9 := (g8.draw e9 b9).mono (c2 := 2210 + 200 * i) (by omega)
          have hp9 := e9 _ _ npb hp
          have e79 : Ext bx H7 H9 := (Ext.of sp).trans e9
          have r3 : r = 0 ∨ r = 1 ∨ r = 2 := by omega
          rcases r3 with rfl | rfl | rfl
          · exact ⟨pl, _, 0, _, rfl, rfl, .inl (.inl hp9), rfl, hN2 _ _ ⟨-1, rfl, e79, g9, by omega⟩⟩
          · exact ⟨pl, _, 1, _, rfl, rfl, .inl (.inl hp9), rfl, hN2 _ _ ⟨us.length, rfl, e79, g9, by omega⟩⟩
          · exact ⟨pl, _, 2, _, rfl, rfl, .inl (.inl hp9), rfl, hN2 _ _ ⟨us.length + 9, rfl, e79, g9, by omega⟩⟩
        rintro σ H8 ⟨far, rfl, e8, g8, out⟩
        obtain ⟨dx8, hx8, pt8, st8, hX8, co8⟩ := g8.hO.ex
        refine ⟨.ref x, rfl, by show 1 ≤ sizeLine; decide, fun a na => ?_⟩
        have sa := same_upd (o := .lst [.int 0]) na
        have ha := upd_same (H := H8) (a := a) (o := HO.lst [.int 0])
        have nab := g8.b.ne na
        generalize upd H8 a (.lst [.int 0]) = H9 at sa ha
        have g9 := g8.same sa
        refine ⟨.ref bx, rfl, bx, _, 2, rfl, by decide, by decide, by omega, g9.b, fun r HA r0 r1 eA bA => ?_⟩
        have gA := g9.draw eA bA
        have hA := eA _ _ nab ha
        refine ⟨a, r, _, rfl, rfl, hA, by omega, by omega, Nat.le_of_lt (small1000 (by show 1 * r.toNat ≤ 1000; omega)), fun b nb => ?_⟩
        have sb := same_upd (o := .lst (List.replicate r.toNat [V.int 0]).flatten) nb
        have hb := upd_same (H := HA) (a := b) (o := HO.lst (List.replicate r.toNat [V.int 0]).flatten)
        generalize upd HA b (.lst (List.replicate r.toNat [V.int 0]).flatten) = HB at sb hb
        refine ⟨.int far, rfl, by show 1 ≤ sizeLine; decide, fun c nc => ?_⟩
        have sc := same_upd (o := .lst [.int far]) nc
        have hc := upd_same (H := HB) (a := c) (o := HO.lst [.int far])
        generalize upd HB c (.lst [.int far]) = HC at sc hc
        have e0 : (List.replicate r.toNat [V.int 0]).flatten = (List.replicate r.toNat (0 : Int)).map V.int := by
          rw [List.map_replicate]
          generalize r.toNat = n
          induction n with
          | zero => rfl
          | succ n ih => rw [List.replicate_succ, List.flatten_cons, ih]; rfl
        rw [e0] at hb
        refine ⟨b, c, _, _, rfl, rfl, sc _ _ hb, hc, Nat.le_of_lt (small1000 (by rw [List.length_map, List.length_replicate]; show r.toNat + 1 ≤ 1000; omega)), fun d nd => ?_⟩
        have sd := same_upd (o := .lst ((List.replicate r.toNat (0 : Int)).map V.int ++ [.int far])) nd
        have hd := upd_same (H := HC) (a := d) (o := HO.lst ((List.replicate r.toNat (0 : Int)).map V.int ++ [.int far]))
        generalize upd HC d (.lst ((List.replicate r.toNat (0 : Int)).map V.int ++ [.int far])) = HD at sd hd
        have gC := (gA.same sb).same sc
        have gD := gC.same sd
        have hd : HD d = some (.lst ((List.replicate r.toNat 0 ++ [far]).map V.int)) := by rw [hd, List.map_append]; rfl
        have lk : r.toNat < (List.replicate r.toNat 0 ++ [far]).length := by rw [List.length_append, List.length_replicate]; show _ < _ + 1; omega
        have ek : (List.replicate r.toNat 0 ++ [far])[r.toNat]'lk = far := by
          rw [List.getElem_append_right (by rw [List.length_replicate]; exact Nat.le_refl _)]
          simp
        have r1' := hh.1
        refine ⟨x, pa, en, d, _, past, List.replicate r.toNat 0 ++ [far], r.toNat, lk, rfl, gD.hO, gD.ok, by omega, .inl hd, (gC.hO.pa_ne nd).2.1, fun j hj => ?_, by rw [ek]; exact out, fun HE sE => ?_⟩
        · rw [List.getElem_append_left (by rw [List.length_replicate]; exact hj), List.getElem_replicate]
          show (0 : Int) ≤ 0 ∧ (0 : Int) < rs.length
          omega
        rw [ek]
        have gE := gD.same sE
        obtain ⟨dxE, hxE, ptE, stE, hXE, coE⟩ := gE.hO.ex
        obtain ⟨stn, hnE, hsE⟩ := gE.hn
        refine ⟨.int far, rfl, rfl, ?_⟩
        rw [dec_int]
        refine ⟨_, rfl, iteN (by simp) ?_⟩
        refine ⟨.ref x, rfl, x, dxE, _, rfl, hXE, hs_no (by decide +kernel), x, pa, en, _, past, rfl, gE.hO, fun t1 ht1 => ?_⟩
        refine ⟨.ref nw, rfl, nw, _, 0, .ref stn, rfl, rfl, .inl (.inl hnE), rfl, _, _, ht1.dp, hsE.dp, shaped_tup _, shaped_tup _, _, rfl, iteN ?_ ?_⟩
        · rw [eqv_tups, decide_eq_true rfl]; rfl
        refine ⟨_, _, _, sh, ch, past, rfl, (((((e7.trans e8).trans (Ext.of sa)).trans eA).trans (Ext.of sb)).trans (Ext.of sc)).trans ((Ext.of sd).trans (Ext.of sE)), lp, gE.mono (by push_cast; omega)⟩
      · rintro σ H4 ⟨y4, y5, y6, sh, ch, past, rfl, e4, lp, g4⟩
        exact hN _ _ ⟨_, _, _, sh, ch, past, rfl, e4, lp, g4.mono (by decide)⟩
    rintro σ H4 ⟨y4, y5, y6, sh, ch, past, rfl, e4, lp, g4⟩
    have hl4 := g4.hl
    obtain ⟨stn, hn4, hs4⟩ := g4.hn
    refine seq_useN (fun σ H5 => ∃ (p u : Addr) (b : Nat), σ = [some (.ref bx), some (.ref l), some (.ref nw), some (.ref x), y4, y5, y6, some (.ref p)] ∧ Same H4 H5 ∧ H5 p = some (.tup [.ref u, .int b]) ∧ TupAt H5 u ((beatN rs sh b).map V.int) ∧ Come rs sh (beatN rs sh b) b) (fun N hN => ?_) ?_
    · refine ⟨.ref l, rfl, fun h dh nh ndh nhd => ?_⟩
      have sh0 : Same H4 (upd (upd H4 dh (.own h)) h (.ins T.C_Hall dh [])) := fun b o hb => by
        rw [upd_ne (ne_of_none hb nh), upd_ne (ne_of_none hb ndh)]
        exact hb
      refine ⟨h, dh, l, us, rs, rfl, upd_same, sh0 _ _ hl4, g4.ra.keep (Keep.same sh0), hh, fun H5 k5 hA => ⟨rfl, ?_⟩⟩
      have s5 : Same H4 H5 := fun b o hb => k5 b o (ne_of_none hb nh) (sh0 b o hb)
      refine ⟨.ref nw, rfl, nw, _, 0, .ref stn, rfl, rfl, .inl (.inl (s5 _ _ hn4)), rfl, h, stn, rs, sh, rfl, hA, hh, hs4.keep (Keep.same s5), g4.ln, fun n hn => (g4.nn n hn).1, fun p u m b H6 s6 np hp hu cm => ?_⟩
      obtain rfl := cm.1
      exact hN _ _ ⟨p, u, b, rfl, s5.trans s6, hp, hu, cm⟩
    rintro σ H5 ⟨p, u, b, rfl, s5, hp, hu, cm⟩
    have g5 := g4.same s5
    obtain ⟨dx, hx, pt, st5, hX, co⟩ := g5.hO.ex
    refine ⟨.ref x, rfl, x, dx, _, rfl, hX, hs_no (by decide +kernel), x, pa, en, _, past, rfl, g5.hO, g5.ok, by omega, fun b2 H6 a6 cm2 hO6 => ?_⟩
    obtain rfl : b2 = b := (Come.unique g5.ln cm2 cm).2
    obtain ⟨dx6, hx6, pt6, st6, hX6, co6⟩ := hO6.ex
    refine ⟨.ref x, rfl, x, dx6, _, rfl, hX6, hs_no (by decide +kernel), x, pa, en, _, _, rfl, hO6, fun t1 ht1 => ⟨by show 2 ≤ sizeLine; decide, fun a na => ?_⟩⟩
    have km6 := a6.keepM g5.hO.mut
    have hp6 := km6.k.tup _ _ hp
    have hu6 := hu.keep km6.k
    have sa := same_upd (o := .lst [.int b2, .ref t1]) na
    have ha := upd_same (H := H6) (a := a) (o := HO.lst [.int b2, .ref t1])
    obtain ⟨p1, q1, r1, hb5, zz⟩ := g5.b
    have hb6 := a6 _ _ (nin2 g5.xb.1.symm g5.pb.1.symm) hb5
    have b6 : Box bx 5000 H6 := ⟨p1, q1, r1, hb6, zz⟩
    have nab := b6.ne na
    generalize upd H6 a (.lst [.int b2, .ref t1]) = H7 at sa ha
    have hp7 := sa _ _ hp6
    refine ⟨.ref p, rfl, p, _, 1, .int b2, rfl, rfl, TupAt.sq (.inl hp7), rfl, .ref p, rfl, p, _, 0, .ref u, rfl, rfl, TupAt.sq (.inl hp7), rfl, by show 2 ≤ sizeLine; decide, fun c nc => ?_⟩
    have sc := same_upd (o := .lst [.int b2, .ref u]) nc
    have hc := upd_same (H := H7) (a := c) (o := HO.lst [.int b2, .ref u])
    have b7 := b6.same sa
    have ncb := b7.ne nc
    generalize upd H7 c (.lst [.int b2, .ref u]) = H8 at sc hc
    have b8 := b7.same sc
    have ht18 := (ht1.keep (Keep.same sa)).keep (Keep.same sc)
    have hu8 := (hu6.keep (Keep.same sa)).keep (Keep.same sc)
    have lb := beatN_len g5.ln b2
    refine ⟨bx, .ref a, .ref c, .list [.int b2, tupD (beatN rs sh b2)], rfl, .lst (sc _ _ ha) nab (.cons (.int _) (.cons (.tup ht18 (tup_nb b8 ht18) (RpAll.ints _)) .nil)), .lst hc ncb (.cons (.int _) (.cons (.tup hu8 (tup_nb b8 hu8) (RpAll.ints _)) .nil)), ?_, fun H9 s9 => q _ ?_⟩
    · refine ⟨by show 2 ≤ 8388608; decide, fun d hd => ?_⟩
      simp only [List.mem_cons, List.not_mem_nil, or_false] at hd
      rcases hd with rfl | rfl
      · trivial
      · exact okD_tupI (by omega)
    · exact (back (e4.trans (Ext.of s5)) (a6.mono fun f hf => by simp only [List.mem_cons, List.not_mem_nil, or_false] at hf ⊢; rcases hf with h | h <;> simp [h])).trans (Ext.of (sa.trans (sc.trans s9)))
end
end Lh

namespace Lh
open PySem PySem.Spec PyProof.Rows L2
section
variable {P : Program} {w : World} {K : PySem.W.Frag} {mg : Str → Option Value} {base : Heap}
def spLaw (K : PySem.W.Frag) : Sp := fun vs H Q _ => ∃ (a : Addr) (ns : List Int), vs = [.ref a] ∧ SqL K H a (ns.map V.int) ∧ ns.length ≤ 63 ∧ ∀ H', Q (.bl true) H'
theorem ok_law (T : Txt K mg w) : FnG P w K mg base 14 T.f_law T.fd_law ["_law_script"] (spLaw K) := by
  have G_folded := ok_foldedN (P := P) (w := w) (base := base) T
  have G_dip := ok_dip (P := P) (w := w) (base := base) T
  have G_right := ok_right (P := P) (w := w) (base := base) T
  refine okG T.F_law sc_law (fun vs H Q E h => ?_) (fun cdv A outer s H vs Q E hr hG h => ?_)
  · obtain ⟨a, ns, rfl, _⟩ := h
    rfl
  · obtain ⟨a, ns, rfl, hS, hl, q⟩ := h
    refine ⟨_, (pss_cons (ps_set (i := 1) sc_law.nd rfl (.inr rfl) (pe_call G_folded (hr.mono (by decide)) (by rfl) T.g_folded T.F_folded.kp T.b_folded .nil pass0 (pa_cons (pv 0) (pa_cons pe_int pa_nil))))
      (pss_one (ps_ret (pe_callB (cr_all rfl) (by rfl) T.m_all (by decide +kernel) (pa_cons (pe_lc (own := [("_law_k", 2)]) (g := gName 2) (by rfl) sc_law.nd (pi_range1 (by rfl) T.m_range (pa_cons (pe_callB (call_max2 rfl) (by rfl) T.m_max (by decide +kernel) (pa_cons pe_int (pa_cons (pe_callB call_len_seq (by rfl) T.m_len (by decide +kernel) (pa_cons (pv 1) pa_nil)) pa_nil))) pa_nil)) (blkOk_by (own := [("_law_k", 2)]) (N := n_law) (sc := defScope s_law) (by decide +kernel)) (fun _ _ _ _ _ => (pg_name (i := 2) sc_law.nd rfl (.inl rfl) (.inr rfl))) (fun _ _ _ _ _ => pts_nil) (fun _ _ _ _ _ => (pe_callG G_right (hr.mono (by decide)) hG (by rfl) T.g_right T.F_right.kp T.b_right (pa_cons (pe_call G_dip (hr.mono (by decide)) (by rfl) T.g_dip T.F_dip.kp T.b_dip .nil pass0 (pa_cons (pv 1) (pa_cons (pv 2) pa_nil))) pa_nil)))) pa_nil))))), ?_⟩
    refine ⟨.ref a, rfl, a, ns, rfl, hS, hl, fun p ms H1 s1 np hp ml => ?_⟩
    refine ⟨.ref p, rfl, p, _, rfl, .inl (.inl (.inl hp)), 1, _, rfl, _, rfl, ?_, ?_, fun D hD => ?_⟩
    · rw [List.length_map]; split <;> omega
    · rw [List.length_map]; split <;> omega
    generalize hn : (if ((ms.map V.int).length : Int) > 1 then ((ms.map V.int).length : Int) else 1).toNat = n
    have hn3 : n ≤ 3 := by
      rw [← hn, List.length_map]
      split <;> omega
    refine lc_it walk_range (fun i H3 => H3 p = some (.lst (ms.map V.int)) ∧ H3 D = some (.lst (List.replicate i (.bl true)))) ⟨same_upd hD _ _ hp, upd_same⟩ (fun _ _ _ _ => trivial) ?_ ?_
    · rintro i x H3 H4 hi ⟨h1, h2⟩ ⟨rfl, rfl⟩
      refine ⟨rfl, yes (iteT ?_)⟩
      refine ⟨.ref p, rfl, .int (0 + i), rfl, p, ms, i, by show [V.ref p, V.int (0 + (i : Int))] = _; rw [Int.zero_add], .inl (.inl h1), by omega, fun bx H5 s5 nb bB => ?_⟩
      refine ⟨bx, rfl, bB, fun H6 e6 => ?_⟩
      have nD : D ≠ bx := ne_of_none h2 nb
      have nP : p ≠ bx := ne_of_none h1 nb
      have nPD : p ≠ D := ne_of_none hp hD
      refine ⟨_, e6 _ _ nD (s5 _ _ h2), by rw [List.length_replicate]; exact small1000 (by omega), ?_, ?_⟩
      · rw [upd_ne nPD]; exact e6 _ _ nP (s5 _ _ h1)
      · rw [upd_same, List.replicate_succ']
    · rintro H3 ⟨h1, h2⟩
      refine ⟨D, List.replicate n true, rfl, .inl (.inl (by rw [h2, List.map_replicate])), blT ?_ (q _)⟩
      rw [List.all_eq_true]
      intro z hz
      rw [List.eq_of_mem_replicate hz]
      rfl
end

set_option maxHeartbeats 4000000 in
theorem all_mk {l : PySem.W.OpenLaw} {w : World} {K : PySem.W.Frag} {h : Heap} {mg : Str → Option Value} {fa : Addr} (X : K.In h) (G : h.Ns mainGlobals mg) (hfa : mg "law" = some (.ref fa))
    {CHall : Addr} (aCHall : PySem.W.nsIn K mainGlobals "Hall" = some (some (.ref CHall)))
    {CHouse : Addr} (aCHouse : PySem.W.nsIn K mainGlobals "House" = some (some (.ref CHouse)))
    {CBadHall : Addr} (aCBadHall : PySem.W.nsIn K mainGlobals "BadHall" = some (some (.ref CBadHall)))
    {CBadRule : Addr} (aCBadRule : PySem.W.nsIn K mainGlobals "BadRule" = some (some (.ref CBadRule)))
    {CNoPerson : Addr} (aCNoPerson : PySem.W.nsIn K mainGlobals "NoPerson" = some (some (.ref CNoPerson)))
    {f0 : Addr} {od0 an0 : Option Addr} {sl0 : Array (Option Value)} {oc0 kV0 dc0 pm0 cd0 ct0 : Value}
    (a0 : PySem.W.nsIn K mainGlobals "_wall" = some (some (.ref f0)))
    (l0 : K.lookup f0 = some ⟨oc0, od0, .func (PySem.W.fnOf "_wall" "_wall" (defArgs s__wall) (defBody s__wall) (defScope s__wall) .none kV0 dc0 pm0 an0 cd0 ct0), sl0⟩) (c0 : PySem.W.codeIn K cd0 "_wall" = true) (k0 : PySem.W.keepIn K (.ref f0) = true)
    {f1 : Addr} {od1 an1 : Option Addr} {sl1 : Array (Option Value)} {oc1 kV1 dc1 pm1 cd1 ct1 : Value}
    (a1 : PySem.W.nsIn K mainGlobals "is_number" = some (some (.ref f1)))
    (l1 : K.lookup f1 = some ⟨oc1, od1, .func (PySem.W.fnOf "is_number" "is_number" (defArgs s_is_number) (defBody s_is_number) (defScope s_is_number) .none kV1 dc1 pm1 an1 cd1 ct1), sl1⟩) (c1 : PySem.W.codeIn K cd1 "is_number" = true) (k1 : PySem.W.keepIn K (.ref f1) = true)
    {f2 : Addr} {od2 an2 : Option Addr} {sl2 : Array (Option Value)} {oc2 kV2 dc2 pm2 cd2 ct2 : Value}
    (a2 : PySem.W.nsIn K mainGlobals "is_person" = some (some (.ref f2)))
    (l2 : K.lookup f2 = some ⟨oc2, od2, .func (PySem.W.fnOf "is_person" "is_person" (defArgs s_is_person) (defBody s_is_person) (defScope s_is_person) .none kV2 dc2 pm2 an2 cd2 ct2), sl2⟩) (c2 : PySem.W.codeIn K cd2 "is_person" = true) (k2 : PySem.W.keepIn K (.ref f2) = true)
    {f3 : Addr} {od3 an3 : Option Addr} {sl3 : Array (Option Value)} {oc3 kV3 dc3 pm3 cd3 ct3 : Value}
    (a3 : PySem.W.nsIn K mainGlobals "are_persons" = some (some (.ref f3)))
    (l3 : K.lookup f3 = some ⟨oc3, od3, .func (PySem.W.fnOf "are_persons" "are_persons" (defArgs s_are_persons) (defBody s_are_persons) (defScope s_are_persons) .none kV3 dc3 pm3 an3 cd3 ct3), sl3⟩) (c3 : PySem.W.codeIn K cd3 "are_persons" = true) (k3 : PySem.W.keepIn K (.ref f3) = true)
    {f4 : Addr} {od4 an4 : Option Addr} {sl4 : Array (Option Value)} {oc4 kV4 dc4 pm4 cd4 ct4 : Value}
    (a4 : PySem.W.nsIn K mainGlobals "rises" = some (some (.ref f4)))
    (l4 : K.lookup f4 = some ⟨oc4, od4, .func (PySem.W.fnOf "rises" "rises" (defArgs s_rises) (defBody s_rises) (defScope s_rises) .none kV4 dc4 pm4 an4 cd4 ct4), sl4⟩) (c4 : PySem.W.codeIn K cd4 "rises" = true) (k4 : PySem.W.keepIn K (.ref f4) = true)
    {f5 : Addr} {od5 an5 : Option Addr} {sl5 : Array (Option Value)} {oc5 kV5 dc5 pm5 cd5 ct5 : Value}
    (a5 : PySem.W.nsIn K mainGlobals "is_rule" = some (some (.ref f5)))
    (l5 : K.lookup f5 = some ⟨oc5, od5, .func (PySem.W.fnOf "is_rule" "is_rule" (defArgs s_is_rule) (defBody s_is_rule) (defScope s_is_rule) .none kV5 dc5 pm5 an5 cd5 ct5), sl5⟩) (c5 : PySem.W.codeIn K cd5 "is_rule" = true) (k5 : PySem.W.keepIn K (.ref f5) = true)
    {f6 : Addr} {od6 an6 : Option Addr} {sl6 : Array (Option Value)} {oc6 kV6 dc6 pm6 cd6 ct6 : Value}
    (a6 : PySem.W.nsIn K mainGlobals "is_part" = some (some (.ref f6)))
    (l6 : K.lookup f6 = some ⟨oc6, od6, .func (PySem.W.fnOf "is_part" "is_part" (defArgs s_is_part) (defBody s_is_part) (defScope s_is_part) .none kV6 dc6 pm6 an6 cd6 ct6), sl6⟩) (c6 : PySem.W.codeIn K cd6 "is_part" = true) (k6 : PySem.W.keepIn K (.ref f6) = true)
    {f7 : Addr} {od7 an7 : Option Addr} {sl7 : Array (Option Value)} {oc7 kV7 dc7 pm7 cd7 ct7 : Value}
    (a7 : PySem.W.nsIn K mainGlobals "are_ties" = some (some (.ref f7)))
    (l7 : K.lookup f7 = some ⟨oc7, od7, .func (PySem.W.fnOf "are_ties" "are_ties" (defArgs s_are_ties) (defBody s_are_ties) (defScope s_are_ties) .none kV7 dc7 pm7 an7 cd7 ct7), sl7⟩) (c7 : PySem.W.codeIn K cd7 "are_ties" = true) (k7 : PySem.W.keepIn K (.ref f7) = true)
    {f8 : Addr} {od8 an8 : Option Addr} {sl8 : Array (Option Value)} {oc8 kV8 dc8 pm8 cd8 ct8 : Value}
    (a8 : PySem.W.nsIn K mainGlobals "is_tie" = some (some (.ref f8)))
    (l8 : K.lookup f8 = some ⟨oc8, od8, .func (PySem.W.fnOf "is_tie" "is_tie" (defArgs s_is_tie) (defBody s_is_tie) (defScope s_is_tie) .none kV8 dc8 pm8 an8 cd8 ct8), sl8⟩) (c8 : PySem.W.codeIn K cd8 "is_tie" = true) (k8 : PySem.W.keepIn K (.ref f8) = true)
    {f9 : Addr} {od9 an9 : Option Addr} {sl9 : Array (Option Value)} {oc9 kV9 dc9 pm9 cd9 ct9 : Value}
    (a9 : PySem.W.nsIn K mainGlobals "seen_by" = some (some (.ref f9)))
    (l9 : K.lookup f9 = some ⟨oc9, od9, .func (PySem.W.fnOf "seen_by" "seen_by" (defArgs s_seen_by) (defBody s_seen_by) (defScope s_seen_by) .none kV9 dc9 pm9 an9 cd9 ct9), sl9⟩) (c9 : PySem.W.codeIn K cd9 "seen_by" = true) (k9 : PySem.W.keepIn K (.ref f9) = true)
    {f10 : Addr} {od10 an10 : Option Addr} {sl10 : Array (Option Value)} {oc10 kV10 dc10 pm10 cd10 ct10 : Value}
    (a10 : PySem.W.nsIn K mainGlobals "told_of" = some (some (.ref f10)))
    (l10 : K.lookup f10 = some ⟨oc10, od10, .func (PySem.W.fnOf "told_of" "told_of" (defArgs s_told_of) (defBody s_told_of) (defScope s_told_of) .none kV10 dc10 pm10 an10 cd10 ct10), sl10⟩) (c10 : PySem.W.codeIn K cd10 "told_of" = true) (k10 : PySem.W.keepIn K (.ref f10) = true)
    {f11 : Addr} {od11 an11 : Option Addr} {sl11 : Array (Option Value)} {oc11 kV11 dc11 pm11 cd11 ct11 : Value}
    (a11 : PySem.W.nsIn K mainGlobals "weighed" = some (some (.ref f11)))
    (l11 : K.lookup f11 = some ⟨oc11, od11, .func (PySem.W.fnOf "weighed" "weighed" (defArgs s_weighed) (defBody s_weighed) (defScope s_weighed) .none kV11 dc11 pm11 an11 cd11 ct11), sl11⟩) (c11 : PySem.W.codeIn K cd11 "weighed" = true) (k11 : PySem.W.keepIn K (.ref f11) = true)
    {f12 : Addr} {od12 an12 : Option Addr} {sl12 : Array (Option Value)} {oc12 kV12 dc12 pm12 cd12 ct12 : Value}
    (a12 : PySem.W.nsIn K mainGlobals "least_free" = some (some (.ref f12)))
    (l12 : K.lookup f12 = some ⟨oc12, od12, .func (PySem.W.fnOf "least_free" "least_free" (defArgs s_least_free) (defBody s_least_free) (defScope s_least_free) .none kV12 dc12 pm12 an12 cd12 ct12), sl12⟩) (c12 : PySem.W.codeIn K cd12 "least_free" = true) (k12 : PySem.W.keepIn K (.ref f12) = true)
    {f13 : Addr} {od13 an13 : Option Addr} {sl13 : Array (Option Value)} {oc13 kV13 dc13 pm13 cd13 ct13 : Value}
    (a13 : PySem.W.nsIn K mainGlobals "lot_below" = some (some (.ref f13)))
    (l13 : K.lookup f13 = some ⟨oc13, od13, .func (PySem.W.fnOf "lot_below" "lot_below" (defArgs s_lot_below) (defBody s_lot_below) (defScope s_lot_below) .none kV13 dc13 pm13 an13 cd13 ct13), sl13⟩) (c13 : PySem.W.codeIn K cd13 "lot_below" = true) (k13 : PySem.W.keepIn K (.ref f13) = true)
    {f14 : Addr} {od14 an14 : Option Addr} {sl14 : Array (Option Value)} {oc14 kV14 dc14 pm14 cd14 ct14 : Value}
    (a14 : PySem.W.nsIn K mainGlobals "told_below" = some (some (.ref f14)))
    (l14 : K.lookup f14 = some ⟨oc14, od14, .func (PySem.W.fnOf "told_below" "told_below" (defArgs s_told_below) (defBody s_told_below) (defScope s_told_below) .none kV14 dc14 pm14 an14 cd14 ct14), sl14⟩) (c14 : PySem.W.codeIn K cd14 "told_below" = true) (k14 : PySem.W.keepIn K (.ref f14) = true)
    {f15 : Addr} {od15 an15 : Option Addr} {sl15 : Array (Option Value)} {oc15 kV15 dc15 pm15 cd15 ct15 : Value}
    (a15 : PySem.W.nsIn K mainGlobals "told_at" = some (some (.ref f15)))
    (l15 : K.lookup f15 = some ⟨oc15, od15, .func (PySem.W.fnOf "told_at" "told_at" (defArgs s_told_at) (defBody s_told_at) (defScope s_told_at) .none kV15 dc15 pm15 an15 cd15 ct15), sl15⟩) (c15 : PySem.W.codeIn K cd15 "told_at" = true) (k15 : PySem.W.keepIn K (.ref f15) = true)
    {f16 : Addr} {od16 an16 : Option Addr} {sl16 : Array (Option Value)} {oc16 kV16 dc16 pm16 cd16 ct16 : Value}
    (a16 : PySem.W.nsIn K mainGlobals "turned" = some (some (.ref f16)))
    (l16 : K.lookup f16 = some ⟨oc16, od16, .func (PySem.W.fnOf "turned" "turned" (defArgs s_turned) (defBody s_turned) (defScope s_turned) .none kV16 dc16 pm16 an16 cd16 ct16), sl16⟩) (c16 : PySem.W.codeIn K cd16 "turned" = true) (k16 : PySem.W.keepIn K (.ref f16) = true)
    {f17 : Addr} {od17 an17 : Option Addr} {sl17 : Array (Option Value)} {oc17 kV17 dc17 pm17 cd17 ct17 : Value}
    (a17 : PySem.W.nsIn K mainGlobals "beaten" = some (some (.ref f17)))
    (l17 : K.lookup f17 = some ⟨oc17, od17, .func (PySem.W.fnOf "beaten" "beaten" (defArgs s_beaten) (defBody s_beaten) (defScope s_beaten) .none kV17 dc17 pm17 an17 cd17 ct17), sl17⟩) (c17 : PySem.W.codeIn K cd17 "beaten" = true) (k17 : PySem.W.keepIn K (.ref f17) = true)
    {f18 : Addr} {od18 an18 : Option Addr} {sl18 : Array (Option Value)} {oc18 kV18 dc18 pm18 cd18 ct18 : Value}
    (a18 : PySem.W.nsIn K mainGlobals "rest_by_beats" = some (some (.ref f18)))
    (l18 : K.lookup f18 = some ⟨oc18, od18, .func (PySem.W.fnOf "rest_by_beats" "rest_by_beats" (defArgs s_rest_by_beats) (defBody s_rest_by_beats) (defScope s_rest_by_beats) .none kV18 dc18 pm18 an18 cd18 ct18), sl18⟩) (c18 : PySem.W.codeIn K cd18 "rest_by_beats" = true) (k18 : PySem.W.keepIn K (.ref f18) = true)
    {f19 : Addr} {od19 an19 : Option Addr} {sl19 : Array (Option Value)} {oc19 kV19 dc19 pm19 cd19 ct19 : Value}
    (a19 : PySem.W.findIn K (.ref CNoPerson) "__init__" = some (some (.ref f19))) (i19 : PySem.W.isFn K (.ref f19) = true)
    (l19 : K.lookup f19 = some ⟨oc19, od19, .func (PySem.W.fnOf "__init__" "NoPerson.__init__" (defArgs s_NoPerson_init) (defBody s_NoPerson_init) (defScope s_NoPerson_init) .none kV19 dc19 pm19 an19 cd19 ct19), sl19⟩) (c19 : PySem.W.codeIn K cd19 "NoPerson.__init__" = true) (k19 : PySem.W.keepIn K (.ref f19) = true)
    {f20 : Addr} {od20 an20 : Option Addr} {sl20 : Array (Option Value)} {oc20 kV20 dc20 pm20 cd20 ct20 : Value}
    (a20 : PySem.W.findIn K (.ref CHall) "__init__" = some (some (.ref f20))) (i20 : PySem.W.isFn K (.ref f20) = true)
    (l20 : K.lookup f20 = some ⟨oc20, od20, .func (PySem.W.fnOf "__init__" "Hall.__init__" (defArgs s_Hall_init) (defBody s_Hall_init) (defScope s_Hall_init) .none kV20 dc20 pm20 an20 cd20 ct20), sl20⟩) (c20 : PySem.W.codeIn K cd20 "Hall.__init__" = true) (k20 : PySem.W.keepIn K (.ref f20) = true)
    {f21 : Addr} {od21 an21 : Option Addr} {sl21 : Array (Option Value)} {oc21 kV21 dc21 pm21 cd21 ct21 : Value}
    (a21 : PySem.W.findIn K (.ref CHall) "must_have" = some (some (.ref f21))) (i21 : PySem.W.isFn K (.ref f21) = true)
    (l21 : K.lookup f21 = some ⟨oc21, od21, .func (PySem.W.fnOf "must_have" "Hall.must_have" (defArgs s_Hall_must_have) (defBody s_Hall_must_have) (defScope s_Hall_must_have) .none kV21 dc21 pm21 an21 cd21 ct21), sl21⟩) (c21 : PySem.W.codeIn K cd21 "Hall.must_have" = true) (k21 : PySem.W.keepIn K (.ref f21) = true)
    {f22 : Addr} {od22 an22 : Option Addr} {sl22 : Array (Option Value)} {oc22 kV22 dc22 pm22 cd22 ct22 : Value}
    (a22 : PySem.W.findIn K (.ref CHall) "rules" = some (some (.ref f22))) (i22 : PySem.W.isFn K (.ref f22) = true)
    (l22 : K.lookup f22 = some ⟨oc22, od22, .func (PySem.W.fnOf "rules" "Hall.rules" (defArgs s_Hall_rules) (defBody s_Hall_rules) (defScope s_Hall_rules) .none kV22 dc22 pm22 an22 cd22 ct22), sl22⟩) (c22 : PySem.W.codeIn K cd22 "Hall.rules" = true) (k22 : PySem.W.keepIn K (.ref f22) = true)
    {f23 : Addr} {od23 an23 : Option Addr} {sl23 : Array (Option Value)} {oc23 kV23 dc23 pm23 cd23 ct23 : Value}
    (a23 : PySem.W.findIn K (.ref CHall) "rule" = some (some (.ref f23))) (i23 : PySem.W.isFn K (.ref f23) = true)
    (l23 : K.lookup f23 = some ⟨oc23, od23, .func (PySem.W.fnOf "rule" "Hall.rule" (defArgs s_Hall_rule) (defBody s_Hall_rule) (defScope s_Hall_rule) .none kV23 dc23 pm23 an23 cd23 ct23), sl23⟩) (c23 : PySem.W.codeIn K cd23 "Hall.rule" = true) (k23 : PySem.W.keepIn K (.ref f23) = true)
    {f24 : Addr} {od24 an24 : Option Addr} {sl24 : Array (Option Value)} {oc24 kV24 dc24 pm24 cd24 ct24 : Value}
    (a24 : PySem.W.findIn K (.ref CHall) "sees" = some (some (.ref f24))) (i24 : PySem.W.isFn K (.ref f24) = true)
    (l24 : K.lookup f24 = some ⟨oc24, od24, .func (PySem.W.fnOf "sees" "Hall.sees" (defArgs s_Hall_sees) (defBody s_Hall_sees) (defScope s_Hall_sees) .none kV24 dc24 pm24 an24 cd24 ct24), sl24⟩) (c24 : PySem.W.codeIn K cd24 "Hall.sees" = true) (k24 : PySem.W.keepIn K (.ref f24) = true)
    {f25 : Addr} {od25 an25 : Option Addr} {sl25 : Array (Option Value)} {oc25 kV25 dc25 pm25 cd25 ct25 : Value}
    (a25 : PySem.W.findIn K (.ref CHall) "seers" = some (some (.ref f25))) (i25 : PySem.W.isFn K (.ref f25) = true)
    (l25 : K.lookup f25 = some ⟨oc25, od25, .func (PySem.W.fnOf "seers" "Hall.seers" (defArgs s_Hall_seers) (defBody s_Hall_seers) (defScope s_Hall_seers) .none kV25 dc25 pm25 an25 cd25 ct25), sl25⟩) (c25 : PySem.W.codeIn K cd25 "Hall.seers" = true) (k25 : PySem.W.keepIn K (.ref f25) = true)
    {f26 : Addr} {od26 an26 : Option Addr} {sl26 : Array (Option Value)} {oc26 kV26 dc26 pm26 cd26 ct26 : Value}
    (a26 : PySem.W.findIn K (.ref CHall) "__eq__" = some (some (.ref f26))) (i26 : PySem.W.isFn K (.ref f26) = true)
    (l26 : K.lookup f26 = some ⟨oc26, od26, .func (PySem.W.fnOf "__eq__" "Hall.__eq__" (defArgs s_Hall_eq) (defBody s_Hall_eq) (defScope s_Hall_eq) .none kV26 dc26 pm26 an26 cd26 ct26), sl26⟩) (c26 : PySem.W.codeIn K cd26 "Hall.__eq__" = true) (k26 : PySem.W.keepIn K (.ref f26) = true)
    {f27 : Addr} {od27 an27 : Option Addr} {sl27 : Array (Option Value)} {oc27 kV27 dc27 pm27 cd27 ct27 : Value}
    (a27 : PySem.W.findIn K (.ref CHall) "__len__" = some (some (.ref f27))) (i27 : PySem.W.isFn K (.ref f27) = true)
    (l27 : K.lookup f27 = some ⟨oc27, od27, .func (PySem.W.fnOf "__len__" "Hall.__len__" (defArgs s_Hall_len) (defBody s_Hall_len) (defScope s_Hall_len) .none kV27 dc27 pm27 an27 cd27 ct27), sl27⟩) (c27 : PySem.W.codeIn K cd27 "Hall.__len__" = true) (k27 : PySem.W.keepIn K (.ref f27) = true)
    {f28 : Addr} {od28 an28 : Option Addr} {sl28 : Array (Option Value)} {oc28 kV28 dc28 pm28 cd28 ct28 : Value}
    (a28 : PySem.W.findIn K (.ref CHall) "__repr__" = some (some (.ref f28))) (i28 : PySem.W.isFn K (.ref f28) = true)
    (l28 : K.lookup f28 = some ⟨oc28, od28, .func (PySem.W.fnOf "__repr__" "Hall.__repr__" (defArgs s_Hall_repr) (defBody s_Hall_repr) (defScope s_Hall_repr) .none kV28 dc28 pm28 an28 cd28 ct28), sl28⟩) (c28 : PySem.W.codeIn K cd28 "Hall.__repr__" = true) (k28 : PySem.W.keepIn K (.ref f28) = true)
    {f29 : Addr} {od29 an29 : Option Addr} {sl29 : Array (Option Value)} {oc29 kV29 dc29 pm29 cd29 ct29 : Value}
    (a29 : PySem.W.nsIn K mainGlobals "with_rule" = some (some (.ref f29)))
    (l29 : K.lookup f29 = some ⟨oc29, od29, .func (PySem.W.fnOf "with_rule" "with_rule" (defArgs s_with_rule) (defBody s_with_rule) (defScope s_with_rule) .none kV29 dc29 pm29 an29 cd29 ct29), sl29⟩) (c29 : PySem.W.codeIn K cd29 "with_rule" = true) (k29 : PySem.W.keepIn K (.ref f29) = true)
    {f30 : Addr} {od30 an30 : Option Addr} {sl30 : Array (Option Value)} {oc30 kV30 dc30 pm30 cd30 ct30 : Value}
    (a30 : PySem.W.nsIn K mainGlobals "shown_by" = some (some (.ref f30)))
    (l30 : K.lookup f30 = some ⟨oc30, od30, .func (PySem.W.fnOf "shown_by" "shown_by" (defArgs s_shown_by) (defBody s_shown_by) (defScope s_shown_by) .none kV30 dc30 pm30 an30 cd30 ct30), sl30⟩) (c30 : PySem.W.codeIn K cd30 "shown_by" = true) (k30 : PySem.W.keepIn K (.ref f30) = true)
    {f31 : Addr} {od31 an31 : Option Addr} {sl31 : Array (Option Value)} {oc31 kV31 dc31 pm31 cd31 ct31 : Value}
    (a31 : PySem.W.findIn K (.ref CHouse) "__init__" = some (some (.ref f31))) (i31 : PySem.W.isFn K (.ref f31) = true)
    (l31 : K.lookup f31 = some ⟨oc31, od31, .func (PySem.W.fnOf "__init__" "House.__init__" (defArgs s_House_init) (defBody s_House_init) (defScope s_House_init) .none kV31 dc31 pm31 an31 cd31 ct31), sl31⟩) (c31 : PySem.W.codeIn K cd31 "House.__init__" = true) (k31 : PySem.W.keepIn K (.ref f31) = true)
    {f32 : Addr} {od32 an32 : Option Addr} {sl32 : Array (Option Value)} {oc32 kV32 dc32 pm32 cd32 ct32 : Value}
    (a32 : PySem.W.findIn K (.ref CHouse) "state" = some (some (.ref f32))) (i32 : PySem.W.isFn K (.ref f32) = true)
    (l32 : K.lookup f32 = some ⟨oc32, od32, .func (PySem.W.fnOf "state" "House.state" (defArgs s_House_state) (defBody s_House_state) (defScope s_House_state) .none kV32 dc32 pm32 an32 cd32 ct32), sl32⟩) (c32 : PySem.W.codeIn K cd32 "House.state" = true) (k32 : PySem.W.keepIn K (.ref f32) = true)
    {f33 : Addr} {od33 an33 : Option Addr} {sl33 : Array (Option Value)} {oc33 kV33 dc33 pm33 cd33 ct33 : Value}
    (a33 : PySem.W.findIn K (.ref CHouse) "remember" = some (some (.ref f33))) (i33 : PySem.W.isFn K (.ref f33) = true)
    (l33 : K.lookup f33 = some ⟨oc33, od33, .func (PySem.W.fnOf "remember" "House.remember" (defArgs s_House_remember) (defBody s_House_remember) (defScope s_House_remember) .none kV33 dc33 pm33 an33 cd33 ct33), sl33⟩) (c33 : PySem.W.codeIn K cd33 "House.remember" = true) (k33 : PySem.W.keepIn K (.ref f33) = true)
    {f34 : Addr} {od34 an34 : Option Addr} {sl34 : Array (Option Value)} {oc34 kV34 dc34 pm34 cd34 ct34 : Value}
    (a34 : PySem.W.findIn K (.ref CHouse) "move" = some (some (.ref f34))) (i34 : PySem.W.isFn K (.ref f34) = true)
    (l34 : K.lookup f34 = some ⟨oc34, od34, .func (PySem.W.fnOf "move" "House.move" (defArgs s_House_move) (defBody s_House_move) (defScope s_House_move) .none kV34 dc34 pm34 an34 cd34 ct34), sl34⟩) (c34 : PySem.W.codeIn K cd34 "House.move" = true) (k34 : PySem.W.keepIn K (.ref f34) = true)
    {f35 : Addr} {od35 an35 : Option Addr} {sl35 : Array (Option Value)} {oc35 kV35 dc35 pm35 cd35 ct35 : Value}
    (a35 : PySem.W.findIn K (.ref CHouse) "turn" = some (some (.ref f35))) (i35 : PySem.W.isFn K (.ref f35) = true)
    (l35 : K.lookup f35 = some ⟨oc35, od35, .func (PySem.W.fnOf "turn" "House.turn" (defArgs s_House_turn) (defBody s_House_turn) (defScope s_House_turn) .none kV35 dc35 pm35 an35 cd35 ct35), sl35⟩) (c35 : PySem.W.codeIn K cd35 "House.turn" = true) (k35 : PySem.W.keepIn K (.ref f35) = true)
    {f36 tD36 : Addr} {oD36 : Option Addr} {iD36 : Array Value} {nD36 : Nat} {zD36 : Array (Option Value)} {od36 an36 : Option Addr} {sl36 : Array (Option Value)} {oc36 kV36 dc36 pm36 cd36 ct36 : Value}
    (a36 : PySem.W.findIn K (.ref CHouse) "beat" = some (some (.ref f36))) (i36 : PySem.W.isFn K (.ref f36) = true)
    (l36 : K.lookup f36 = some ⟨oc36, od36, .func (PySem.W.fnOf "beat" "House.beat" (defArgs s_House_beat) (defBody s_House_beat) (defScope s_House_beat) (.ref tD36) kV36 dc36 pm36 an36 cd36 ct36), sl36⟩) (c36 : PySem.W.codeIn K cd36 "House.beat" = true) (k36 : PySem.W.keepIn K (.ref f36) = true)
    (ld36 : K.lookup tD36 = some ⟨.type "tuple", oD36, .seq iD36 nD36, zD36⟩) (vd36 : Vals [V.int 1] iD36.toList)
    {f37 : Addr} {od37 an37 : Option Addr} {sl37 : Array (Option Value)} {oc37 kV37 dc37 pm37 cd37 ct37 : Value}
    (a37 : PySem.W.findIn K (.ref CHouse) "rest" = some (some (.ref f37))) (i37 : PySem.W.isFn K (.ref f37) = true)
    (l37 : K.lookup f37 = some ⟨oc37, od37, .func (PySem.W.fnOf "rest" "House.rest" (defArgs s_House_rest) (defBody s_House_rest) (defScope s_House_rest) .none kV37 dc37 pm37 an37 cd37 ct37), sl37⟩) (c37 : PySem.W.codeIn K cd37 "House.rest" = true) (k37 : PySem.W.keepIn K (.ref f37) = true)
    {f38 : Addr} {od38 an38 : Option Addr} {sl38 : Array (Option Value)} {oc38 kV38 dc38 pm38 cd38 ct38 : Value}
    (a38 : PySem.W.findIn K (.ref CHouse) "show" = some (some (.ref f38))) (i38 : PySem.W.isFn K (.ref f38) = true)
    (l38 : K.lookup f38 = some ⟨oc38, od38, .func (PySem.W.fnOf "show" "House.show" (defArgs s_House_show) (defBody s_House_show) (defScope s_House_show) .none kV38 dc38 pm38 an38 cd38 ct38), sl38⟩) (c38 : PySem.W.codeIn K cd38 "House.show" = true) (k38 : PySem.W.keepIn K (.ref f38) = true)
    {f39 : Addr} {od39 an39 : Option Addr} {sl39 : Array (Option Value)} {oc39 kV39 dc39 pm39 cd39 ct39 : Value}
    (a39 : PySem.W.findIn K (.ref CHouse) "hold" = some (some (.ref f39))) (i39 : PySem.W.isFn K (.ref f39) = true)
    (l39 : K.lookup f39 = some ⟨oc39, od39, .func (PySem.W.fnOf "hold" "House.hold" (defArgs s_House_hold) (defBody s_House_hold) (defScope s_House_hold) .none kV39 dc39 pm39 an39 cd39 ct39), sl39⟩) (c39 : PySem.W.codeIn K cd39 "House.hold" = true) (k39 : PySem.W.keepIn K (.ref f39) = true)
    {f40 : Addr} {od40 an40 : Option Addr} {sl40 : Array (Option Value)} {oc40 kV40 dc40 pm40 cd40 ct40 : Value}
    (a40 : PySem.W.findIn K (.ref CHouse) "loose" = some (some (.ref f40))) (i40 : PySem.W.isFn K (.ref f40) = true)
    (l40 : K.lookup f40 = some ⟨oc40, od40, .func (PySem.W.fnOf "loose" "House.loose" (defArgs s_House_loose) (defBody s_House_loose) (defScope s_House_loose) .none kV40 dc40 pm40 an40 cd40 ct40), sl40⟩) (c40 : PySem.W.codeIn K cd40 "House.loose" = true) (k40 : PySem.W.keepIn K (.ref f40) = true)
    {f41 : Addr} {od41 an41 : Option Addr} {sl41 : Array (Option Value)} {oc41 kV41 dc41 pm41 cd41 ct41 : Value}
    (a41 : PySem.W.findIn K (.ref CHouse) "rule" = some (some (.ref f41))) (i41 : PySem.W.isFn K (.ref f41) = true)
    (l41 : K.lookup f41 = some ⟨oc41, od41, .func (PySem.W.fnOf "rule" "House.rule" (defArgs s_House_rule) (defBody s_House_rule) (defScope s_House_rule) .none kV41 dc41 pm41 an41 cd41 ct41), sl41⟩) (c41 : PySem.W.codeIn K cd41 "House.rule" = true) (k41 : PySem.W.keepIn K (.ref f41) = true)
    {f42 : Addr} {od42 an42 : Option Addr} {sl42 : Array (Option Value)} {oc42 kV42 dc42 pm42 cd42 ct42 : Value}
    (a42 : PySem.W.findIn K (.ref CHouse) "undo" = some (some (.ref f42))) (i42 : PySem.W.isFn K (.ref f42) = true)
    (l42 : K.lookup f42 = some ⟨oc42, od42, .func (PySem.W.fnOf "undo" "House.undo" (defArgs s_House_undo) (defBody s_House_undo) (defScope s_House_undo) .none kV42 dc42 pm42 an42 cd42 ct42), sl42⟩) (c42 : PySem.W.codeIn K cd42 "House.undo" = true) (k42 : PySem.W.keepIn K (.ref f42) = true)
    {f43 : Addr} {od43 an43 : Option Addr} {sl43 : Array (Option Value)} {oc43 kV43 dc43 pm43 cd43 ct43 : Value}
    (a43 : PySem.W.findIn K (.ref CHouse) "done" = some (some (.ref f43))) (i43 : PySem.W.isFn K (.ref f43) = true)
    (l43 : K.lookup f43 = some ⟨oc43, od43, .func (PySem.W.fnOf "done" "House.done" (defArgs s_House_done) (defBody s_House_done) (defScope s_House_done) .none kV43 dc43 pm43 an43 cd43 ct43), sl43⟩) (c43 : PySem.W.codeIn K cd43 "House.done" = true) (k43 : PySem.W.keepIn K (.ref f43) = true)
    {f44 : Addr} {od44 an44 : Option Addr} {sl44 : Array (Option Value)} {oc44 kV44 dc44 pm44 cd44 ct44 : Value}
    (a44 : PySem.W.findIn K (.ref CHouse) "take_over" = some (some (.ref f44))) (i44 : PySem.W.isFn K (.ref f44) = true)
    (l44 : K.lookup f44 = some ⟨oc44, od44, .func (PySem.W.fnOf "take_over" "House.take_over" (defArgs s_House_take_over) (defBody s_House_take_over) (defScope s_House_take_over) .none kV44 dc44 pm44 an44 cd44 ct44), sl44⟩) (c44 : PySem.W.codeIn K cd44 "House.take_over" = true) (k44 : PySem.W.keepIn K (.ref f44) = true)
    {f45 : Addr} {od45 an45 : Option Addr} {sl45 : Array (Option Value)} {oc45 kV45 dc45 pm45 cd45 ct45 : Value}
    (a45 : PySem.W.findIn K (.ref CHouse) "hall" = some (some (.ref f45))) (i45 : PySem.W.isFn K (.ref f45) = true)
    (l45 : K.lookup f45 = some ⟨oc45, od45, .func (PySem.W.fnOf "hall" "House.hall" (defArgs s_House_hall) (defBody s_House_hall) (defScope s_House_hall) .none kV45 dc45 pm45 an45 cd45 ct45), sl45⟩) (c45 : PySem.W.codeIn K cd45 "House.hall" = true) (k45 : PySem.W.keepIn K (.ref f45) = true)
    {f46 : Addr} {od46 an46 : Option Addr} {sl46 : Array (Option Value)} {oc46 kV46 dc46 pm46 cd46 ct46 : Value}
    (a46 : PySem.W.findIn K (.ref CHouse) "standing" = some (some (.ref f46))) (i46 : PySem.W.isFn K (.ref f46) = true)
    (l46 : K.lookup f46 = some ⟨oc46, od46, .func (PySem.W.fnOf "standing" "House.standing" (defArgs s_House_standing) (defBody s_House_standing) (defScope s_House_standing) .none kV46 dc46 pm46 an46 cd46 ct46), sl46⟩) (c46 : PySem.W.codeIn K cd46 "House.standing" = true) (k46 : PySem.W.keepIn K (.ref f46) = true)
    {f47 : Addr} {od47 an47 : Option Addr} {sl47 : Array (Option Value)} {oc47 kV47 dc47 pm47 cd47 ct47 : Value}
    (a47 : PySem.W.findIn K (.ref CHouse) "held" = some (some (.ref f47))) (i47 : PySem.W.isFn K (.ref f47) = true)
    (l47 : K.lookup f47 = some ⟨oc47, od47, .func (PySem.W.fnOf "held" "House.held" (defArgs s_House_held) (defBody s_House_held) (defScope s_House_held) .none kV47 dc47 pm47 an47 cd47 ct47), sl47⟩) (c47 : PySem.W.codeIn K cd47 "House.held" = true) (k47 : PySem.W.keepIn K (.ref f47) = true)
    {f48 : Addr} {od48 an48 : Option Addr} {sl48 : Array (Option Value)} {oc48 kV48 dc48 pm48 cd48 ct48 : Value}
    (a48 : PySem.W.findIn K (.ref CHouse) "turns" = some (some (.ref f48))) (i48 : PySem.W.isFn K (.ref f48) = true)
    (l48 : K.lookup f48 = some ⟨oc48, od48, .func (PySem.W.fnOf "turns" "House.turns" (defArgs s_House_turns) (defBody s_House_turns) (defScope s_House_turns) .none kV48 dc48 pm48 an48 cd48 ct48), sl48⟩) (c48 : PySem.W.codeIn K cd48 "House.turns" = true) (k48 : PySem.W.keepIn K (.ref f48) = true)
    {f49 : Addr} {od49 an49 : Option Addr} {sl49 : Array (Option Value)} {oc49 kV49 dc49 pm49 cd49 ct49 : Value}
    (a49 : PySem.W.findIn K (.ref CHouse) "firm" = some (some (.ref f49))) (i49 : PySem.W.isFn K (.ref f49) = true)
    (l49 : K.lookup f49 = some ⟨oc49, od49, .func (PySem.W.fnOf "firm" "House.firm" (defArgs s_House_firm) (defBody s_House_firm) (defScope s_House_firm) .none kV49 dc49 pm49 an49 cd49 ct49), sl49⟩) (c49 : PySem.W.codeIn K cd49 "House.firm" = true) (k49 : PySem.W.keepIn K (.ref f49) = true)
    {f50 : Addr} {od50 an50 : Option Addr} {sl50 : Array (Option Value)} {oc50 kV50 dc50 pm50 cd50 ct50 : Value}
    (a50 : PySem.W.findIn K (.ref CHouse) "line" = some (some (.ref f50))) (i50 : PySem.W.isFn K (.ref f50) = true)
    (l50 : K.lookup f50 = some ⟨oc50, od50, .func (PySem.W.fnOf "line" "House.line" (defArgs s_House_line) (defBody s_House_line) (defScope s_House_line) .none kV50 dc50 pm50 an50 cd50 ct50), sl50⟩) (c50 : PySem.W.codeIn K cd50 "House.line" = true) (k50 : PySem.W.keepIn K (.ref f50) = true)
    {f51 : Addr} {od51 an51 : Option Addr} {sl51 : Array (Option Value)} {oc51 kV51 dc51 pm51 cd51 ct51 : Value}
    (a51 : PySem.W.findIn K (.ref CHouse) "deeds" = some (some (.ref f51))) (i51 : PySem.W.isFn K (.ref f51) = true)
    (l51 : K.lookup f51 = some ⟨oc51, od51, .func (PySem.W.fnOf "deeds" "House.deeds" (defArgs s_House_deeds) (defBody s_House_deeds) (defScope s_House_deeds) .none kV51 dc51 pm51 an51 cd51 ct51), sl51⟩) (c51 : PySem.W.codeIn K cd51 "House.deeds" = true) (k51 : PySem.W.keepIn K (.ref f51) = true)
    {f52 : Addr} {od52 an52 : Option Addr} {sl52 : Array (Option Value)} {oc52 kV52 dc52 pm52 cd52 ct52 : Value}
    (a52 : PySem.W.findIn K (.ref CHouse) "log" = some (some (.ref f52))) (i52 : PySem.W.isFn K (.ref f52) = true)
    (l52 : K.lookup f52 = some ⟨oc52, od52, .func (PySem.W.fnOf "log" "House.log" (defArgs s_House_log) (defBody s_House_log) (defScope s_House_log) .none kV52 dc52 pm52 an52 cd52 ct52), sl52⟩) (c52 : PySem.W.codeIn K cd52 "House.log" = true) (k52 : PySem.W.keepIn K (.ref f52) = true)
    {f53 : Addr} {od53 an53 : Option Addr} {sl53 : Array (Option Value)} {oc53 kV53 dc53 pm53 cd53 ct53 : Value}
    (a53 : PySem.W.findIn K (.ref CHouse) "twin" = some (some (.ref f53))) (i53 : PySem.W.isFn K (.ref f53) = true)
    (l53 : K.lookup f53 = some ⟨oc53, od53, .func (PySem.W.fnOf "twin" "House.twin" (defArgs s_House_twin) (defBody s_House_twin) (defScope s_House_twin) .none kV53 dc53 pm53 an53 cd53 ct53), sl53⟩) (c53 : PySem.W.codeIn K cd53 "House.twin" = true) (k53 : PySem.W.keepIn K (.ref f53) = true)
    {f54 : Addr} {od54 an54 : Option Addr} {sl54 : Array (Option Value)} {oc54 kV54 dc54 pm54 cd54 ct54 : Value}
    (a54 : PySem.W.findIn K (.ref CHouse) "__eq__" = some (some (.ref f54))) (i54 : PySem.W.isFn K (.ref f54) = true)
    (l54 : K.lookup f54 = some ⟨oc54, od54, .func (PySem.W.fnOf "__eq__" "House.__eq__" (defArgs s_House_eq) (defBody s_House_eq) (defScope s_House_eq) .none kV54 dc54 pm54 an54 cd54 ct54), sl54⟩) (c54 : PySem.W.codeIn K cd54 "House.__eq__" = true) (k54 : PySem.W.keepIn K (.ref f54) = true)
    {f55 : Addr} {od55 an55 : Option Addr} {sl55 : Array (Option Value)} {oc55 kV55 dc55 pm55 cd55 ct55 : Value}
    (a55 : PySem.W.findIn K (.ref CHouse) "__len__" = some (some (.ref f55))) (i55 : PySem.W.isFn K (.ref f55) = true)
    (l55 : K.lookup f55 = some ⟨oc55, od55, .func (PySem.W.fnOf "__len__" "House.__len__" (defArgs s_House_len) (defBody s_House_len) (defScope s_House_len) .none kV55 dc55 pm55 an55 cd55 ct55), sl55⟩) (c55 : PySem.W.codeIn K cd55 "House.__len__" = true) (k55 : PySem.W.keepIn K (.ref f55) = true)
    {f56 : Addr} {od56 an56 : Option Addr} {sl56 : Array (Option Value)} {oc56 kV56 dc56 pm56 cd56 ct56 : Value}
    (a56 : PySem.W.nsIn K mainGlobals "_law_dip" = some (some (.ref f56)))
    (l56 : K.lookup f56 = some ⟨oc56, od56, .func (PySem.W.fnOf "_law_dip" "_law_dip" (defArgs s_dip) (defBody s_dip) (defScope s_dip) .none kV56 dc56 pm56 an56 cd56 ct56), sl56⟩) (c56 : PySem.W.codeIn K cd56 "_law_dip" = true) (k56 : PySem.W.keepIn K (.ref f56) = true)
    {f57 : Addr} {od57 an57 : Option Addr} {sl57 : Array (Option Value)} {oc57 kV57 dc57 pm57 cd57 ct57 : Value}
    (a57 : PySem.W.nsIn K mainGlobals "_law_take" = some (some (.ref f57)))
    (l57 : K.lookup f57 = some ⟨oc57, od57, .func (PySem.W.fnOf "_law_take" "_law_take" (defArgs s_take) (defBody s_take) (defScope s_take) .none kV57 dc57 pm57 an57 cd57 ct57), sl57⟩) (c57 : PySem.W.codeIn K cd57 "_law_take" = true) (k57 : PySem.W.keepIn K (.ref f57) = true)
    {f58 : Addr} {od58 an58 : Option Addr} {sl58 : Array (Option Value)} {oc58 kV58 dc58 pm58 cd58 ct58 : Value}
    (a58 : PySem.W.nsIn K mainGlobals "_law_folded" = some (some (.ref f58)))
    (l58 : K.lookup f58 = some ⟨oc58, od58, .func (PySem.W.fnOf "_law_folded" "_law_folded" (defArgs s_folded) (defBody s_folded) (defScope s_folded) .none kV58 dc58 pm58 an58 cd58 ct58), sl58⟩) (c58 : PySem.W.codeIn K cd58 "_law_folded" = true) (k58 : PySem.W.keepIn K (.ref f58) = true)
    {f59 : Addr} {od59 an59 : Option Addr} {sl59 : Array (Option Value)} {oc59 kV59 dc59 pm59 cd59 ct59 : Value}
    (a59 : PySem.W.nsIn K mainGlobals "_law_strewn" = some (some (.ref f59)))
    (l59 : K.lookup f59 = some ⟨oc59, od59, .func (PySem.W.fnOf "_law_strewn" "_law_strewn" (defArgs s_strewn) (defBody s_strewn) (defScope s_strewn) .none kV59 dc59 pm59 an59 cd59 ct59), sl59⟩) (c59 : PySem.W.codeIn K cd59 "_law_strewn" = true) (k59 : PySem.W.keepIn K (.ref f59) = true)
    {f60 : Addr} {od60 an60 : Option Addr} {sl60 : Array (Option Value)} {oc60 kV60 dc60 pm60 cd60 ct60 : Value}
    (a60 : PySem.W.nsIn K mainGlobals "_law_same" = some (some (.ref f60)))
    (l60 : K.lookup f60 = some ⟨oc60, od60, .func (PySem.W.fnOf "_law_same" "_law_same" (defArgs s_same) (defBody s_same) (defScope s_same) .none kV60 dc60 pm60 an60 cd60 ct60), sl60⟩) (c60 : PySem.W.codeIn K cd60 "_law_same" = true) (k60 : PySem.W.keepIn K (.ref f60) = true)
    {f61 : Addr} {od61 an61 : Option Addr} {sl61 : Array (Option Value)} {oc61 kV61 dc61 pm61 cd61 ct61 : Value}
    (a61 : PySem.W.nsIn K mainGlobals "_law_some" = some (some (.ref f61)))
    (l61 : K.lookup f61 = some ⟨oc61, od61, .func (PySem.W.fnOf "_law_some" "_law_some" (defArgs s_some) (defBody s_some) (defScope s_some) .none kV61 dc61 pm61 an61 cd61 ct61), sl61⟩) (c61 : PySem.W.codeIn K cd61 "_law_some" = true) (k61 : PySem.W.keepIn K (.ref f61) = true)
    {f62 : Addr} {od62 an62 : Option Addr} {sl62 : Array (Option Value)} {oc62 kV62 dc62 pm62 cd62 ct62 : Value}
    (a62 : PySem.W.nsIn K mainGlobals "_law_sum_rule" = some (some (.ref f62)))
    (l62 : K.lookup f62 = some ⟨oc62, od62, .func (PySem.W.fnOf "_law_sum_rule" "_law_sum_rule" (defArgs s_sum_rule) (defBody s_sum_rule) (defScope s_sum_rule) .none kV62 dc62 pm62 an62 cd62 ct62), sl62⟩) (c62 : PySem.W.codeIn K cd62 "_law_sum_rule" = true) (k62 : PySem.W.keepIn K (.ref f62) = true)
    {f63 : Addr} {od63 an63 : Option Addr} {sl63 : Array (Option Value)} {oc63 kV63 dc63 pm63 cd63 ct63 : Value}
    (a63 : PySem.W.nsIn K mainGlobals "_law_rule" = some (some (.ref f63)))
    (l63 : K.lookup f63 = some ⟨oc63, od63, .func (PySem.W.fnOf "_law_rule" "_law_rule" (defArgs s_rule) (defBody s_rule) (defScope s_rule) .none kV63 dc63 pm63 an63 cd63 ct63), sl63⟩) (c63 : PySem.W.codeIn K cd63 "_law_rule" = true) (k63 : PySem.W.keepIn K (.ref f63) = true)
    {f64 : Addr} {od64 an64 : Option Addr} {sl64 : Array (Option Value)} {oc64 kV64 dc64 pm64 cd64 ct64 : Value}
    (a64 : PySem.W.nsIn K mainGlobals "_law_hall" = some (some (.ref f64)))
    (l64 : K.lookup f64 = some ⟨oc64, od64, .func (PySem.W.fnOf "_law_hall" "_law_hall" (defArgs s_hall) (defBody s_hall) (defScope s_hall) .none kV64 dc64 pm64 an64 cd64 ct64), sl64⟩) (c64 : PySem.W.codeIn K cd64 "_law_hall" = true) (k64 : PySem.W.keepIn K (.ref f64) = true)
    {f65 : Addr} {od65 an65 : Option Addr} {sl65 : Array (Option Value)} {oc65 kV65 dc65 pm65 cd65 ct65 : Value}
    (a65 : PySem.W.nsIn K mainGlobals "_law_flat" = some (some (.ref f65)))
    (l65 : K.lookup f65 = some ⟨oc65, od65, .func (PySem.W.fnOf "_law_flat" "_law_flat" (defArgs s_flat) (defBody s_flat) (defScope s_flat) .none kV65 dc65 pm65 an65 cd65 ct65), sl65⟩) (c65 : PySem.W.codeIn K cd65 "_law_flat" = true) (k65 : PySem.W.keepIn K (.ref f65) = true)
    {f66 : Addr} {od66 an66 : Option Addr} {sl66 : Array (Option Value)} {oc66 kV66 dc66 pm66 cd66 ct66 : Value}
    (a66 : PySem.W.nsIn K mainGlobals "_law_shown" = some (some (.ref f66)))
    (l66 : K.lookup f66 = some ⟨oc66, od66, .func (PySem.W.fnOf "_law_shown" "_law_shown" (defArgs s_shown) (defBody s_shown) (defScope s_shown) .none kV66 dc66 pm66 an66 cd66 ct66), sl66⟩) (c66 : PySem.W.codeIn K cd66 "_law_shown" = true) (k66 : PySem.W.keepIn K (.ref f66) = true)
    {f67 : Addr} {od67 an67 : Option Addr} {sl67 : Array (Option Value)} {oc67 kV67 dc67 pm67 cd67 ct67 : Value}
    (a67 : PySem.W.nsIn K mainGlobals "_law_seen" = some (some (.ref f67)))
    (l67 : K.lookup f67 = some ⟨oc67, od67, .func (PySem.W.fnOf "_law_seen" "_law_seen" (defArgs s_seen) (defBody s_seen) (defScope s_seen) .none kV67 dc67 pm67 an67 cd67 ct67), sl67⟩) (c67 : PySem.W.codeIn K cd67 "_law_seen" = true) (k67 : PySem.W.keepIn K (.ref f67) = true)
    {f68 : Addr} {od68 an68 : Option Addr} {sl68 : Array (Option Value)} {oc68 kV68 dc68 pm68 cd68 ct68 : Value}
    (a68 : PySem.W.nsIn K mainGlobals "_law_lot" = some (some (.ref f68)))
    (l68 : K.lookup f68 = some ⟨oc68, od68, .func (PySem.W.fnOf "_law_lot" "_law_lot" (defArgs s_lot) (defBody s_lot) (defScope s_lot) .none kV68 dc68 pm68 an68 cd68 ct68), sl68⟩) (c68 : PySem.W.codeIn K cd68 "_law_lot" = true) (k68 : PySem.W.keepIn K (.ref f68) = true)
    {f69 : Addr} {od69 an69 : Option Addr} {sl69 : Array (Option Value)} {oc69 kV69 dc69 pm69 cd69 ct69 : Value}
    (a69 : PySem.W.nsIn K mainGlobals "_law_tells" = some (some (.ref f69)))
    (l69 : K.lookup f69 = some ⟨oc69, od69, .func (PySem.W.fnOf "_law_tells" "_law_tells" (defArgs s_tells) (defBody s_tells) (defScope s_tells) .none kV69 dc69 pm69 an69 cd69 ct69), sl69⟩) (c69 : PySem.W.codeIn K cd69 "_law_tells" = true) (k69 : PySem.W.keepIn K (.ref f69) = true)
    {f70 : Addr} {od70 an70 : Option Addr} {sl70 : Array (Option Value)} {oc70 kV70 dc70 pm70 cd70 ct70 : Value}
    (a70 : PySem.W.nsIn K mainGlobals "_law_turned" = some (some (.ref f70)))
    (l70 : K.lookup f70 = some ⟨oc70, od70, .func (PySem.W.fnOf "_law_turned" "_law_turned" (defArgs s_law_turned) (defBody s_law_turned) (defScope s_law_turned) .none kV70 dc70 pm70 an70 cd70 ct70), sl70⟩) (c70 : PySem.W.codeIn K cd70 "_law_turned" = true) (k70 : PySem.W.keepIn K (.ref f70) = true)
    {f71 : Addr} {od71 an71 : Option Addr} {sl71 : Array (Option Value)} {oc71 kV71 dc71 pm71 cd71 ct71 : Value}
    (a71 : PySem.W.nsIn K mainGlobals "_law_restless" = some (some (.ref f71)))
    (l71 : K.lookup f71 = some ⟨oc71, od71, .func (PySem.W.fnOf "_law_restless" "_law_restless" (defArgs s_restless) (defBody s_restless) (defScope s_restless) .none kV71 dc71 pm71 an71 cd71 ct71), sl71⟩) (c71 : PySem.W.codeIn K cd71 "_law_restless" = true) (k71 : PySem.W.keepIn K (.ref f71) = true)
    {f72 : Addr} {od72 an72 : Option Addr} {sl72 : Array (Option Value)} {oc72 kV72 dc72 pm72 cd72 ct72 : Value}
    (a72 : PySem.W.nsIn K mainGlobals "_law_beaten" = some (some (.ref f72)))
    (l72 : K.lookup f72 = some ⟨oc72, od72, .func (PySem.W.fnOf "_law_beaten" "_law_beaten" (defArgs s_law_beaten) (defBody s_law_beaten) (defScope s_law_beaten) .none kV72 dc72 pm72 an72 cd72 ct72), sl72⟩) (c72 : PySem.W.codeIn K cd72 "_law_beaten" = true) (k72 : PySem.W.keepIn K (.ref f72) = true)
    {f73 : Addr} {od73 an73 : Option Addr} {sl73 : Array (Option Value)} {oc73 kV73 dc73 pm73 cd73 ct73 : Value}
    (a73 : PySem.W.nsIn K mainGlobals "_law_refused" = some (some (.ref f73)))
    (l73 : K.lookup f73 = some ⟨oc73, od73, .func (PySem.W.fnOf "_law_refused" "_law_refused" (defArgs s_refused) (defBody s_refused) (defScope s_refused) .none kV73 dc73 pm73 an73 cd73 ct73), sl73⟩) (c73 : PySem.W.codeIn K cd73 "_law_refused" = true) (k73 : PySem.W.keepIn K (.ref f73) = true)
    {f74 : Addr} {od74 an74 : Option Addr} {sl74 : Array (Option Value)} {oc74 kV74 dc74 pm74 cd74 ct74 : Value}
    (a74 : PySem.W.nsIn K mainGlobals "_law_gone" = some (some (.ref f74)))
    (l74 : K.lookup f74 = some ⟨oc74, od74, .func (PySem.W.fnOf "_law_gone" "_law_gone" (defArgs s_gone) (defBody s_gone) (defScope s_gone) .none kV74 dc74 pm74 an74 cd74 ct74), sl74⟩) (c74 : PySem.W.codeIn K cd74 "_law_gone" = true) (k74 : PySem.W.keepIn K (.ref f74) = true)
    {f75 : Addr} {od75 an75 : Option Addr} {sl75 : Array (Option Value)} {oc75 kV75 dc75 pm75 cd75 ct75 : Value}
    (a75 : PySem.W.nsIn K mainGlobals "_law_step_right" = some (some (.ref f75)))
    (l75 : K.lookup f75 = some ⟨oc75, od75, .func (PySem.W.fnOf "_law_step_right" "_law_step_right" (defArgs s_step_right) (defBody s_step_right) (defScope s_step_right) .none kV75 dc75 pm75 an75 cd75 ct75), sl75⟩) (c75 : PySem.W.codeIn K cd75 "_law_step_right" = true) (k75 : PySem.W.keepIn K (.ref f75) = true)
    {f76 : Addr} {od76 an76 : Option Addr} {sl76 : Array (Option Value)} {oc76 kV76 dc76 pm76 cd76 ct76 : Value}
    (a76 : PySem.W.nsIn K mainGlobals "_law_right" = some (some (.ref f76)))
    (l76 : K.lookup f76 = some ⟨oc76, od76, .func (PySem.W.fnOf "_law_right" "_law_right" (defArgs s_right) (defBody s_right) (defScope s_right) .none kV76 dc76 pm76 an76 cd76 ct76), sl76⟩) (c76 : PySem.W.codeIn K cd76 "_law_right" = true) (k76 : PySem.W.keepIn K (.ref f76) = true)
    {f77 : Addr} {od77 an77 : Option Addr} {sl77 : Array (Option Value)} {oc77 kV77 dc77 pm77 cd77 ct77 : Value}
    (a77 : PySem.W.nsIn K mainGlobals "law" = some (some (.ref f77)))
    (l77 : K.lookup f77 = some ⟨oc77, od77, .func (PySem.W.fnOf "law" "law" (defArgs s_law) (defBody s_law) (defScope s_law) .none kV77 dc77 pm77 an77 cd77 ct77), sl77⟩) (c77 : PySem.W.codeIn K cd77 "law" = true) (k77 : PySem.W.keepIn K (.ref f77) = true)
    (pgHall : PySem.W.plainGet K CHall Str.empty = true) (hdHall : PySem.W.hasDictIn K CHall = true) (poHall : PySem.W.plainOver K CHall = true) (saHall : PySem.W.findIn K (.ref CHall) "__setattr__" = some (some (.builtin "object.__setattr__"))) (mkHall : PySem.W.makesIn K CHall = true) (kcHall : PySem.W.keepIn K (.ref CHall) = true)
    (nHall_kept : PySem.W.findIn K (.ref CHall) "kept" = some none)
    (neHall : PySem.W.findIn K (.ref CHall) "__ne__" = some (some (.builtin "object.__ne__"))) (j1Hall : PySem.W.findIn K (.ref CHall) "__class__" = some (some (.builtin "object.__class__"))) (j2Hall : PySem.W.specialIn K (.builtin "object.__class__") "__get__" = some (some (.builtin "getset_descriptor.__get__"))) (j3Hall : PySem.W.takesIn K (.builtin "object.__class__") = some true) (j4Hall : PySem.W.mroIn K CHall (.type "object") = some true)
    (pgHouse : PySem.W.plainGet K CHouse Str.empty = true) (hdHouse : PySem.W.hasDictIn K CHouse = true) (poHouse : PySem.W.plainOver K CHouse = true) (saHouse : PySem.W.findIn K (.ref CHouse) "__setattr__" = some (some (.builtin "object.__setattr__"))) (mkHouse : PySem.W.makesIn K CHouse = true) (kcHouse : PySem.W.keepIn K (.ref CHouse) = true)
    (nHouse_changes : PySem.W.findIn K (.ref CHouse) "changes" = some none)
    (nHouse_entries : PySem.W.findIn K (.ref CHouse) "entries" = some none)
    (nHouse_own : PySem.W.findIn K (.ref CHouse) "own" = some none)
    (nHouse_past : PySem.W.findIn K (.ref CHouse) "past" = some none)
    (nHouse_pins : PySem.W.findIn K (.ref CHouse) "pins" = some none)
    (nHouse_shown : PySem.W.findIn K (.ref CHouse) "shown" = some none)
    (ebBadHall : PySem.W.subIn K (.ref CBadHall) (.type "BaseException") = some true) (hdBadHall : PySem.W.hasDictIn K CBadHall = true) (tyBadHall : PySem.W.typeIn K (.ref CBadHall) = some (.type "type"))
    (ebBadRule : PySem.W.subIn K (.ref CBadRule) (.type "BaseException") = some true) (hdBadRule : PySem.W.hasDictIn K CBadRule = true) (tyBadRule : PySem.W.typeIn K (.ref CBadRule) = some (.type "type"))
    (ebNoPerson : PySem.W.subIn K (.ref CNoPerson) (.type "BaseException") = some true) (hdNoPerson : PySem.W.hasDictIn K CNoPerson = true) (tyNoPerson : PySem.W.typeIn K (.ref CNoPerson) = some (.type "type"))
    {nmNoPerson qqNoPerson : Str} {NNoPerson : Addr} {bsNoPerson : List Value} {snNoPerson : List Str} {sbNoPerson : List Value} {abNoPerson : Bool} {coNoPerson : Option Bool} {ddNoPerson : Option Addr} {m0NoPerson m1NoPerson m2NoPerson m3NoPerson m5NoPerson : Option Value}
    (xLNoPerson : K.lookup CNoPerson = some (excClassObj nmNoPerson qqNoPerson CNoPerson NNoPerson bsNoPerson [.type "IndexError", .type "LookupError", .type "Exception", .type "BaseException", .type "object"] true snNoPerson sbNoPerson abNoPerson coNoPerson ddNoPerson m0NoPerson m1NoPerson m2NoPerson m3NoPerson m5NoPerson "IndexError.__new__"))
    (saNoPerson : PySem.W.findIn K (.ref CNoPerson) "__setattr__" = some (some (.builtin "object.__setattr__"))) (kcNoPerson : PySem.W.keepIn K (.ref CNoPerson) = true) (tiNoPerson : PySem.W.typeIn K (.ref f19) = some (.type "function"))
    (gaNoPerson : PySem.W.findIn K (.ref CNoPerson) "__getattribute__" = some (some (.builtin "BaseException.__getattribute__"))) (ggNoPerson : PySem.W.findIn K (.ref CNoPerson) "__getattr__" = some none)
    (j1NoPerson : PySem.W.findIn K (.ref CNoPerson) "__class__" = some (some (.builtin "object.__class__"))) (j2NoPerson : PySem.W.specialIn K (.builtin "object.__class__") "__get__" = some (some (.builtin "getset_descriptor.__get__"))) (j3NoPerson : PySem.W.takesIn K (.builtin "object.__class__") = some true) (j4NoPerson : PySem.W.mroIn K CNoPerson (.type "object") = some true)
    (nNoPerson_person : PySem.W.findIn K (.ref CNoPerson) "person" = some none)
    (sbNoPerson_BadRule : PySem.W.subIn K (.ref CNoPerson) (.ref CBadRule) = some false)
    (sbNoPerson_NoPerson : PySem.W.subIn K (.ref CNoPerson) (.ref CNoPerson) = some true)
    (suNoPerson_IndexError : PySem.W.subIn K (.ref CNoPerson) (.type "IndexError") = some true)
    (viIndexError : PySem.W.findCls K (.type "IndexError") (.type "type") "__init__" = some (.val (.builtin "IndexError.__init__")))
    {DPARTS : Addr} {esPARTS : Array DictEntry} {enPARTS : Nat} (aDPARTS : PySem.W.nsIn K mainGlobals "PARTS" = some (some (.ref DPARTS))) (lDPARTS : K.lookup DPARTS = some ⟨.type "dict", none, .dict esPARTS enPARTS, #[]⟩) (kDPARTS : PySem.W.KeysLit w.params esPARTS.toList) (yDPARTS : (DPARTS == sysModules) = false)
    {tPARTS_held : Addr} {oPARTS_held : Option Addr} {itPARTS_held : Array Value} {inPARTS_held : Nat} {tsPARTS_held : Array (Option Value)} (ePARTS_held : PySem.W.nsIn K DPARTS "held" = some (some (.ref tPARTS_held))) (ltPARTS_held : K.lookup tPARTS_held = some ⟨.type "tuple", oPARTS_held, .seq itPARTS_held inPARTS_held, tsPARTS_held⟩) (ztPARTS_held : itPARTS_held.size ≤ sizeLine) (vtPARTS_held : Vals [V.str "number"] itPARTS_held.toList)
    {tPARTS_sum : Addr} {oPARTS_sum : Option Addr} {itPARTS_sum : Array Value} {inPARTS_sum : Nat} {tsPARTS_sum : Array (Option Value)} (ePARTS_sum : PySem.W.nsIn K DPARTS "sum" = some (some (.ref tPARTS_sum))) (ltPARTS_sum : K.lookup tPARTS_sum = some ⟨.type "tuple", oPARTS_sum, .seq itPARTS_sum inPARTS_sum, tsPARTS_sum⟩) (ztPARTS_sum : itPARTS_sum.size ≤ sizeLine) (vtPARTS_sum : Vals [V.str "number", V.str "ties"] itPARTS_sum.toList)
    {tPARTS_cap : Addr} {oPARTS_cap : Option Addr} {itPARTS_cap : Array Value} {inPARTS_cap : Nat} {tsPARTS_cap : Array (Option Value)} (ePARTS_cap : PySem.W.nsIn K DPARTS "cap" = some (some (.ref tPARTS_cap))) (ltPARTS_cap : K.lookup tPARTS_cap = some ⟨.type "tuple", oPARTS_cap, .seq itPARTS_cap inPARTS_cap, tsPARTS_cap⟩) (ztPARTS_cap : itPARTS_cap.size ≤ sizeLine) (vtPARTS_cap : Vals [V.str "number", V.str "ties", V.str "number"] itPARTS_cap.toList)
    {tPARTS_kinds : Addr} {oPARTS_kinds : Option Addr} {itPARTS_kinds : Array Value} {inPARTS_kinds : Nat} {tsPARTS_kinds : Array (Option Value)} (ePARTS_kinds : PySem.W.nsIn K DPARTS "kinds" = some (some (.ref tPARTS_kinds))) (ltPARTS_kinds : K.lookup tPARTS_kinds = some ⟨.type "tuple", oPARTS_kinds, .seq itPARTS_kinds inPARTS_kinds, tsPARTS_kinds⟩) (ztPARTS_kinds : itPARTS_kinds.size ≤ sizeLine) (vtPARTS_kinds : Vals [V.str "number", V.str "seen"] itPARTS_kinds.toList)
    {tPARTS_next : Addr} {oPARTS_next : Option Addr} {itPARTS_next : Array Value} {inPARTS_next : Nat} {tsPARTS_next : Array (Option Value)} (ePARTS_next : PySem.W.nsIn K DPARTS "next" = some (some (.ref tPARTS_next))) (ltPARTS_next : K.lookup tPARTS_next = some ⟨.type "tuple", oPARTS_next, .seq itPARTS_next inPARTS_next, tsPARTS_next⟩) (ztPARTS_next : itPARTS_next.size ≤ sizeLine) (vtPARTS_next : Vals [V.str "seen"] itPARTS_next.toList)
    {tPARTS_free : Addr} {oPARTS_free : Option Addr} {itPARTS_free : Array Value} {inPARTS_free : Nat} {tsPARTS_free : Array (Option Value)} (ePARTS_free : PySem.W.nsIn K DPARTS "free" = some (some (.ref tPARTS_free))) (ltPARTS_free : K.lookup tPARTS_free = some ⟨.type "tuple", oPARTS_free, .seq itPARTS_free inPARTS_free, tsPARTS_free⟩) (ztPARTS_free : itPARTS_free.size ≤ sizeLine) (vtPARTS_free : Vals [V.str "seen"] itPARTS_free.toList)
    (z0 : PySem.W.nsIn K mainGlobals "IndexError" = some none)
    (z1 : PySem.W.nsIn K mainGlobals "abs" = some none)
    (z2 : PySem.W.nsIn K mainGlobals "all" = some none)
    (z3 : PySem.W.nsIn K mainGlobals "bool" = some none)
    (z4 : PySem.W.nsIn K mainGlobals "dict" = some none)
    (z5 : PySem.W.nsIn K mainGlobals "enumerate" = some none)
    (z6 : PySem.W.nsIn K mainGlobals "int" = some none)
    (z7 : PySem.W.nsIn K mainGlobals "isinstance" = some none)
    (z8 : PySem.W.nsIn K mainGlobals "len" = some none)
    (z9 : PySem.W.nsIn K mainGlobals "list" = some none)
    (z10 : PySem.W.nsIn K mainGlobals "max" = some none)
    (z11 : PySem.W.nsIn K mainGlobals "min" = some none)
    (z12 : PySem.W.nsIn K mainGlobals "range" = some none)
    (z13 : PySem.W.nsIn K mainGlobals "set" = some none)
    (z14 : PySem.W.nsIn K mainGlobals "sorted" = some none)
    (z15 : PySem.W.nsIn K mainGlobals "str" = some none)
    (z16 : PySem.W.nsIn K mainGlobals "sum" = some none)
    (z17 : PySem.W.nsIn K mainGlobals "tuple" = some none)
    (z18 : PySem.W.nsIn K mainGlobals "zip" = some none) :
    ∃ fd : FuncData, (∀ (t : Shared) (v : Value), BindsTo t fd ⟨[v], []⟩ [("_law_script", v)]) ∧ ∀ base : Heap, K.In base → base.Ns mainGlobals mg → FnG l.prog w K mg base 14 fa fd ["_law_script"] (spLaw K) := by
  have e := hfa.symm.trans (PySem.W.mg_of X G a77)
  cases e
  refine ⟨PySem.W.fnOf "law" "law" (defArgs s_law) (defBody s_law) (defScope s_law) .none kV77 dc77 pm77 an77 cd77 ct77, fun t v => .of_eq rfl, fun base _ _ => ?_⟩
  exact ok_law (w := w) {
    t__wall := ⟨_, _, fun_mk (st := s__wall) l0 c0 k0, (fun_mk (st := s__wall) l0 c0 k0).binds (ps := p__wall) fun _ _ _ _ _ _ us hl => match us, hl with | [_], _ => rfl⟩,
    g__wall := PySem.W.mg_of X G a0,
    t_is_number := ⟨_, _, fun_mk (st := s_is_number) l1 c1 k1, (fun_mk (st := s_is_number) l1 c1 k1).binds (ps := p_is_number) fun _ _ _ _ _ _ us hl => match us, hl with | [_], _ => rfl⟩,
    g_is_number := PySem.W.mg_of X G a1,
    t_is_person := ⟨_, _, fun_mk (st := s_is_person) l2 c2 k2, (fun_mk (st := s_is_person) l2 c2 k2).binds (ps := p_is_person) fun _ _ _ _ _ _ us hl => match us, hl with | [_, _], _ => rfl⟩,
    g_is_person := PySem.W.mg_of X G a2,
    t_are_persons := ⟨_, _, fun_mk (st := s_are_persons) l3 c3 k3, (fun_mk (st := s_are_persons) l3 c3 k3).binds (ps := p_are_persons) fun _ _ _ _ _ _ us hl => match us, hl with | [_, _], _ => rfl⟩,
    g_are_persons := PySem.W.mg_of X G a3,
    t_rises := ⟨_, _, fun_mk (st := s_rises) l4 c4 k4, (fun_mk (st := s_rises) l4 c4 k4).binds (ps := p_rises) fun _ _ _ _ _ _ us hl => match us, hl with | [_], _ => rfl⟩,
    g_rises := PySem.W.mg_of X G a4,
    t_is_rule := ⟨_, _, fun_mk (st := s_is_rule) l5 c5 k5, (fun_mk (st := s_is_rule) l5 c5 k5).binds (ps := p_is_rule) fun _ _ _ _ _ _ us hl => match us, hl with | [_, _], _ => rfl⟩,
    g_is_rule := PySem.W.mg_of X G a5,
    t_is_part := ⟨_, _, fun_mk (st := s_is_part) l6 c6 k6, (fun_mk (st := s_is_part) l6 c6 k6).binds (ps := p_is_part) fun _ _ _ _ _ _ us hl => match us, hl with | [_, _, _], _ => rfl⟩,
    g_is_part := PySem.W.mg_of X G a6,
    t_are_ties := ⟨_, _, fun_mk (st := s_are_ties) l7 c7 k7, (fun_mk (st := s_are_ties) l7 c7 k7).binds (ps := p_are_ties) fun _ _ _ _ _ _ us hl => match us, hl with | [_, _], _ => rfl⟩,
    g_are_ties := PySem.W.mg_of X G a7,
    t_is_tie := ⟨_, _, fun_mk (st := s_is_tie) l8 c8 k8, (fun_mk (st := s_is_tie) l8 c8 k8).binds (ps := p_is_tie) fun _ _ _ _ _ _ us hl => match us, hl with | [_, _], _ => rfl⟩,
    g_is_tie := PySem.W.mg_of X G a8,
    t_seen_by := ⟨_, _, fun_mk (st := s_seen_by) l9 c9 k9, (fun_mk (st := s_seen_by) l9 c9 k9).binds (ps := p_seen_by) fun _ _ _ _ _ _ us hl => match us, hl with | [_], _ => rfl⟩,
    g_seen_by := PySem.W.mg_of X G a9,
    t_told_of := ⟨_, _, fun_mk (st := s_told_of) l10 c10 k10, (fun_mk (st := s_told_of) l10 c10 k10).binds (ps := p_told_of) fun _ _ _ _ _ _ us hl => match us, hl with | [_, _], _ => rfl⟩,
    g_told_of := PySem.W.mg_of X G a10,
    t_weighed := ⟨_, _, fun_mk (st := s_weighed) l11 c11 k11, (fun_mk (st := s_weighed) l11 c11 k11).binds (ps := p_weighed) fun _ _ _ _ _ _ us hl => match us, hl with | [_, _], _ => rfl⟩,
    g_weighed := PySem.W.mg_of X G a11,
    t_least_free := ⟨_, _, fun_mk (st := s_least_free) l12 c12 k12, (fun_mk (st := s_least_free) l12 c12 k12).binds (ps := p_least_free) fun _ _ _ _ _ _ us hl => match us, hl with | [_], _ => rfl⟩,
    g_least_free := PySem.W.mg_of X G a12,
    t_lot_below := ⟨_, _, fun_mk (st := s_lot_below) l13 c13 k13, (fun_mk (st := s_lot_below) l13 c13 k13).binds (ps := p_lot_below) fun _ _ _ _ _ _ us hl => match us, hl with | [_, _, _, _], _ => rfl⟩,
    g_lot_below := PySem.W.mg_of X G a13,
    t_told_below := ⟨_, _, fun_mk (st := s_told_below) l14 c14 k14, (fun_mk (st := s_told_below) l14 c14 k14).binds (ps := p_told_below) fun _ _ _ _ _ _ us hl => match us, hl with | [_, _, _, _], _ => rfl⟩,
    g_told_below := PySem.W.mg_of X G a14,
    t_told_at := ⟨_, _, fun_mk (st := s_told_at) l15 c15 k15, (fun_mk (st := s_told_at) l15 c15 k15).binds (ps := p_told_at) fun _ _ _ _ _ _ us hl => match us, hl with | [_, _, _], _ => rfl⟩,
    g_told_at := PySem.W.mg_of X G a15,
    t_turned := ⟨_, _, fun_mk (st := s_turned) l16 c16 k16, (fun_mk (st := s_turned) l16 c16 k16).binds (ps := p_turned) fun _ _ _ _ _ _ us hl => match us, hl with | [_, _, _], _ => rfl⟩,
    g_turned := PySem.W.mg_of X G a16,
    t_beaten := ⟨_, _, fun_mk (st := s_beaten) l17 c17 k17, (fun_mk (st := s_beaten) l17 c17 k17).binds (ps := p_beaten) fun _ _ _ _ _ _ us hl => match us, hl with | [_, _], _ => rfl⟩,
    g_beaten := PySem.W.mg_of X G a17,
    t_rest_by_beats := ⟨_, _, fun_mk (st := s_rest_by_beats) l18 c18 k18, (fun_mk (st := s_rest_by_beats) l18 c18 k18).binds (ps := p_rest_by_beats) fun _ _ _ _ _ _ us hl => match us, hl with | [_, _], _ => rfl⟩,
    g_rest_by_beats := PySem.W.mg_of X G a18,
    t_NoPerson_init := ⟨_, _, fun_mk (st := s_NoPerson_init) l19 c19 k19, (fun_mk (st := s_NoPerson_init) l19 c19 k19).binds (ps := p_NoPerson_init) fun _ _ _ _ _ _ us hl => match us, hl with | [_, _], _ => rfl⟩,
    t_Hall_init := ⟨_, _, fun_mk (st := s_Hall_init) l20 c20 k20, (fun_mk (st := s_Hall_init) l20 c20 k20).binds (ps := p_Hall_init) fun _ _ _ _ _ _ us hl => match us, hl with | [_, _], _ => rfl⟩,
    t_Hall_must_have := ⟨_, _, fun_mk (st := s_Hall_must_have) l21 c21 k21, (fun_mk (st := s_Hall_must_have) l21 c21 k21).binds (ps := p_Hall_must_have) fun _ _ _ _ _ _ us hl => match us, hl with | [_, _], _ => rfl⟩,
    t_Hall_rules := ⟨_, _, fun_mk (st := s_Hall_rules) l22 c22 k22, (fun_mk (st := s_Hall_rules) l22 c22 k22).binds (ps := p_Hall_rules) fun _ _ _ _ _ _ us hl => match us, hl with | [_], _ => rfl⟩,
    t_Hall_rule := ⟨_, _, fun_mk (st := s_Hall_rule) l23 c23 k23, (fun_mk (st := s_Hall_rule) l23 c23 k23).binds (ps := p_Hall_rule) fun _ _ _ _ _ _ us hl => match us, hl with | [_, _], _ => rfl⟩,
    t_Hall_sees := ⟨_, _, fun_mk (st := s_Hall_sees) l24 c24 k24, (fun_mk (st := s_Hall_sees) l24 c24 k24).binds (ps := p_Hall_sees) fun _ _ _ _ _ _ us hl => match us, hl with | [_, _], _ => rfl⟩,
    t_Hall_seers := ⟨_, _, fun_mk (st := s_Hall_seers) l25 c25 k25, (fun_mk (st := s_Hall_seers) l25 c25 k25).binds (ps := p_Hall_seers) fun _ _ _ _ _ _ us hl => match us, hl with | [_, _], _ => rfl⟩,
    t_Hall_eq := ⟨_, _, fun_mk (st := s_Hall_eq) l26 c26 k26, (fun_mk (st := s_Hall_eq) l26 c26 k26).binds (ps := p_Hall_eq) fun _ _ _ _ _ _ us hl => match us, hl with | [_, _], _ => rfl⟩,
    t_Hall_len := ⟨_, _, fun_mk (st := s_Hall_len) l27 c27 k27, (fun_mk (st := s_Hall_len) l27 c27 k27).binds (ps := p_Hall_len) fun _ _ _ _ _ _ us hl => match us, hl with | [_], _ => rfl⟩,
    t_Hall_repr := ⟨_, _, fun_mk (st := s_Hall_repr) l28 c28 k28, (fun_mk (st := s_Hall_repr) l28 c28 k28).binds (ps := p_Hall_repr) fun _ _ _ _ _ _ us hl => match us, hl with | [_], _ => rfl⟩,
    t_with_rule := ⟨_, _, fun_mk (st := s_with_rule) l29 c29 k29, (fun_mk (st := s_with_rule) l29 c29 k29).binds (ps := p_with_rule) fun _ _ _ _ _ _ us hl => match us, hl with | [_, _, _], _ => rfl⟩,
    g_with_rule := PySem.W.mg_of X G a29,
    t_shown_by := ⟨_, _, fun_mk (st := s_shown_by) l30 c30 k30, (fun_mk (st := s_shown_by) l30 c30 k30).binds (ps := p_shown_by) fun _ _ _ _ _ _ us hl => match us, hl with | [_, _, _], _ => rfl⟩,
    g_shown_by := PySem.W.mg_of X G a30,
    t_House_init := ⟨_, _, fun_mk (st := s_House_init) l31 c31 k31, (fun_mk (st := s_House_init) l31 c31 k31).binds (ps := p_House_init) fun _ _ _ _ _ _ us hl => match us, hl with | [_, _, _], _ => rfl⟩,
    t_House_state := ⟨_, _, fun_mk (st := s_House_state) l32 c32 k32, (fun_mk (st := s_House_state) l32 c32 k32).binds (ps := p_House_state) fun _ _ _ _ _ _ us hl => match us, hl with | [_], _ => rfl⟩,
    t_House_remember := ⟨_, _, fun_mk (st := s_House_remember) l33 c33 k33, (fun_mk (st := s_House_remember) l33 c33 k33).binds (ps := p_House_remember) fun _ _ _ _ _ _ us hl => match us, hl with | [_], _ => rfl⟩,
    t_House_move := ⟨_, _, fun_mk (st := s_House_move) l34 c34 k34, (fun_mk (st := s_House_move) l34 c34 k34).binds (ps := p_House_move) fun _ _ _ _ _ _ us hl => match us, hl with | [_, _], _ => rfl⟩,
    t_House_turn := ⟨_, _, fun_mk (st := s_House_turn) l35 c35 k35, (fun_mk (st := s_House_turn) l35 c35 k35).binds (ps := p_House_turn) fun _ _ _ _ _ _ us hl => match us, hl with | [_, _], _ => rfl⟩,
    t_House_beat := FnDT.mk _ _ ⟨⟨_, _, _, _, _, _, _, _, _, _, rfl, l36, c36, .inr ⟨by simp, tD36, _, iD36.toList, nD36, rfl, ld36, by simp, vd36⟩, .inl rfl⟩, k36⟩ (by obtain ⟨ds, v, b⟩ := FunD.binds1 (ps := p_House_beat) (show FunD K "beat" "House.beat" (defArgs s_House_beat) (defBody s_House_beat) (defScope s_House_beat) [.int 1] [] f36 _ from ⟨⟨_, _, _, _, _, _, _, _, _, _, rfl, l36, c36, .inr ⟨by simp, tD36, _, iD36.toList, nD36, rfl, ld36, by simp, vd36⟩, .inl rfl⟩, k36⟩) 2 1 (by simp) rfl (fun T kV doc pm an cdv ct us its h1 h2 => match us, its, h1, h2 with | [_, _], [_], _, _ => ⟨_, rfl, rfl⟩); cases v; exact b) (by obtain ⟨ds, v, b⟩ := FunD.binds1 (ps := p_House_beat) (show FunD K "beat" "House.beat" (defArgs s_House_beat) (defBody s_House_beat) (defScope s_House_beat) [.int 1] [] f36 _ from ⟨⟨_, _, _, _, _, _, _, _, _, _, rfl, l36, c36, .inr ⟨by simp, tD36, _, iD36.toList, nD36, rfl, ld36, by simp, vd36⟩, .inl rfl⟩, k36⟩) 1 0 (by simp) rfl (fun T kV doc pm an cdv ct us its h1 h2 => match us, its, h1, h2 with | [_], [_], _, _ => ⟨_, rfl, rfl⟩); exact ⟨ds, v, b⟩),
    t_House_rest := ⟨_, _, fun_mk (st := s_House_rest) l37 c37 k37, (fun_mk (st := s_House_rest) l37 c37 k37).binds (ps := p_House_rest) fun _ _ _ _ _ _ us hl => match us, hl with | [_], _ => rfl⟩,
    t_House_show := ⟨_, _, fun_mk (st := s_House_show) l38 c38 k38, (fun_mk (st := s_House_show) l38 c38 k38).binds (ps := p_House_show) fun _ _ _ _ _ _ us hl => match us, hl with | [_, _, _], _ => rfl⟩,
    t_House_hold := ⟨_, _, fun_mk (st := s_House_hold) l39 c39 k39, (fun_mk (st := s_House_hold) l39 c39 k39).binds (ps := p_House_hold) fun _ _ _ _ _ _ us hl => match us, hl with | [_, _], _ => rfl⟩,
    t_House_loose := ⟨_, _, fun_mk (st := s_House_loose) l40 c40 k40, (fun_mk (st := s_House_loose) l40 c40 k40).binds (ps := p_House_loose) fun _ _ _ _ _ _ us hl => match us, hl with | [_, _], _ => rfl⟩,
    t_House_rule := ⟨_, _, fun_mk (st := s_House_rule) l41 c41 k41, (fun_mk (st := s_House_rule) l41 c41 k41).binds (ps := p_House_rule) fun _ _ _ _ _ _ us hl => match us, hl with | [_, _, _], _ => rfl⟩,
    t_House_undo := ⟨_, _, fun_mk (st := s_House_undo) l42 c42 k42, (fun_mk (st := s_House_undo) l42 c42 k42).binds (ps := p_House_undo) fun _ _ _ _ _ _ us hl => match us, hl with | [_], _ => rfl⟩,
    t_House_done := ⟨_, _, fun_mk (st := s_House_done) l43 c43 k43, (fun_mk (st := s_House_done) l43 c43 k43).binds (ps := p_House_done) fun _ _ _ _ _ _ us hl => match us, hl with | [_, _], _ => rfl⟩,
    t_House_take_over := ⟨_, _, fun_mk (st := s_House_take_over) l44 c44 k44, (fun_mk (st := s_House_take_over) l44 c44 k44).binds (ps := p_House_take_over) fun _ _ _ _ _ _ us hl => match us, hl with | [_, _], _ => rfl⟩,
    t_House_hall := ⟨_, _, fun_mk (st := s_House_hall) l45 c45 k45, (fun_mk (st := s_House_hall) l45 c45 k45).binds (ps := p_House_hall) fun _ _ _ _ _ _ us hl => match us, hl with | [_], _ => rfl⟩,
    t_House_standing := ⟨_, _, fun_mk (st := s_House_standing) l46 c46 k46, (fun_mk (st := s_House_standing) l46 c46 k46).binds (ps := p_House_standing) fun _ _ _ _ _ _ us hl => match us, hl with | [_], _ => rfl⟩,
    t_House_held := ⟨_, _, fun_mk (st := s_House_held) l47 c47 k47, (fun_mk (st := s_House_held) l47 c47 k47).binds (ps := p_House_held) fun _ _ _ _ _ _ us hl => match us, hl with | [_], _ => rfl⟩,
    t_House_turns := ⟨_, _, fun_mk (st := s_House_turns) l48 c48 k48, (fun_mk (st := s_House_turns) l48 c48 k48).binds (ps := p_House_turns) fun _ _ _ _ _ _ us hl => match us, hl with | [_], _ => rfl⟩,
    t_House_firm := ⟨_, _, fun_mk (st := s_House_firm) l49 c49 k49, (fun_mk (st := s_House_firm) l49 c49 k49).binds (ps := p_House_firm) fun _ _ _ _ _ _ us hl => match us, hl with | [_], _ => rfl⟩,
    t_House_line := ⟨_, _, fun_mk (st := s_House_line) l50 c50 k50, (fun_mk (st := s_House_line) l50 c50 k50).binds (ps := p_House_line) fun _ _ _ _ _ _ us hl => match us, hl with | [_], _ => rfl⟩,
    t_House_deeds := ⟨_, _, fun_mk (st := s_House_deeds) l51 c51 k51, (fun_mk (st := s_House_deeds) l51 c51 k51).binds (ps := p_House_deeds) fun _ _ _ _ _ _ us hl => match us, hl with | [_], _ => rfl⟩,
    t_House_log := ⟨_, _, fun_mk (st := s_House_log) l52 c52 k52, (fun_mk (st := s_House_log) l52 c52 k52).binds (ps := p_House_log) fun _ _ _ _ _ _ us hl => match us, hl with | [_], _ => rfl⟩,
    t_House_twin := ⟨_, _, fun_mk (st := s_House_twin) l53 c53 k53, (fun_mk (st := s_House_twin) l53 c53 k53).binds (ps := p_House_twin) fun _ _ _ _ _ _ us hl => match us, hl with | [_], _ => rfl⟩,
    t_House_eq := ⟨_, _, fun_mk (st := s_House_eq) l54 c54 k54, (fun_mk (st := s_House_eq) l54 c54 k54).binds (ps := p_House_eq) fun _ _ _ _ _ _ us hl => match us, hl with | [_, _], _ => rfl⟩,
    t_House_len := ⟨_, _, fun_mk (st := s_House_len) l55 c55 k55, (fun_mk (st := s_House_len) l55 c55 k55).binds (ps := p_House_len) fun _ _ _ _ _ _ us hl => match us, hl with | [_], _ => rfl⟩,
    t_dip := ⟨_, _, fun_mk (st := s_dip) l56 c56 k56, (fun_mk (st := s_dip) l56 c56 k56).binds (ps := p_dip) fun _ _ _ _ _ _ us hl => match us, hl with | [_, _], _ => rfl⟩,
    g_dip := PySem.W.mg_of X G a56,
    t_take := ⟨_, _, fun_mk (st := s_take) l57 c57 k57, (fun_mk (st := s_take) l57 c57 k57).binds (ps := p_take) fun _ _ _ _ _ _ us hl => match us, hl with | [_, _], _ => rfl⟩,
    g_take := PySem.W.mg_of X G a57,
    t_folded := ⟨_, _, fun_mk (st := s_folded) l58 c58 k58, (fun_mk (st := s_folded) l58 c58 k58).binds (ps := p_folded) fun _ _ _ _ _ _ us hl => match us, hl with | [_, _], _ => rfl⟩,
    g_folded := PySem.W.mg_of X G a58,
    t_strewn := ⟨_, _, fun_mk (st := s_strewn) l59 c59 k59, (fun_mk (st := s_strewn) l59 c59 k59).binds (ps := p_strewn) fun _ _ _ _ _ _ us hl => match us, hl with | [_, _], _ => rfl⟩,
    g_strewn := PySem.W.mg_of X G a59,
    t_same := ⟨_, _, fun_mk (st := s_same) l60 c60 k60, (fun_mk (st := s_same) l60 c60 k60).binds (ps := p_same) fun _ _ _ _ _ _ us hl => match us, hl with | [_, _], _ => rfl⟩,
    g_same := PySem.W.mg_of X G a60,
    t_some := ⟨_, _, fun_mk (st := s_some) l61 c61 k61, (fun_mk (st := s_some) l61 c61 k61).binds (ps := p_some) fun _ _ _ _ _ _ us hl => match us, hl with | [_, _, _], _ => rfl⟩,
    g_some := PySem.W.mg_of X G a61,
    t_sum_rule := ⟨_, _, fun_mk (st := s_sum_rule) l62 c62 k62, (fun_mk (st := s_sum_rule) l62 c62 k62).binds (ps := p_sum_rule) fun _ _ _ _ _ _ us hl => match us, hl with | [_, _, _], _ => rfl⟩,
    g_sum_rule := PySem.W.mg_of X G a62,
    t_rule := ⟨_, _, fun_mk (st := s_rule) l63 c63 k63, (fun_mk (st := s_rule) l63 c63 k63).binds (ps := p_rule) fun _ _ _ _ _ _ us hl => match us, hl with | [_, _, _, _], _ => rfl⟩,
    g_rule := PySem.W.mg_of X G a63,
    t_hall := ⟨_, _, fun_mk (st := s_hall) l64 c64 k64, (fun_mk (st := s_hall) l64 c64 k64).binds (ps := p_hall) fun _ _ _ _ _ _ us hl => match us, hl with | [_], _ => rfl⟩,
    g_hall := PySem.W.mg_of X G a64,
    t_flat := ⟨_, _, fun_mk (st := s_flat) l65 c65 k65, (fun_mk (st := s_flat) l65 c65 k65).binds (ps := p_flat) fun _ _ _ _ _ _ us hl => match us, hl with | [_, _], _ => rfl⟩,
    g_flat := PySem.W.mg_of X G a65,
    t_shown := ⟨_, _, fun_mk (st := s_shown) l66 c66 k66, (fun_mk (st := s_shown) l66 c66 k66).binds (ps := p_shown) fun _ _ _ _ _ _ us hl => match us, hl with | [_, _], _ => rfl⟩,
    g_shown := PySem.W.mg_of X G a66,
    t_seen := ⟨_, _, fun_mk (st := s_seen) l67 c67 k67, (fun_mk (st := s_seen) l67 c67 k67).binds (ps := p_seen) fun _ _ _ _ _ _ us hl => match us, hl with | [_], _ => rfl⟩,
    g_seen := PySem.W.mg_of X G a67,
    t_lot := ⟨_, _, fun_mk (st := s_lot) l68 c68 k68, (fun_mk (st := s_lot) l68 c68 k68).binds (ps := p_lot) fun _ _ _ _ _ _ us hl => match us, hl with | [_, _, _], _ => rfl⟩,
    g_lot := PySem.W.mg_of X G a68,
    t_tells := ⟨_, _, fun_mk (st := s_tells) l69 c69 k69, (fun_mk (st := s_tells) l69 c69 k69).binds (ps := p_tells) fun _ _ _ _ _ _ us hl => match us, hl with | [_, _], _ => rfl⟩,
    g_tells := PySem.W.mg_of X G a69,
    t_law_turned := ⟨_, _, fun_mk (st := s_law_turned) l70 c70 k70, (fun_mk (st := s_law_turned) l70 c70 k70).binds (ps := p_law_turned) fun _ _ _ _ _ _ us hl => match us, hl with | [_, _, _], _ => rfl⟩,
    g_law_turned := PySem.W.mg_of X G a70,
    t_restless := ⟨_, _, fun_mk (st := s_restless) l71 c71 k71, (fun_mk (st := s_restless) l71 c71 k71).binds (ps := p_restless) fun _ _ _ _ _ _ us hl => match us, hl with | [_, _], _ => rfl⟩,
    g_restless := PySem.W.mg_of X G a71,
    t_law_beaten := ⟨_, _, fun_mk (st := s_law_beaten) l72 c72 k72, (fun_mk (st := s_law_beaten) l72 c72 k72).binds (ps := p_law_beaten) fun _ _ _ _ _ _ us hl => match us, hl with | [_, _], _ => rfl⟩,
    g_law_beaten := PySem.W.mg_of X G a72,
    t_refused := ⟨_, _, fun_mk (st := s_refused) l73 c73 k73, (fun_mk (st := s_refused) l73 c73 k73).binds (ps := p_refused) fun _ _ _ _ _ _ us hl => match us, hl with | [_, _], _ => rfl⟩,
    g_refused := PySem.W.mg_of X G a73,
    t_gone := ⟨_, _, fun_mk (st := s_gone) l74 c74 k74, (fun_mk (st := s_gone) l74 c74 k74).binds (ps := p_gone) fun _ _ _ _ _ _ us hl => match us, hl with | [_, _, _], _ => rfl⟩,
    g_gone := PySem.W.mg_of X G a74,
    t_step_right := ⟨_, _, fun_mk (st := s_step_right) l75 c75 k75, (fun_mk (st := s_step_right) l75 c75 k75).binds (ps := p_step_right) fun _ _ _ _ _ _ us hl => match us, hl with | [_, _, _, _], _ => rfl⟩,
    g_step_right := PySem.W.mg_of X G a75,
    t_right := ⟨_, _, fun_mk (st := s_right) l76 c76 k76, (fun_mk (st := s_right) l76 c76 k76).binds (ps := p_right) fun _ _ _ _ _ _ us hl => match us, hl with | [_], _ => rfl⟩,
    g_right := PySem.W.mg_of X G a76,
    t_law := ⟨_, _, fun_mk (st := s_law) l77 c77 k77, (fun_mk (st := s_law) l77 c77 k77).binds (ps := p_law) fun _ _ _ _ _ _ us hl => match us, hl with | [_], _ => rfl⟩,
    g_law := PySem.W.mg_of X G a77,
    C_Hall := CHall,
    g_Hall := PySem.W.mg_of X G aCHall,
    cl_Hall := ⟨pgHall, hdHall, poHall, saHall⟩,
    mk_Hall := ⟨mkHall, a20, i20, kcHall⟩,
    me_Hall_init := ⟨a20, i20, k20⟩,
    me_Hall_must_have := ⟨a21, i21, k21⟩,
    me_Hall_rules := ⟨a22, i22, k22⟩,
    me_Hall_rule := ⟨a23, i23, k23⟩,
    me_Hall_sees := ⟨a24, i24, k24⟩,
    me_Hall_seers := ⟨a25, i25, k25⟩,
    me_Hall_eq := ⟨a26, i26, k26⟩,
    me_Hall_len := ⟨a27, i27, k27⟩,
    me_Hall_repr := ⟨a28, i28, k28⟩,
    na_Hall_kept := nHall_kept,
    ne_Hall := neHall,
    is_Hall := ⟨⟨pgHall, hdHall, poHall, saHall⟩, j1Hall, j2Hall, j3Hall, j4Hall, if_pos (beq_self_eq_true _)⟩,
    C_House := CHouse,
    g_House := PySem.W.mg_of X G aCHouse,
    cl_House := ⟨pgHouse, hdHouse, poHouse, saHouse⟩,
    mk_House := ⟨mkHouse, a31, i31, kcHouse⟩,
    me_House_init := ⟨a31, i31, k31⟩,
    me_House_state := ⟨a32, i32, k32⟩,
    me_House_remember := ⟨a33, i33, k33⟩,
    me_House_move := ⟨a34, i34, k34⟩,
    me_House_turn := ⟨a35, i35, k35⟩,
    me_House_beat := ⟨a36, i36, k36⟩,
    me_House_rest := ⟨a37, i37, k37⟩,
    me_House_show := ⟨a38, i38, k38⟩,
    me_House_hold := ⟨a39, i39, k39⟩,
    me_House_loose := ⟨a40, i40, k40⟩,
    me_House_rule := ⟨a41, i41, k41⟩,
    me_House_undo := ⟨a42, i42, k42⟩,
    me_House_done := ⟨a43, i43, k43⟩,
    me_House_take_over := ⟨a44, i44, k44⟩,
    me_House_hall := ⟨a45, i45, k45⟩,
    me_House_standing := ⟨a46, i46, k46⟩,
    me_House_held := ⟨a47, i47, k47⟩,
    me_House_turns := ⟨a48, i48, k48⟩,
    me_House_firm := ⟨a49, i49, k49⟩,
    me_House_line := ⟨a50, i50, k50⟩,
    me_House_deeds := ⟨a51, i51, k51⟩,
    me_House_log := ⟨a52, i52, k52⟩,
    me_House_twin := ⟨a53, i53, k53⟩,
    me_House_eq := ⟨a54, i54, k54⟩,
    me_House_len := ⟨a55, i55, k55⟩,
    na_House_changes := nHouse_changes,
    na_House_entries := nHouse_entries,
    na_House_own := nHouse_own,
    na_House_past := nHouse_past,
    na_House_pins := nHouse_pins,
    na_House_shown := nHouse_shown,
    C_BadHall := CBadHall,
    g_BadHall := PySem.W.mg_of X G aCBadHall,
    C_BadRule := CBadRule,
    g_BadRule := PySem.W.mg_of X G aCBadRule,
    C_NoPerson := CNoPerson,
    g_NoPerson := PySem.W.mg_of X G aCNoPerson,
    ox_NoPerson := ⟨PySem.F.excBase_IndexError, by decide +kernel, ⟨nmNoPerson, qqNoPerson, NNoPerson, bsNoPerson, _, snNoPerson, sbNoPerson, abNoPerson, coNoPerson, ddNoPerson, m0NoPerson, m1NoPerson, m2NoPerson, m3NoPerson, m5NoPerson, xLNoPerson, fun _ => rfl, LhX.over_one PySem.F.store_IndexError.passes⟩, saNoPerson, ebNoPerson, tyNoPerson, kcNoPerson⟩,
    me_NoPerson_init := ⟨a19, i19, k19⟩,
    ti_NoPerson := tiNoPerson,
    na_NoPerson_person := nNoPerson_person,
    xf_NoPerson := ⟨gaNoPerson, ggNoPerson, ebNoPerson, hdNoPerson⟩,
    xc_NoPerson := ⟨gaNoPerson, ggNoPerson, ebNoPerson, hdNoPerson, j1NoPerson, j2NoPerson, j3NoPerson, j4NoPerson⟩,
    em_NoPerson_BadRule := PySem.W.exm_ref ebBadRule hdBadRule tyBadRule sbNoPerson_BadRule,
    em_NoPerson_NoPerson := PySem.W.exm_ref ebNoPerson hdNoPerson tyNoPerson sbNoPerson_NoPerson,
    ki_NoPerson_NoPerson := if_pos (beq_self_eq_true _),
    ki_NoPerson_IndexError := kit_type (by decide +kernel) suNoPerson_IndexError,
    vi_IndexError := viIndexError,
    D_PARTS := DPARTS,
    g_PARTS := PySem.W.mg_of X G aDPARTS,
    es_PARTS := esPARTS,
    en_PARTS := enPARTS,
    kd_PARTS := ⟨lDPARTS, kDPARTS, yDPARTS⟩,
    t_PARTS_held := tPARTS_held,
    dk_PARTS_held := ePARTS_held,
    sq_PARTS_held := fun _ => .inr ⟨_, itPARTS_held, inPARTS_held, ltPARTS_held, rfl, rfl, ztPARTS_held, vtPARTS_held⟩,
    t_PARTS_sum := tPARTS_sum,
    dk_PARTS_sum := ePARTS_sum,
    sq_PARTS_sum := fun _ => .inr ⟨_, itPARTS_sum, inPARTS_sum, ltPARTS_sum, rfl, rfl, ztPARTS_sum, vtPARTS_sum⟩,
    t_PARTS_cap := tPARTS_cap,
    dk_PARTS_cap := ePARTS_cap,
    sq_PARTS_cap := fun _ => .inr ⟨_, itPARTS_cap, inPARTS_cap, ltPARTS_cap, rfl, rfl, ztPARTS_cap, vtPARTS_cap⟩,
    t_PARTS_kinds := tPARTS_kinds,
    dk_PARTS_kinds := ePARTS_kinds,
    sq_PARTS_kinds := fun _ => .inr ⟨_, itPARTS_kinds, inPARTS_kinds, ltPARTS_kinds, rfl, rfl, ztPARTS_kinds, vtPARTS_kinds⟩,
    t_PARTS_next := tPARTS_next,
    dk_PARTS_next := ePARTS_next,
    sq_PARTS_next := fun _ => .inr ⟨_, itPARTS_next, inPARTS_next, ltPARTS_next, rfl, rfl, ztPARTS_next, vtPARTS_next⟩,
    t_PARTS_free := tPARTS_free,
    dk_PARTS_free := ePARTS_free,
    sq_PARTS_free := fun _ => .inr ⟨_, itPARTS_free, inPARTS_free, ltPARTS_free, rfl, rfl, ztPARTS_free, vtPARTS_free⟩,
    m_IndexError := PySem.W.mg_none_of X G z0,
    m_abs := PySem.W.mg_none_of X G z1,
    m_all := PySem.W.mg_none_of X G z2,
    m_bool := PySem.W.mg_none_of X G z3,
    m_dict := PySem.W.mg_none_of X G z4,
    m_enumerate := PySem.W.mg_none_of X G z5,
    m_int := PySem.W.mg_none_of X G z6,
    m_isinstance := PySem.W.mg_none_of X G z7,
    m_len := PySem.W.mg_none_of X G z8,
    m_list := PySem.W.mg_none_of X G z9,
    m_max := PySem.W.mg_none_of X G z10,
    m_min := PySem.W.mg_none_of X G z11,
    m_range := PySem.W.mg_none_of X G z12,
    m_set := PySem.W.mg_none_of X G z13,
    m_sorted := PySem.W.mg_none_of X G z14,
    m_str := PySem.W.mg_none_of X G z15,
    m_sum := PySem.W.mg_none_of X G z16,
    m_tuple := PySem.W.mg_none_of X G z17,
    m_zip := PySem.W.mg_none_of X G z18 }
end Lh
open PySem PySem.W PyProof.Rows
set_option maxHeartbeats 0 in
theorem PySem.Challenge.cw_lesserhall_k50_house_turns_beats_rests_holds : PySem.Challenge.rw_lesserhall_k50_house_turns_beats_rests.Holds := by
  w_on; o_law; k_head; (case hw => w_witness2)
  k_fill
  refine Lh.walk_G (l := PySem.Challenge.rw_lesserhall_k50_house_turns_beats_rests) (n := 63) (k := 14) (x := "_law_script") (sp := fun w => Lh.spLaw _) rfl (by decide) rfl ⟨rfl, by decide, by decide⟩ (fun w h Y => PySem.W.kIn_of Y) ?F (fun _ _ a ns hl _ hS => ⟨a, ns, rfl, hS, hl, fun _ => rfl⟩)
  case F =>
    intro w mg fa h KX G hmg
    refine' Lh.all_mk KX G hmg ?aCHall ?aCHouse ?aCBadHall ?aCBadRule ?aCNoPerson ?a0 ?l0 ?c0 ?k0 ?a1 ?l1 ?c1 ?k1 ?a2 ?l2 ?c2 ?k2 ?a3 ?l3 ?c3 ?k3 ?a4 ?l4 ?c4 ?k4 ?a5 ?l5 ?c5 ?k5 ?a6 ?l6 ?c6 ?k6 ?a7 ?l7 ?c7 ?k7 ?a8 ?l8 ?c8 ?k8 ?a9 ?l9 ?c9 ?k9 ?a10 ?l10 ?c10 ?k10 ?a11 ?l11 ?c11 ?k11 ?a12 ?l12 ?c12 ?k12 ?a13 ?l13 ?c13 ?k13 ?a14 ?l14 ?c14 ?k14 ?a15 ?l15 ?c15 ?k15 ?a16 ?l16 ?c16 ?k16 ?a17 ?l17 ?c17 ?k17 ?a18 ?l18 ?c18 ?k18 ?a19 ?i19 ?l19 ?c19 ?k19 ?a20 ?i20 ?l20 ?c20 ?k20 ?a21 ?i21 ?l21 ?c21 ?k21 ?a22 ?i22 ?l22 ?c22 ?k22 ?a23 ?i23 ?l23 ?c23 ?k23 ?a24 ?i24 ?l24 ?c24 ?k24 ?a25 ?i25 ?l25 ?c25 ?k25 ?a26 ?i26 ?l26 ?c26 ?k26 ?a27 ?i27 ?l27 ?c27 ?k27 ?a28 ?i28 ?l28 ?c28 ?k28 ?a29 ?l29 ?c29 ?k29 ?a30 ?l30 ?c30 ?k30 ?a31 ?i31 ?l31 ?c31 ?k31 ?a32 ?i32 ?l32 ?c32 ?k32 ?a33 ?i33 ?l33 ?c33 ?k33 ?a34 ?i34 ?l34 ?c34 ?k34 ?a35 ?i35 ?l35 ?c35 ?k35 ?a36 ?i36 ?l36 ?c36 ?k36 ?ld36 ?vd36 ?a37 ?i37 ?l37 ?c37 ?k37 ?a38 ?i38 ?l38 ?c38 ?k38 ?a39 ?i39 ?l39 ?c39 ?k39 ?a40 ?i40 ?l40 ?c40 ?k40 ?a41 ?i41 ?l41 ?c41 ?k41 ?a42 ?i42 ?l42 ?c42 ?k42 ?a43 ?i43 ?l43 ?c43 ?k43 ?a44 ?i44 ?l44 ?c44 ?k44 ?a45 ?i45 ?l45 ?c45 ?k45 ?a46 ?i46 ?l46 ?c46 ?k46 ?a47 ?i47 ?l47 ?c47 ?k47 ?a48 ?i48 ?l48 ?c48 ?k48 ?a49 ?i49 ?l49 ?c49 ?k49 ?a50 ?i50 ?l50 ?c50 ?k50 ?a51 ?i51 ?l51 ?c51 ?k51 ?a52 ?i52 ?l52 ?c52 ?k52 ?a53 ?i53 ?l53 ?c53 ?k53 ?a54 ?i54 ?l54 ?c54 ?k54 ?a55 ?i55 ?l55 ?c55 ?k55 ?a56 ?l56 ?c56 ?k56 ?a57 ?l57 ?c57 ?k57 ?a58 ?l58 ?c58 ?k58 ?a59 ?l59 ?c59 ?k59 ?a60 ?l60 ?c60 ?k60 ?a61 ?l61 ?c61 ?k61 ?a62 ?l62 ?c62 ?k62 ?a63 ?l63 ?c63 ?k63 ?a64 ?l64 ?c64 ?k64 ?a65 ?l65 ?c65 ?k65 ?a66 ?l66 ?c66 ?k66 ?a67 ?l67 ?c67 ?k67 ?a68 ?l68 ?c68 ?k68 ?a69 ?l69 ?c69 ?k69 ?a70 ?l70 ?c70 ?k70 ?a71 ?l71 ?c71 ?k71 ?a72 ?l72 ?c72 ?k72 ?a73 ?l73 ?c73 ?k73 ?a74 ?l74 ?c74 ?k74 ?a75 ?l75 ?c75 ?k75 ?a76 ?l76 ?c76 ?k76 ?a77 ?l77 ?c77 ?k77 ?pgHall ?hdHall ?poHall ?saHall ?mkHall ?kcHall ?nHall_kept ?neHall ?j1Hall ?j2Hall ?j3Hall ?j4Hall ?pgHouse ?hdHouse ?poHouse ?saHouse ?mkHouse ?kcHouse ?nHouse_changes ?nHouse_entries ?nHouse_own ?nHouse_past ?nHouse_pins ?nHouse_shown ?ebBadHall ?hdBadHall ?tyBadHall ?ebBadRule ?hdBadRule ?tyBadRule ?ebNoPerson ?hdNoPerson ?tyNoPerson ?xLNoPerson ?saNoPerson ?kcNoPerson ?tiNoPerson ?gaNoPerson ?ggNoPerson ?j1NoPerson ?j2NoPerson ?j3NoPerson ?j4NoPerson ?nNoPerson_person ?sbNoPerson_BadRule ?sbNoPerson_NoPerson ?suNoPerson_IndexError ?viIndexError ?aDPARTS ?lDPARTS ?kDPARTS ?yDPARTS ?ePARTS_held ?ltPARTS_held ?ztPARTS_held ?vtPARTS_held ?ePARTS_sum ?ltPARTS_sum ?ztPARTS_sum ?vtPARTS_sum ?ePARTS_cap ?ltPARTS_cap ?ztPARTS_cap ?vtPARTS_cap ?ePARTS_kinds ?ltPARTS_kinds ?ztPARTS_kinds ?vtPARTS_kinds ?ePARTS_next ?ltPARTS_next ?ztPARTS_next ?vtPARTS_next ?ePARTS_free ?ltPARTS_free ?ztPARTS_free ?vtPARTS_free ?z0 ?z1 ?z2 ?z3 ?z4 ?z5 ?z6 ?z7 ?z8 ?z9 ?z10 ?z11 ?z12 ?z13 ?z14 ?z15 ?z16 ?z17 ?z18
    (case aCHall => k_is); (case aCHouse => k_is); (case aCBadHall => k_is); (case aCBadRule => k_is); (case aCNoPerson => k_is); (case a0 => k_is); (case l0 => k_is); (case c0 => k_is); (case k0 => k_is); (case a1 => k_is); (case l1 => k_is); (case c1 => k_is); (case k1 => k_is); (case a2 => k_is); (case l2 => k_is); (case c2 => k_is); (case k2 => k_is); (case a3 => k_is); (case l3 => k_is); (case c3 => k_is); (case k3 => k_is); (case a4 => k_is); (case l4 => k_is); (case c4 => k_is); (case k4 => k_is); (case a5 => k_is); (case l5 => k_is); (case c5 => k_is); (case k5 => k_is); (case a6 => k_is); (case l6 => k_is); (case c6 => k_is); (case k6 => k_is); (case a7 => k_is); (case l7 => k_is); (case c7 => k_is); (case k7 => k_is); (case a8 => k_is); (case l8 => k_is); (case c8 => k_is); (case k8 => k_is); (case a9 => k_is); (case l9 => k_is); (case c9 => k_is); (case k9 => k_is); (case a10 => k_is); (case l10 => k_is); (case c10 => k_is); (case k10 => k_is); (case a11 => k_is); (case l11 => k_is); (case c11 => k_is); (case k11 => k_is); (case a12 => k_is); (case l12 => k_is); (case c12 => k_is); (case k12 => k_is); (case a13 => k_is); (case l13 => k_is); (case c13 => k_is); (case k13 => k_is); (case a14 => k_is); (case l14 => k_is); (case c14 => k_is); (case k14 => k_is); (case a15 => k_is); (case l15 => k_is); (case c15 => k_is); (case k15 => k_is); (case a16 => k_is); (case l16 => k_is); (case c16 => k_is); (case k16 => k_is); (case a17 => k_is); (case l17 => k_is); (case c17 => k_is); (case k17 => k_is); (case a18 => k_is); (case l18 => k_is); (case c18 => k_is); (case k18 => k_is); (case a19 => k_is); (case i19 => k_is); (case l19 => k_is); (case c19 => k_is); (case k19 => k_is); (case a20 => k_is); (case i20 => k_is); (case l20 => k_is); (case c20 => k_is); (case k20 => k_is); (case a21 => k_is); (case i21 => k_is); (case l21 => k_is); (case c21 => k_is); (case k21 => k_is); (case a22 => k_is); (case i22 => k_is); (case l22 => k_is); (case c22 => k_is); (case k22 => k_is); (case a23 => k_is); (case i23 => k_is); (case l23 => k_is); (case c23 => k_is); (case k23 => k_is); (case a24 => k_is); (case i24 => k_is); (case l24 => k_is); (case c24 => k_is); (case k24 => k_is); (case a25 => k_is); (case i25 => k_is); (case l25 => k_is); (case c25 => k_is); (case k25 => k_is); (case a26 => k_is); (case i26 => k_is); (case l26 => k_is); (case c26 => k_is); (case k26 => k_is); (case a27 => k_is); (case i27 => k_is); (case l27 => k_is); (case c27 => k_is); (case k27 => k_is); (case a28 => k_is); (case i28 => k_is); (case l28 => k_is); (case c28 => k_is); (case k28 => k_is); (case a29 => k_is); (case l29 => k_is); (case c29 => k_is); (case k29 => k_is); (case a30 => k_is); (case l30 => k_is); (case c30 => k_is); (case k30 => k_is); (case a31 => k_is); (case i31 => k_is); (case l31 => k_is); (case c31 => k_is); (case k31 => k_is); (case a32 => k_is); (case i32 => k_is); (case l32 => k_is); (case c32 => k_is); (case k32 => k_is); (case a33 => k_is); (case i33 => k_is); (case l33 => k_is); (case c33 => k_is); (case k33 => k_is); (case a34 => k_is); (case i34 => k_is); (case l34 => k_is); (case c34 => k_is); (case k34 => k_is); (case a35 => k_is); (case i35 => k_is); (case l35 => k_is); (case c35 => k_is); (case k35 => k_is); (case a36 => k_is); (case i36 => k_is); (case l36 => k_is); (case c36 => k_is); (case k36 => k_is); (case ld36 => k_is); (case vd36 => exact .cons ⟨_, rfl⟩ (.nil)); (case a37 => k_is); (case i37 => k_is); (case l37 => k_is); (case c37 => k_is); (case k37 => k_is); (case a38 => k_is); (case i38 => k_is); (case l38 => k_is); (case c38 => k_is); (case k38 => k_is); (case a39 => k_is); (case i39 => k_is); (case l39 => k_is); (case c39 => k_is); (case k39 => k_is); (case a40 => k_is); (case i40 => k_is); (case l40 => k_is); (case c40 => k_is); (case k40 => k_is); (case a41 => k_is); (case i41 => k_is); (case l41 => k_is); (case c41 => k_is); (case k41 => k_is); (case a42 => k_is); (case i42 => k_is); (case l42 => k_is); (case c42 => k_is); (case k42 => k_is); (case a43 => k_is); (case i43 => k_is); (case l43 => k_is); (case c43 => k_is); (case k43 => k_is); (case a44 => k_is); (case i44 => k_is); (case l44 => k_is); (case c44 => k_is); (case k44 => k_is); (case a45 => k_is); (case i45 => k_is); (case l45 => k_is); (case c45 => k_is); (case k45 => k_is); (case a46 => k_is); (case i46 => k_is); (case l46 => k_is); (case c46 => k_is); (case k46 => k_is); (case a47 => k_is); (case i47 => k_is); (case l47 => k_is); (case c47 => k_is); (case k47 => k_is); (case a48 => k_is); (case i48 => k_is); (case l48 => k_is); (case c48 => k_is); (case k48 => k_is); (case a49 => k_is); (case i49 => k_is); (case l49 => k_is); (case c49 => k_is); (case k49 => k_is); (case a50 => k_is); (case i50 => k_is); (case l50 => k_is); (case c50 => k_is); (case k50 => k_is); (case a51 => k_is); (case i51 => k_is); (case l51 => k_is); (case c51 => k_is); (case k51 => k_is); (case a52 => k_is); (case i52 => k_is); (case l52 => k_is); (case c52 => k_is); (case k52 => k_is); (case a53 => k_is); (case i53 => k_is); (case l53 => k_is); (case c53 => k_is); (case k53 => k_is); (case a54 => k_is); (case i54 => k_is); (case l54 => k_is); (case c54 => k_is); (case k54 => k_is); (case a55 => k_is); (case i55 => k_is); (case l55 => k_is); (case c55 => k_is); (case k55 => k_is); (case a56 => k_is); (case l56 => k_is); (case c56 => k_is); (case k56 => k_is); (case a57 => k_is); (case l57 => k_is); (case c57 => k_is); (case k57 => k_is); (case a58 => k_is); (case l58 => k_is); (case c58 => k_is); (case k58 => k_is); (case a59 => k_is); (case l59 => k_is); (case c59 => k_is); (case k59 => k_is); (case a60 => k_is); (case l60 => k_is); (case c60 => k_is); (case k60 => k_is); (case a61 => k_is); (case l61 => k_is); (case c61 => k_is); (case k61 => k_is); (case a62 => k_is); (case l62 => k_is); (case c62 => k_is); (case k62 => k_is); (case a63 => k_is); (case l63 => k_is); (case c63 => k_is); (case k63 => k_is); (case a64 => k_is); (case l64 => k_is); (case c64 => k_is); (case k64 => k_is); (case a65 => k_is); (case l65 => k_is); (case c65 => k_is); (case k65 => k_is); (case a66 => k_is); (case l66 => k_is); (case c66 => k_is); (case k66 => k_is); (case a67 => k_is); (case l67 => k_is); (case c67 => k_is); (case k67 => k_is); (case a68 => k_is); (case l68 => k_is); (case c68 => k_is); (case k68 => k_is); (case a69 => k_is); (case l69 => k_is); (case c69 => k_is); (case k69 => k_is); (case a70 => k_is); (case l70 => k_is); (case c70 => k_is); (case k70 => k_is); (case a71 => k_is); (case l71 => k_is); (case c71 => k_is); (case k71 => k_is); (case a72 => k_is); (case l72 => k_is); (case c72 => k_is); (case k72 => k_is); (case a73 => k_is); (case l73 => k_is); (case c73 => k_is); (case k73 => k_is); (case a74 => k_is); (case l74 => k_is); (case c74 => k_is); (case k74 => k_is); (case a75 => k_is); (case l75 => k_is); (case c75 => k_is); (case k75 => k_is); (case a76 => k_is); (case l76 => k_is); (case c76 => k_is); (case k76 => k_is); (case a77 => k_is); (case l77 => k_is); (case c77 => k_is); (case k77 => k_is); (case pgHall => k_is); (case hdHall => k_is); (case poHall => k_is); (case saHall => k_is); (case mkHall => k_is); (case kcHall => k_is); (case nHall_kept => k_is); (case neHall => k_is); (case j1Hall => k_is); (case j2Hall => k_is); (case j3Hall => k_is); (case j4Hall => k_is); (case pgHouse => k_is); (case hdHouse => k_is); (case poHouse => k_is); (case saHouse => k_is); (case mkHouse => k_is); (case kcHouse => k_is); (case nHouse_changes => k_is); (case nHouse_entries => k_is); (case nHouse_own => k_is); (case nHouse_past => k_is); (case nHouse_pins => k_is); (case nHouse_shown => k_is); (case ebBadHall => k_is); (case hdBadHall => k_is); (case tyBadHall => k_is); (case ebBadRule => k_is); (case hdBadRule => k_is); (case tyBadRule => k_is); (case ebNoPerson => k_is); (case hdNoPerson => k_is); (case tyNoPerson => k_is); (case xLNoPerson => k_is); (case saNoPerson => k_is); (case kcNoPerson => k_is); (case tiNoPerson => k_is); (case gaNoPerson => k_is); (case ggNoPerson => k_is); (case j1NoPerson => k_is); (case j2NoPerson => k_is); (case j3NoPerson => k_is); (case j4NoPerson => k_is); (case nNoPerson_person => k_is); (case sbNoPerson_BadRule => first | rfl | k_is); (case sbNoPerson_NoPerson => first | rfl | k_is); (case suNoPerson_IndexError => k_is); (case viIndexError => k_is); (case aDPARTS => k_is); (case lDPARTS => k_is); (case kDPARTS => exact ⟨⟨_, _, rfl, rfl⟩, ⟨_, _, rfl, rfl⟩, ⟨_, _, rfl, rfl⟩, ⟨_, _, rfl, rfl⟩, ⟨_, _, rfl, rfl⟩, ⟨_, _, rfl, rfl⟩, trivial⟩); (case yDPARTS => decide +kernel); (case ePARTS_held => k_is); (case ltPARTS_held => k_is); (case ztPARTS_held => decide +kernel); (case vtPARTS_held => exact .cons ⟨_, rfl⟩ (.nil)); (case ePARTS_sum => k_is); (case ltPARTS_sum => k_is); (case ztPARTS_sum => decide +kernel); (case vtPARTS_sum => exact .cons ⟨_, rfl⟩ (.cons ⟨_, rfl⟩ (.nil))); (case ePARTS_cap => k_is); (case ltPARTS_cap => k_is); (case ztPARTS_cap => decide +kernel); (case vtPARTS_cap => exact .cons ⟨_, rfl⟩ (.cons ⟨_, rfl⟩ (.cons ⟨_, rfl⟩ (.nil)))); (case ePARTS_kinds => k_is); (case ltPARTS_kinds => k_is); (case ztPARTS_kinds => decide +kernel); (case vtPARTS_kinds => exact .cons ⟨_, rfl⟩ (.cons ⟨_, rfl⟩ (.nil))); (case ePARTS_next => k_is); (case ltPARTS_next => k_is); (case ztPARTS_next => decide +kernel); (case vtPARTS_next => exact .cons ⟨_, rfl⟩ (.nil)); (case ePARTS_free => k_is); (case ltPARTS_free => k_is); (case ztPARTS_free => decide +kernel); (case vtPARTS_free => exact .cons ⟨_, rfl⟩ (.nil)); (case z0 => k_is); (case z1 => k_is); (case z2 => k_is); (case z3 => k_is); (case z4 => k_is); (case z5 => k_is); (case z6 => k_is); (case z7 => k_is); (case z8 => k_is); (case z9 => k_is); (case z10 => k_is); (case z11 => k_is); (case z12 => k_is); (case z13 => k_is); (case z14 => k_is); (case z15 => k_is); (case z16 => k_is); (case z17 => k_is); (case z18 => k_is)
