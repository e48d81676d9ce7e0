import PyProof.Rows.All
import Wide.All
import OpenK.AllK
import Wide.FinOn
import HandS.ForMost
import HandS.Flow
import HandS.IsInst
import HandS.Zip
import HandS.SortInts
import HandS.Defaults
import HandS.Conv
import HandS.Strs
import HandS.MakeKwOnly
import PyProof.ReprRoads
import HandS.SetFor
import HandS.SortKw
import KE.DataMinMax
import KE.KDictPairs
import PyProof.ReprLen
import HandS.Walk
import HandS.TupAny
import HandS.More
import KE.GoesMore
import PySem.Challenge.RW_lesserhall_k38_great_lines
set_option Elab.async false
set_option linter.all false
set_option maxRecDepth 100000

namespace Lh
open PySem PySem.Spec PyProof.Rows L2

/-! ### heaps -/
/-- all that was tracked is as it was, but for the box -/
def Ext (bx : Addr) (H H' : Hp) : Prop := ∀ a o, a ≠ bx → H a = some o → H' a = some o
theorem Ext.refl {bx : Addr} (H : Hp) : Ext bx H H := fun _ _ _ h => h
theorem Ext.trans {bx : Addr} {H H1 H2 : Hp} (a : Ext bx H H1) (b : Ext bx H1 H2) : Ext bx H H2 := fun x o n h => b x o n (a x o n h)
theorem Ext.of {bx : Addr} {H H' : Hp} (a : Same H H') : Ext bx H H' := fun x o _ h => a x o h
theorem Ext.new {bx : Addr} {H H' : Hp} {p : Addr} {o : HO} (e : Ext bx H H') (h : H p = none) : Ext bx H (upd H' p o) := fun x u n hx => by
  rw [upd_ne (ne_of_none hx h)]
  exact e x u n hx
theorem Ext.box {bx : Addr} {H H' : Hp} {o : HO} (e : Ext bx H H') : Ext bx H (upd H' bx o) := fun x u n hx => by
  rw [upd_ne n]
  exact e x u n hx
theorem Ext.free {bx : Addr} {H H' : Hp} (e : Ext bx H H') {l : Addr} (n : l ≠ bx) (h : H' l = Option.none) : H l = Option.none := by
  cases q : H l with
  | none => rfl
  | some o =>
    rw [e l o n q] at h
    cases h
theorem same_upd {H : Hp} {p : Addr} {o : HO} (h : H p = none) : Same H (upd H p o) := fun b x e => by
  rw [upd_ne (ne_of_none e h)]
  exact e
theorem same_mut {H H' : Hp} {p : Addr} {o : HO} (e : Same H H') (h : H p = none) : Same H (upd H' p o) := fun a u ha => by
  rw [upd_ne (ne_of_none ha h)]
  exact e a u ha

/-- the box: three ints, the last a count -/
def Box (bx : Addr) (c : Int) (H : Hp) : Prop := ∃ a b n : Int, H bx = some (.lst [.int a, .int b, .int n]) ∧ 0 ≤ a ∧ 0 ≤ b ∧ b < 2 ^ 62 ∧ 0 ≤ n ∧ n ≤ c
theorem Box.has {bx : Addr} {c : Int} {H : Hp} (h : Box bx c H) : ∃ o, H bx = some o := by
  obtain ⟨a, b, n, h, _⟩ := h
  exact ⟨_, h⟩
theorem Box.ne {bx : Addr} {c : Int} {H : Hp} (h : Box bx c H) {p : Addr} (n : H p = none) : p ≠ bx := by
  obtain ⟨o, h⟩ := h.has
  exact (ne_of_none h n).symm
theorem Box.neT {bx : Addr} {c : Int} {H : Hp} (h : Box bx c H) {p : Addr} {xs : List V} (n : H p = some (.tup xs)) : p ≠ bx := by
  obtain ⟨a, b, n', h, _⟩ := h
  exact ne_of n h (by intro z; cases z)
theorem Box.mono {bx : Addr} {c d : Int} {H : Hp} (h : Box bx c H) (e : c ≤ d) : Box bx d H := by
  obtain ⟨a, b, n, h, h1, h2, h3, h4, h5⟩ := h
  exact ⟨a, b, n, h, h1, h2, h3, h4, by omega⟩
theorem Box.same {bx : Addr} {c : Int} {H H' : Hp} (h : Box bx c H) (e : Same H H') : Box bx c H' := by
  obtain ⟨a, b, n, h, r⟩ := h
  exact ⟨a, b, n, e _ _ h, r⟩
theorem Box.new {bx : Addr} {c : Int} {H : Hp} (h : Box bx c H) {p : Addr} {o : HO} (n : H p = none) : Box bx c (upd H p o) := h.same (same_upd n)
theorem Box.at {bx : Addr} {c : Int} {H : Hp} (h : Box bx c H) {p : Addr} {o : HO} (n : p ≠ bx) : Box bx c (upd H p o) := by
  obtain ⟨a, b, m, h, r⟩ := h
  exact ⟨a, b, m, by rw [upd_ne n.symm]; exact h, r⟩

/-- a tuple, one whose object is known to bear no names among them -/
def TupAt (H : Hp) (a : Addr) (xs : List V) : Prop := H a = some (.tup xs) ∨ ∃ o : Obj, o.dict = none ∧ H a = some (.frz o (.tup xs))
theorem TupAt.sq {K : PySem.W.Frag} {H : Hp} {a : Addr} {xs : List V} (h : TupAt H a xs) : SqT K H a xs := by
  rcases h with h | ⟨o, _, h⟩
  · exact .inl (.inl h)
  · exact .inl (.inr ⟨o, h⟩)
theorem TupAt.ext {bx : Addr} {H H' : Hp} {a : Addr} {xs : List V} (e : Ext bx H H') (n : a ≠ bx) (h : TupAt H a xs) : TupAt H' a xs := by
  rcases h with h | ⟨o, d, h⟩
  · exact .inl (e _ _ n h)
  · exact .inr ⟨o, d, e _ _ n h⟩
theorem TupAt.ty {K : PySem.W.Frag} {H : Hp} {a : Addr} {xs : List V} (h : TupAt H a xs) : TyX K H (.ref a) (.type "tuple") := by
  rcases h with h | ⟨o, d, h⟩
  · exact .base (.tup h)
  · exact .fTuple h
/-! data in the heap, the box not among it -/
mutual
inductive Rp (bx : Addr) (H : Hp) : V → PyData → Prop
  | non : Rp bx H .non .none
  | bl (b : Bool) : Rp bx H (.bl b) (.bool b)
  | int (i : Int) : Rp bx H (.int i) (.int i)
  | str (x : Str) : Rp bx H (.str x) (.str x)
  | lst {a : Addr} {xs : List V} {ds : List PyData} : H a = some (.lst xs) → a ≠ bx → RpAll bx H xs ds → Rp bx H (.ref a) (.list ds)
  | tup {a : Addr} {xs : List V} {ds : List PyData} : TupAt H a xs → a ≠ bx → RpAll bx H xs ds → Rp bx H (.ref a) (.tuple ds)
inductive RpAll (bx : Addr) (H : Hp) : List V → List PyData → Prop
  | nil : RpAll bx H [] []
  | cons {v : V} {vs : List V} {d : PyData} {ds : List PyData} : Rp bx H v d → RpAll bx H vs ds → RpAll bx H (v :: vs) (d :: ds)
end
mutual
theorem Rp.ext {bx : Addr} {H H' : Hp} (e : Ext bx H H') : ∀ {v : V} {d : PyData}, Rp bx H v d → Rp bx H' v d
  | _, _, .non => .non
  | _, _, .bl b => .bl b
  | _, _, .int i => .int i
  | _, _, .str x => .str x
  | _, _, .lst h n r => .lst (e _ _ n h) n (RpAll.ext e r)
  | _, _, .tup h n r => .tup (h.ext e n) n (RpAll.ext e r)
theorem RpAll.ext {bx : Addr} {H H' : Hp} (e : Ext bx H H') : ∀ {vs : List V} {ds : List PyData}, RpAll bx H vs ds → RpAll bx H' vs ds
  | _, _, .nil => .nil
  | _, _, .cons h r => .cons (Rp.ext e h) (RpAll.ext e r)
end
mutual
theorem Rp.dp {bx : Addr} {K : PySem.W.Frag} {H : Hp} : ∀ {v : V} {d : PyData}, Rp bx H v d → Dp K H v d
  | _, _, .non => .non
  | _, _, .bl b => .bl b
  | _, _, .int i => .int i
  | _, _, .str x => .str x
  | _, _, .lst h n r => .lst (.inl (.inl h)) (RpAll.dp r)
  | _, _, .tup h n r => .tup h.sq (RpAll.dp r)
theorem RpAll.dp {bx : Addr} {K : PySem.W.Frag} {H : Hp} : ∀ {vs : List V} {ds : List PyData}, RpAll bx H vs ds → DpAll K H vs ds
  | _, _, .nil => .nil
  | _, _, .cons h r => .cons (Rp.dp h) (RpAll.dp r)
end
theorem RpAll.length {bx : Addr} {H : Hp} : ∀ {vs : List V} {ds : List PyData}, RpAll bx H vs ds → vs.length = ds.length
  | _, _, .nil => rfl
  | _, _, .cons _ r => by rw [List.length_cons, List.length_cons, r.length]
theorem RpAll.get {bx : Addr} {H : Hp} : ∀ {vs : List V} {ds : List PyData} {i : Nat} {d : PyData}, RpAll bx H vs ds → ds[i]? = some d → ∃ v, vs[i]? = some v ∧ Rp bx H v d
  | _, _, _, _, .nil, e => by simp at e
  | _, _, 0, _, .cons r _, e => by simp at e; subst e; exact ⟨_, rfl, r⟩
  | _, _, i + 1, d, .cons _ t, e => by
    obtain ⟨u, h1, h2⟩ := RpAll.get (i := i) (d := d) t (by simpa using e)
    exact ⟨u, by simpa using h1, h2⟩
theorem RpAll.append {bx : Addr} {H : Hp} : ∀ {vs ws : List V} {ds es : List PyData}, RpAll bx H vs ds → RpAll bx H ws es → RpAll bx H (vs ++ ws) (ds ++ es)
  | _, _, _, _, .nil, s => s
  | _, _, _, _, .cons r t, s => .cons r (RpAll.append t s)
theorem RpAll.ints {bx : Addr} {H : Hp} : ∀ (ns : List Int), RpAll bx H (ns.map V.int) (ns.map PyData.int)
  | [] => .nil
  | n :: r => .cons (.int n) (RpAll.ints r)
theorem RpAll.ofInts {bx : Addr} {H : Hp} : ∀ {ns : List Int} {vs : List V}, RpAll bx H vs (ns.map PyData.int) → vs = ns.map V.int
  | [], _, .nil => rfl
  | n :: r, _, .cons (.int _) t => by rw [RpAll.ofInts t]; rfl
end Lh

namespace Lh
open PySem PySem.Spec PyProof.Rows L2

/-! ### defs that want to know that no repr is under way around them -/
structure FnG (P : Program) (w : World) (K : PySem.W.Frag) (mg : Str → Option Value) (base : Heap) (k : Nat) (f : Addr) (fd : FuncData) (ps : List Str) (sp : Sp) : Prop where
  len : ∀ vs H Q E, sp vs H Q E → vs.length = ps.length
  run : ∀ (B : Around) (out : List Env) (t : Shared) (H : Hp) (args : Args) (us : List Value) (vs : List V) (Q : VK) (E : XK), Room k B → B.guards = some [] →
    Env0 P w K mg base B out t H → BindsTo t fd args (ps.zip us) → Vals vs us → sp vs H Q E → codeAny (model P w) B (.call (.ref f) args) (CR CX0 out P w H t Q E) t
section
variable {P : Program} {w : World} {K : PySem.W.Frag} {mg : Str → Option Value} {base : Heap}
theorem okG {x qual : Str} {st : Stmt} {f : Addr} {fd : FuncData} {N ps : List Str} {k : Nat} {sp : Sp} (F : Fun K x qual st f fd) (S : FnScope N ps (defScope st)) (len : ∀ vs H Q E, sp vs H Q E → vs.length = ps.length)
    (body : ∀ (cd : Value) (B : Around) (out : List Env) (t : Shared) (H : Hp) (vs : List V) (Q : VK) (E : XK), Room k (B.deeper (envOfC qual (defScope st) t.heap.objs.size f cd)) →
      (B.deeper (envOfC qual (defScope st) t.heap.objs.size f cd)).guards = some [] → sp vs H Q E →
      ∃ r, PSs (cxOf CX0 P w K mg base N qual (defScope st) f cd B out t H E).nox (defBody st) r ∧ r { nx := fun _ H' => Q .non H', rt := Q } (start N vs) H) : FnG P w K mg base (k + 1) f fd ps sp := by
  obtain ⟨oc, od, kV, doc, pm, an, cd, ct, osl, rfl, lk, hcd⟩ := F.ex
  refine ⟨len, fun B out t H args us vs Q E hr hG e0 hb r hsp => ?_⟩
  have hl := len _ _ _ _ hsp
  have kx : K.In t.heap := e0.mod.kin.keeps fun b o e => (e0.bs b o e).1
  have li : t.heap.NoLimit := e0.mod.nolimit.keeps fun b o e => (e0.bs b o e).1
  have kind : ∀ y ∈ ps.zip us, (defScope st).names.lookup y.1 = some .local ∨ ((defScope st).names.lookup y.1 = some .cell ∧ ((cellsFrom (t.heap.objs.size + 1) (defScope st).names []).lookup y.1).isSome = true) := by
    rintro ⟨n, v⟩ hy
    rcases S.par n (List.of_mem_zip hy).1 with q | q
    · exact .inl q
    · exact .inr ⟨q, PySem.W.cellsFrom_some _ _ _ (.inl q)⟩
  refine codeAny_call_function hr.depth (kx _ _ lk) rfl S.co S.gen rfl (PySem.W.codeRec_of kx hcd) (hb _ _ _ _ ?_)
  refine wpAny_newFunctionEnv_cells S.kind kind fun env he t1 x => ?_
  subst he
  refine ⟨li.keeps x.toInCall.keep, codeAny_func ?_⟩
  obtain ⟨rd, h0, hq⟩ := body cd B out t H vs Q E (hr.deeper _) hG hsp
  have hrd := h0.nox
  have I : Inv (cxOf CX0 P w K mg base N qual (defScope st) f cd B out t H E) [] (start N vs) H t1 := inv_start S hr.hd e0 hl r x
  refine wpAny_mono (hrd.run [] t1 (start N vs) H _ I hq) (fun fl t' hs => ?_) fun e t' hs => hs
  have fin : ∀ {σ' : L2.St} {H' : Hp} {v : V} {u : Value}, Inv (cxOf CX0 P w K mg base N qual (defScope st) f cd B out t H E) [] σ' H' t' → RelV v u → Q v H' → CE out P w H t Q u t' := by
    intro σ' H' v u J rv q
    exact ⟨v, H', J.os, J.bare, J.base, J.hok, rv, q⟩
  cases fl with
  | ret u =>
    obtain ⟨v, σ', H', J, rv, q⟩ := hs
    exact fin J rv q
  | next =>
    obtain ⟨σ', H', J, q⟩ := hs
    exact fin (v := V.non) (u := Value.none) J rfl q
  | brk => obtain ⟨_, _, _, q⟩ := hs; exact False.elim q
  | cont => obtain ⟨_, _, _, q⟩ := hs; exact False.elim q
end
section
variable {X : Cx} {k n : Nat} {f : Addr} {fd : FuncData} {ps ks : List Str} {sp : Sp} {x : Str} {p pos : Pos} {e : Expr} {es : List Expr} {kws : List Keyword} {t tk : TA} {g : List Value → List Value → List Value} {gV : List V → List V → List V}
theorem pe_callG (F : FnG X.prog X.w X.K X.mg X.base k f fd ps sp) (hr : Room k X.A) (hG : X.A.guards = some []) (hg : Gl X x) (hm : X.mg x = some (.ref f)) (hk : PySem.W.keepIn X.K (.ref f) = true) (hb : Binds X.K fd ps [])
    (ha : PA X (e :: es) t) (hdb : (x == ("__debug__" : Str)) = false := by decide) (he : starEach (e :: es) X.env = (false, eval e X.env) :: starEach es X.env := by rfl) (hpl : (backTo pos (starEach es X.env)).any (·.1) = false := by rfl) :
    PE X (.Call (.Name x p) (e :: es) [] pos) (tCall sp [] E0 t) := by
  refine ⟨fun pins s σ H Q I h => ?_⟩
  refine wpAny_Call_Name_kw (ld_glob I hg hm ?_ hdb)
  refine PySem.W.callWith_K (h₀ := X.base) I.ok.mod.kin hk (thn (ha.run pos pins s σ H _ I h) fun us s1 ⟨vs, H1, I1, r, q⟩ => ⟨I1.kIn, ?_⟩) he hpl
  have r2 : Vals (vs ++ []) (us ++ []) := r.append .nil
  have hl : (us ++ []).length = ps.length := by rw [← r2.length]; exact F.len _ _ _ _ q
  refine wpAny_call (codeAny_mono (F.run X.A X.stack s1 H1 ⟨us, []⟩ (us ++ []) (vs ++ []) Q E0 hr hG I1.env0 (hb s1 us I1.kIn hl) r2 q) fun r s' hq => ?_)
  cases r with
  | error e => exact False.elim hq
  | ok fl =>
    cases fl with
    | ret u => exact I1.after hq
    | next => exact False.elim hq
    | brk => exact False.elim hq
    | cont => exact False.elim hq
/-- f(k = v, ..): keywords alone -/
theorem pe_callN0 (F : FnOk X.prog X.w X.K X.mg X.base CX0 k f fd ps sp) (hr : Room k X.A) (hg : Gl X x) (hm : X.mg x = some (.ref f)) (hk : PySem.W.keepIn X.K (.ref f) = true) (hb : KBn X.K fd ps 0 ks g gV)
    (hkw : PK X kws tk) (hall : (backToKw pos (keywordEach kws X.env)).all (·.1.isSome) = true := by rfl) (hks : (backToKw pos (keywordEach kws X.env)).filterMap (·.1) = ks := by rfl)
    (hdb : (x == ("__debug__" : Str)) = false := by decide)
    (hpl : ((backTo pos (starEach [] X.env)).any (·.1) || (backToKw pos (keywordEach kws X.env)).any (·.1.isNone)) = false := by rfl) :
    PE X (.Call (.Name x p) [] kws pos) (tCallN 0 ks.length sp gV E0 tNil tk) := by
  refine ⟨fun pins s σ H Q I h => ?_⟩
  refine wpAny_Call_Name_kw (ld_glob I hg hm ?_ hdb)
  refine PySem.W.callWith_KW0 (h₀ := X.base) I.ok.mod.kin hk hall ?_ hpl
  refine thn (hkw.run pos pins s σ H _ I h) fun ws s2 ⟨zs, H2, I2, rz, l1, l2, q2⟩ => ⟨I2.kIn, ?_⟩
  rw [hks]
  exact run_fnN (us := []) (vs := []) F hr hb pass0 I2 .nil rz rfl l2 q2
end
/-- values put in another order -/
def permV {α : Type} (js : List Nat) (xs : List α) : List α := js.filterMap fun j => xs[j]?
theorem permV_rel (js : List Nat) : ∀ {vs : List V} {us : List Value}, Vals vs us → Vals (permV js vs) (permV js us) := by
  intro vs us r
  induction js with
  | nil => exact .nil
  | cons j js ih =>
    unfold permV
    rw [List.filterMap_cons, List.filterMap_cons]
    cases e : vs[j]? with
    | none =>
      rw [r.none_of e]
      exact ih
    | some v =>
      obtain ⟨u, e1, e2⟩ := r.get e
      rw [e1]
      exact .cons e2 ih

/-! ### the law's call -/
theorem law_callG {P : Program} {w : World} {K : PySem.W.Frag} {mg mb : Str → Option Value} {k : Nat} {fa a : Addr} {fd : FuncData} {x : Str} {sp : Sp} {t : Shared} {vs : List Value} {ns : List Int}
    (kx : K.In t.heap) (hns : t.heap.Ns mainGlobals mg) (hb : t.heap.Ns builtinsNs mb) (hbb : ∀ x : Str, x ≠ "__name__" → mb x = bootBuiltins x) (li : t.heap.NoLimit) (hg : t.gens = #[])
    (ha : t.heap.get? a = some { cls := .type "list", data := .seq vs.toArray }) (hi : IntsAre vs ns) (hl : ns.length ≤ sizeLine) (hr : Room k callerA)
    (F : ∀ base : Heap, K.In base → base.Ns mainGlobals mg → FnG P w K mg base k fa fd [x] sp) (bd : ∀ (s : Shared) (u : Value), BindsTo s fd ⟨[u], []⟩ [(x, u)])
    (hsp : ∀ H : Hp, Only H → SqL K H a (ns.map V.int) → sp [.ref a] H (fun v _ => v = .bl true) fun _ _ _ => False) :
    codeAny (model P w) callerA (.call (.ref fa) ⟨[.ref a], []⟩) (fun r t' => r = .ok (.ret (.bool true)) ∧ OldK t.heap t'.heap ∧ t'.os = t.os ∧ AllBare t'.gens) t := by
  have rv := vals_ints hi
  have lenV := hi.length
  have core : ∀ H : Hp, Only H → SqL K H a (ns.map V.int) → HOk P w H t.heap → (∀ b, H b ≠ none → b = a) → (H a ≠ none → K.lookup a = none) →
      codeAny (model P w) callerA (.call (.ref fa) ⟨[.ref a], []⟩) (fun r t' => r = .ok (.ret (.bool true)) ∧ OldK t.heap t'.heap ∧ t'.os = t.os ∧ AllBare t'.gens) t := by
    intro H hO hS ok hA hK
    have bo : ∀ {b : Addr} {o : Obj}, t.heap.get? b = some o → H b = none → (hidT t.heap H).get? b = some o := fun e n => hidT_get e n
    have nd : ∀ {b : Addr} {o : Obj} {es : Array DictEntry} {ep : Nat}, t.heap.get? b = some o → o.data = .dict es ep → H b = none := by
      intro b o es ep e d
      cases q : H b with
      | none => rfl
      | some u =>
        have e' : b = a := hA b (by rw [q]; simp)
        subst e'
        rw [ha] at e; cases e
        have d2 : Data.seq vs.toArray _ = Data.dict es ep := d
        cases d2
    have nk : ∀ {b : Addr} {m : Str → Option Value}, t.heap.Ns b m → (hidT t.heap H).Ns b m := by
      rintro b m ⟨o, es, ep, e, d, r⟩
      exact ⟨o, es, ep, bo e (nd e d), d, r⟩
    have kb : K.In (hidT t.heap H) := by
      intro b o e
      refine bo (kx b o e) ?_
      cases q : H b with
      | none => rfl
      | some u =>
        have e' : b = a := hA b (by rw [q]; simp)
        subst e'
        rw [hK (by rw [q]; simp)] at e; cases e
    have hM : Mod K mg (hidT t.heap H) := by
      obtain ⟨mc, h1, h2⟩ := li
      exact ⟨kb, nk hns, ⟨mb, nk hb, hbb⟩, ⟨mc, nk h1, h2⟩⟩
    have e0 : Env0 P w K mg (hidT t.heap H) callerA [] t H := by
      refine ⟨rfl, hM, fun b o e => of_hidT e, Nat.le_of_eq (hidT_size _ _), trivial, ?_, ok, .of_eq hg⟩
      intro b hb
      exact absurd (show b ∈ ([] : List Addr) from hb) (by simp)
    refine codeAny_mono ((F _ kb (nk hns)).run callerA [] t H ⟨[.ref a], []⟩ [.ref a] [.ref a] _ _ hr rfl e0 (bd t (.ref a)) (.cons rfl .nil) (hsp H hO hS)) ?_
    intro r t' h
    cases r with
    | error e => exact False.elim h
    | ok fl =>
      cases fl with
      | next => exact False.elim h
      | brk => exact False.elim h
      | cont => exact False.elim h
      | ret u =>
        obtain ⟨v, H', os, bare, un, ok', r', q⟩ := h
        have q2 : v = .bl true := q
        subst q2
        obtain rfl : u = Value.bool true := r'
        refine ⟨rfl, OldK.of_keep fun b o e => ?_, os, bare⟩
        cases q : H b with
        | none =>
          refine un.keep b o e q ?_ (by simp)
          intro z
          exact absurd (show b ∈ ([] : List Addr) from z) (by simp)
        | some u =>
          rcases hO b with z | ⟨ob, xs, z⟩
          · rw [q] at z; cases z
          · have z2 := un.frzs b ob _ z
            obtain ⟨e1, _⟩ := ok b _ z
            obtain ⟨e2, _⟩ := ok' b _ z2
            rw [e] at e1; cases e1
            exact e2
  cases hk : K.lookup a with
  | some o =>
    have e := kx a o hk
    rw [ha] at e
    cases e
    refine core (fun _ => none) (fun _ => .inl rfl) (.inr ⟨_, vs.toArray, _, hk, rfl, rfl, rfl, by rw [List.size_toArray, lenV]; exact hl, by simpa using rv⟩) ?_ (fun b z => absurd rfl z) fun z => absurd rfl z
    intro b u z
    have z2 : (none : Option HO) = some u := z
    cases z2
  | none =>
    refine core (fun b => if b = a then some (.frz { cls := .type "list", data := .seq vs.toArray } (.lst (ns.map V.int))) else none) (fun b => ?_) (.inl (.inr ⟨_, if_pos rfl⟩)) (fun b u z => ?_) (fun b z => ?_) fun _ => hk
    · by_cases hb : b = a
      · exact .inr ⟨_, _, if_pos hb⟩
      · exact .inl (if_neg hb)
    · by_cases hb : b = a
      · have z2 := (if_pos hb).symm.trans z
        cases z2
        subst hb
        exact ⟨ha, by rw [List.length_map]; exact hl, vs, _, rv, ha⟩
      · have z2 := (if_neg hb).symm.trans z
        cases z2
    · by_cases hb : b = a
      · exact hb
      · exact absurd (if_neg hb) z
theorem walk_G {l : PySem.W.OpenLaw} {n k : Nat} {q : Program} {loose : List Str} {XP : (Str → Option Value) → Heap → Prop} {YP : World → Heap → Prop} {d : DefRec} {K : Params → PySem.W.Frag} {sp : World → Sp} {x : Str}
    (hn : l.most = some n) (hn2 : n ≤ sizeLine) (hdf : d.params.defaults = []) (hr : Room k callerA)
    (hY : ∀ (w : World) (h : Heap), YP w h → (K w.params).In h)
    (F : ∀ (w : World) (mg : Str → Option Value) (fa : Addr) (h : Heap), (K w.params).In h → h.Ns mainGlobals mg → mg d.name = some (.ref fa) →
      ∃ fd : FuncData, (∀ (s : Shared) (u : Value), BindsTo s fd ⟨[u], []⟩ [(x, u)]) ∧
        ∀ base : Heap, (K w.params).In base → base.Ns mainGlobals mg → FnG l.prog w (K w.params) mg base k fa fd [x] (sp w))
    (hsp : ∀ (w : World) (H : Hp) (a : Addr) (ns : List Int), ns.length ≤ n → Only H → SqL (K w.params) H a (ns.map V.int) → sp w [.ref a] H (fun v _ => v = .bl true) fun _ _ _ => False) :
    PySem.W.WalkO q loose XP YP l.row.toRowW d [] (fun f vs => PySem.call f vs) := by
  refine Att.attach_call hn hdf ?_
  intro w s₀ t mg mb fa o pm cd doc a vs ns G Y ho hd hcd hmg hobj hints hlen hg
  obtain ⟨fd, hb, hF⟩ := F w mg fa _ (hY w _ Y) G.T.g hmg
  exact law_callG (hY w _ Y) G.T.g G.T.b G.T.builtins G.T.nolimit hg hobj hints (Nat.le_trans hlen hn2) hr hF hb (fun H hO hS => hsp w H a ns hlen hO hS)
end Lh

namespace Lh
open PySem PySem.Spec PyProof.Rows L2
/-! ### set(numbers), numbers a list -/
/-- a set as it is first laid -/
abbrev bareSet (w : World) : Obj := { cls := .type "set", dict := none, data := .set #[] 0 (.fresh 0 0 (!w.params.followText "set-order")) }
/-- the set at the heap's end holds just ns, all else is kept -/
def Filled (w : World) (s t : Shared) (ns : List Int) : Prop := ∃ (g : Heap) (tk c : Nat), t = { s with heap := g, toks := tk } ∧ SetR w g s.heap.objs.size (fun j => decide (j ∈ ns)) c ∧ c ≤ ns.length ∧ ∀ b o, s.heap.get? b = some o → g.get? b = some o
theorem ints_at : ∀ {us : List Value} {ns : List Int}, IntsAre us ns → us.length = ns.length ∧ ∀ (i : Nat) (v : Value), us[i]? = some v → ∃ k t, ns[i]? = some k ∧ v = .int k t
  | _, _, .nil => ⟨rfl, fun i v e => absurd e (by simp)⟩
  | _, _, .cons n t r => by
    obtain ⟨h1, h2⟩ := ints_at r
    refine ⟨congrArg (· + 1) h1, fun i v e => ?_⟩
    cases i with
    | zero => exact ⟨n, t, rfl, (Option.some.inj e).symm⟩
    | succ i => exact h2 i v e
section
variable {P : Program} {w : World} {A : Around} {E : Value → Shared → Prop} {s : Shared} {l : Addr} {items : Array Value} {ns : List Int}
set_option maxHeartbeats 3200000 in
theorem set_init (hh : A.handled = none) (hl : s.heap.IsList l items) (hi : IntsAre items.toList ns) (hb : ns.length + 1 < scanBound) :
    codeAny (model P w) A (.call (.builtin "set.__init__") ⟨[.ref s.heap.objs.size, .ref l], []⟩) (wants (fun r t => r = .none ∧ Filled w s t ns) E) { s with heap := s.heap.push (bareSet w) } := by
  obtain ⟨hsz, hat⟩ := ints_at hi
  rw [Array.length_toList] at hsz
  have top : (s.heap.push (bareSet w)).get? s.heap.objs.size = some (bareSet w) := Heap.get?_push_size _ rfl
  refine codeAny_call_builtin F.called_set.init.plain F.entry_set_init (check_set_init_1 ⟨_, top, rfl⟩ ?_)
  have hl0 := hl
  obtain ⟨⟨k, dc, da, sl⟩, ho, ek, n, ed⟩ := hl
  dsimp only at ek ed
  subst ek ed
  have lt := Heap.lt_size ho
  have ho2 : (s.heap.push (bareSet w)).get? l = _ := Heap.get?_push_of_some _ ho
  have f1 := F.sub_list_set
  have f2 := F.sub_list_frozenset
  have f3 : (Value.type "list" == Value.type "dict") = false := by decide
  unfold Builtin.«set.__init__»
  unfold noKeywords
  unfold Builtin.Frozenset.updateFrom
  generalize ei : pyIter = it
  wp_walk
  subst ei
  have sz : (s.heap.push (bareSet w)).objs.size = s.heap.objs.size + 1 := Heap.size_push ..
  refine wpAny_pyIter_list (hl0.push _) (wpAny_bind (wpAny_runValue ?_))
  have wk := fun (B : Around) (hB : B.handled = none) => (Walks.list (prog := P) (w := w) (A := B) hB (s.heap.push (bareSet w)).objs.size l (by rw [sz]; exact Nat.ne_of_lt (Nat.lt_succ_of_lt lt)) items).toS
  refine set_update_ints (wk _ (by simp [hh])) s.heap.objs.size (by rw [sz]; exact fun z => (List.mem_cons.mp z).elim (Nat.ne_of_lt (Nat.lt_succ_self _)) fun z => Nat.ne_of_gt lt (List.mem_singleton.mp z)) ns hsz hb (fun i v e => hat i v (by rw [Array.getElem?_toList]; exact e)) items.size 0 _ (by omega) (Nat.zero_le _) ⟨⟨_, Heap.get?_push_size _ rfl, rfl, rfl⟩, (hl0.push _).push _⟩ ⟨0, Nat.le_refl 0, setR_new_at (Heap.get?_push_of_some _ top)⟩ ?_
  rintro ⟨g, g2, d2, tk, o2⟩ c mv hc R
  cases (show g2 = s.gens from mv.gens)
  cases (show d2 = s.drawn from mv.drawn)
  cases (show o2 = s.os from mv.os)
  refine wpAny_pure (show wpAny _ _ (ret Value.none) _ _ _ from wpAny_pure ⟨rfl, g, tk, c, rfl, R, by omega, fun b o e => ?_⟩)
  have lb := Heap.lt_size e
  exact mv.heap b o (by rw [sz]; exact fun z => (List.mem_cons.mp z).elim (Nat.ne_of_lt lb) fun z => Nat.ne_of_lt (Nat.lt_succ_of_lt lb) (List.mem_singleton.mp z)) (Heap.get?_push_of_some _ (Heap.get?_push_of_some _ e))
set_option maxHeartbeats 3200000 in
theorem set_of_list (ns : List Int) {Q : Value → Shared → Prop} (hh : A.handled = none) (hl : s.heap.IsList l items) (hi : IntsAre items.toList ns) (hb : ns.length + 1 < scanBound) (q : ∀ t, Filled w s t ns → Q (.ref s.heap.objs.size) t) :
    wpAny (model P w) A (call (.type "set") [.ref l]) Q E s := by
  have c1 := F.called_set.made
  have c2 := F.called_set.sub
  have c3 := F.called_set.notType
  have c4 := F.called_set.canCreate
  have c5 := F.typeCall_set_1 (.ref l)
  have c6 := F.called_set.init.lookup
  have c7 := F.called_set.init.bind (.ref s.heap.objs.size)
  obtain ⟨m1, m2, c8⟩ := F.called_set.mro
  refine wpAny_call (codeAny_of_tree (show wpAny _ _ (callAny (.type "set") _) _ _ _ from wpAny_pure ⟨Code.quiet_builtin _ (by decide +kernel), codeAny_builtin F.entry_type_call ?_⟩))
  rw [Around.under_plain (weight_type_call_type "set" [.ref l] []) rfl]
  repeat any_goals first | assumption | wp_step
  refine codeAny_mono (code_set_led1 (.ref l) (E := E) (Q₁ := fun x t => x = .ref s.heap.objs.size ∧ t = { s with heap := s.heap.push (bareSet w) }) ⟨rfl, rfl⟩) ?_
  rintro (e | fl) t ht
  · exact ht
  cases fl with
  | next => exact ht.elim
  | brk => exact ht.elim
  | cont => exact ht.elim
  | ret x =>
    obtain ⟨rfl, rfl⟩ := ht
    have ty : Shared.TypeIs { s with heap := s.heap.push (bareSet w) } (.ref s.heap.objs.size) "set" := ⟨_, Heap.get?_push_size _ rfl, rfl⟩
    repeat any_goals first | assumption | wp_step
    refine codeAny_mono (set_init (E := E) (by simp [hh]) hl hi hb) ?_
    rintro (e | fl) t2 ht2
    · exact ht2
    cases fl with
    | next => exact ht2.elim
    | brk => exact ht2.elim
    | cont => exact ht2.elim
    | ret y =>
      obtain ⟨rfl, f⟩ := ht2
      repeat any_goals first | assumption | wp_step
      exact q _ f
end
end Lh

namespace Lh
open PySem PySem.Spec PyProof.Rows L2
section
variable {X : Cx}
/-- repr of data -/
def rRepr (K : PySem.W.Frag) : List V → Hp → VK → Prop := fun xs H Q => ∃ (a : Addr) (d : PyData), xs = [.ref a] ∧ Dp K H (.ref a) d ∧ d.showable = true ∧ d.hasDict = false ∧ d.depth ≤ 60 ∧ d.shown.length ≤ sizeLine ∧ Q (.str d.shown) H
theorem call_reprD (hG : X.A.guards = some []) (hu : X.A.units + 64 < cLine) : CallR X (.builtin "repr") (rRepr X.K) := by
  intro pins s σ H xs us Q I r h
  obtain ⟨a, d, rfl, hd, h1, h2, h3, h4, q⟩ := h
  have e := Vals.ref1 r
  subst e
  obtain ⟨as, rd⟩ := Dp.reads I d (.ref a) (.ref a) hd rfl
  exact repr_of_reads' rd h1 (fun z => by rw [h2] at z; cases z) hG (by omega) (fun b o e => e) (fun h' u tk hk => ⟨.str d.shown, H, I.kept hk, ⟨u, rfl⟩, q⟩) h4
/-- max(numbers, default=d) of a list of ints -/
def rMaxD (K : PySem.W.Frag) : List V → List V → Hp → VK → Prop := fun xs zs H Q => ∃ (a : Addr) (ns : List Int) (d : Int), xs = [.ref a] ∧ zs = [.int d] ∧ SqL K H a (ns.map V.int) ∧
  ∀ m, (ns = [] → m = d) → (ns ≠ [] → m ∈ ns ∧ ∀ y ∈ ns, y ≤ m) → Q (.int m) H
theorem foldl_max (ns : List Int) : ∀ n : Int, (ns.foldl max n = n ∨ ns.foldl max n ∈ ns) ∧ n ≤ ns.foldl max n ∧ ∀ y ∈ ns, y ≤ ns.foldl max n := by
  induction ns with
  | nil => intro n; exact ⟨.inl rfl, Int.le_refl _, fun y h => absurd h (by simp)⟩
  | cons m r ih =>
    intro n
    obtain ⟨h1, h2, h3⟩ := ih (max n m)
    rw [List.foldl_cons]
    refine ⟨?_, by omega, fun y hy => ?_⟩
    · rcases h1 with h1 | h1
      · by_cases c : n ≤ m
        · right; rw [h1]; rw [Int.max_eq_right c]; exact List.mem_cons_self
        · left; rw [h1]; omega
      · right; exact List.mem_cons_of_mem _ h1
    · rcases List.mem_cons.mp hy with rfl | hy
      · omega
      · exact h3 y hy
theorem cr_maxD (hc : X.calm = true) (hu : X.A.units + 64 < cLine) : CallRK X (.builtin "max") [Str.ofString "default"] (rMaxD X.K) := by
  intro pins s σ H xs zs us ws Q I r rz h
  obtain ⟨a, ns, d, rfl, rfl, hs, q⟩ := h
  obtain ⟨its, rv, hl, _⟩ := I.list hs
  rw [Vals.ref1 r]
  cases rz with
  | cons rd rt =>
    cases rt
    obtain ⟨td, rfl⟩ := rd
    obtain ⟨as, ra⟩ := Dp.readsAll I (ns.map PyData.int) _ its (RpAll.dp (bx := 0) (RpAll.ints ns)) rv
    have dpt : ∀ l : List Int, PyData.depthAll (l.map PyData.int) = 0 := fun l => by
      induction l with
      | nil => rfl
      | cons x r ih => rw [List.map_cons]; show max 0 (PyData.depthAll (r.map PyData.int)) = 0; rw [ih]; rfl
    refine PySem.W.max_list_default (I.ok.hd hc) hl.isList (vs := its.toArray) (xs := ns.map PyData.int) (by simpa using ra) ⟨fun x hx y hy => ?_, fun x hx => ?_⟩ (by rw [dpt]; omega) (fun e h' tk hk => ?_) (fun y ys i v h' tk bs e hv rd hk => ?_)
    · obtain ⟨i, _, rfl⟩ := List.mem_map.mp hx
      obtain ⟨j, _, rfl⟩ := List.mem_map.mp hy
      rfl
    · obtain ⟨i, _, rfl⟩ := List.mem_map.mp hx
      intro z; cases z
    · have e0 : ns = [] := List.map_eq_nil_iff.mp e
      exact ⟨.int d, H, I.kept hk, ⟨_, rfl⟩, q d (fun _ => rfl) (fun z => absurd e0 z)⟩
    · cases ns with
      | nil => cases e
      | cons n r =>
        rw [List.map_cons] at e
        cases e
        rw [PySem.W.maxD_ints] at rd
        cases rd
        obtain ⟨h1, h2, h3⟩ := foldl_max r n
        refine ⟨.int (r.foldl max n), H, I.kept hk, ⟨_, rfl⟩, q _ (fun z => by cases z) (fun _ => ⟨?_, fun y hy => ?_⟩)⟩
        · rcases h1 with h1 | h1
          · rw [h1]; exact List.mem_cons_self
          · exact List.mem_cons_of_mem _ h1
        · rcases List.mem_cons.mp hy with rfl | hy
          · exact h2
          · exact h3 y hy
/-- set(numbers) of a list of ints -/
def rSetL (K : PySem.W.Frag) (w : World) : List V → Hp → VK → Prop := fun xs H Q => ∃ (a : Addr) (ns : List Int), xs = [.ref a] ∧ SqL K H a (ns.map V.int) ∧ ns.length ≤ 1000 ∧
  ∀ (p : Addr) (c : Nat) (ks : List Int), H p = none → ks.Nodup → ks.length = c → c ≤ ns.length → (∀ k, k ∈ ks ↔ k ∈ ns) → Q (.ref p) (upd H p (SetO w p (fun j => decide (j ∈ ns)) c))
theorem cr_setL (hc : X.calm = true) : CallR X (.type "set") (rSetL X.K X.w) := by
  intro pins s σ H xs us Q I r h
  obtain ⟨a, ns, rfl, hs, hl, q⟩ := h
  obtain ⟨its, rv, pl, _⟩ := I.list hs
  rw [Vals.ref1 r]
  refine set_of_list ns (I.ok.hd hc) pl.isList (by simpa using RZ.intsAre_vals rv) (by unfold scanBound; omega) ?_
  rintro t ⟨h', tk, c, rfl, R, hle, hk⟩
  have R' := R
  obtain ⟨o, es, ep, t, ho, _, _, _, nd, hm, _, _, hn, _⟩ := R'
  refine ⟨.ref s.heap.objs.size, upd H s.heap.objs.size (SetO X.w s.heap.objs.size (fun j => decide (j ∈ ns)) c), I.laid (t' := tk) hk (Nat.le_refl _) (setO_new R), rfl, ?_⟩
  refine q _ c (es.toList.map keyOf) (I.hok.fresh (Nat.le_refl _)) nd (by rw [List.length_map, Array.length_toList]; exact hn) hle fun k => ?_
  rw [← hm k]
  exact decide_eq_true_iff
/-- len of such a set -/
def rLenSet (w : World) : List V → Hp → VK → Prop := fun xs H Q => ∃ (a : Addr) (S : Int → Bool) (c : Nat), xs = [.ref a] ∧ H a = some (SetO w a S c) ∧ c ≤ 1000 ∧ Q (.int (c : Int)) H
theorem cr_lenSet : CallR X (.builtin "len") (rLenSet X.w) := by
  intro pins s σ H xs us Q I r h
  obtain ⟨a, S, c, rfl, ha, hl, q⟩ := h
  rw [Vals.ref1 r]
  obtain ⟨o, es, ep, t, ho, hx, hd, _, _, _, _, hf, hn, _⟩ := setO_get I ha
  refine call_len_set ho hx hd hf (by rw [hn]; omega) ⟨.int (c : Int), H, I.tok _, ⟨_, by rw [hn]⟩, q⟩
/-- tuple(numbers) of a list: a new tuple, whose object bears no names -/
theorem call_tupleF : CallR X (.type "tuple") (fun xs H Q => ∃ p ys, xs = [.ref p] ∧ SqL X.K H p ys ∧ ∀ l (o : Obj), H l = none → o.dict = none → Q (.ref l) (upd H l (.frz o (.tup ys)))) := by
  intro pins s σ H xs us Q I r h
  obtain ⟨p, ys, rfl, hq, q⟩ := h
  rw [Vals.ref1 r]
  obtain ⟨its, rv, pl, hz⟩ := I.list hq
  have hlen := rv.length
  refine call_tuple_list pl.isList (fun h' kp => ?_) (by simp only [List.size_toArray]; omega)
  have J : Inv X pins σ H { s with heap := h' } := I.kept (t' := s.toks) kp
  have J2 := J.laid (t' := s.toks) (o := .frz { cls := .type "tuple", data := .seq its.toArray } (.tup ys)) (h' := h'.push { cls := .type "tuple", data := .seq its.toArray })
    (fun b o e => Heap.get?_push_of_some _ e) (Nat.le_refl _) ⟨Heap.get?_push_size _ rfl, hz, its, rv, IsTup.new _ _⟩
  exact ⟨.ref h'.objs.size, _, J2, rfl, q _ _ (J.hok.fresh (Nat.le_refl _)) rfl⟩
/-- dict(pairs) of such a tuple of pairs -/
theorem call_dictT (hc : X.calm = true) : CallR X (.type "dict") (fun xs H Q => ∃ (a : Addr) (o : Obj) (ps : List Addr) (kvs : List (Key × V)), xs = [.ref a] ∧ o.dict = none ∧ H a = some (.frz o (.tup (ps.map V.ref))) ∧ Paired (fun p kv => SqT X.K H p [kV kv.1, kv.2]) ps kvs ∧
    ∀ p, H p = none → Q (.ref p) (upd H p (.dK (mergeK [] kvs)))) := by
  intro pins s σ H xs us Q I r h
  obtain ⟨a, o, ps, kvs, rfl, hod, ha, hp, q⟩ := h
  rw [Vals.ref1 r]
  obtain ⟨hget, hz, its, rv, o', ho', hcls, n, hdat⟩ := I.hok a _ ha
  rw [hget] at ho'
  cases ho'
  have ei := refs_at rv
  subst ei
  rw [List.length_map] at hz
  obtain ⟨prs, rel, hl, hpr⟩ := pairs_of I hp
  have ch : ∀ j : Fin prs.length, ∃ u b, ps[j.val]? = some b ∧ IsTup s.heap b #[u, prs[j].2] ∧ keyIs prs[j].1 u = true := fun j => by
    obtain ⟨b, u, e1, e2, e3⟩ := hpr j.val prs[j] (List.getElem?_eq_getElem j.isLt)
    exact ⟨u, b, e1, e2, e3⟩
  let us : Fin prs.length → Value := fun j => Classical.choose (ch j)
  have hus : ∀ j, ∃ b, ps[j.val]? = some b ∧ IsTup s.heap b #[us j, prs[j].2] ∧ keyIs prs[j].1 (us j) = true := fun j => Classical.choose_spec (ch j)
  let qs : List (Value × Value) := List.ofFn fun j : Fin prs.length => (us j, prs[j].2)
  have qlen : qs.length = prs.length := List.length_ofFn
  have qat : ∀ i k v, qs[i]? = some (k, v) → ∃ h : i < prs.length, k = us ⟨i, h⟩ ∧ v = prs[i].2 := fun i k v e => by
    have hi : i < prs.length := by
      have := (List.getElem?_eq_some_iff.mp e).1
      rw [qlen] at this
      exact this
    refine ⟨hi, ?_⟩
    rw [List.getElem?_ofFn, dif_pos hi] at e
    cases e
    exact ⟨rfl, rfl⟩
  refine PySem.call_dict_pairs (knd := mixKind X.prog X.w) (kvs := prs) (PairArg.tuple (prog := X.prog) (w := X.w) a (ps.map Value.ref).toArray (fun j => ps.getD j 0) qs) (I.ok.hd hc) ⟨⟨o, n, hget, hcls, hod, hdat⟩, ?_, fun j k v e => ?_⟩ ⟨qlen.symm, fun i k v e => ?_⟩ (by rw [qlen, hl]; exact hz) (fun h' tk hd' hk => ?_)
  · rw [qlen, hl]; simp
  · obtain ⟨hj, rfl, rfl⟩ := qat j k v e
    obtain ⟨b, e1, e2, _⟩ := hus ⟨j, hj⟩
    have eb : ps.getD j 0 = b := by rw [List.getD_eq_getElem?_getD, e1]; rfl
    dsimp only
    rw [eb]
    refine ⟨?_, .inl e2⟩
    simp only [List.getElem?_toArray, List.getElem?_map]
    rw [e1]; rfl
  · obtain ⟨hj, rfl, rfl⟩ := qat i k v e
    obtain ⟨b, e1, e2, e3⟩ := hus ⟨i, hj⟩
    exact ⟨prs[i].1, List.getElem?_eq_getElem hj, e3⟩
  · have hm : (s.heap.objs.size == sysModules) = false := beq_eq_false_iff_ne.mpr (Nat.ne_of_gt I.big)
    have hlen : (mergeK [] kvs).length ≤ sizeLine := by
      refine Nat.le_trans (length_mergeK kvs []) ?_
      rw [List.length_nil, Nat.zero_add, rel.length, hl]
      exact hz
    exact ⟨.ref s.heap.objs.size, upd H s.heap.objs.size (.dK (mergeK [] kvs)), I.laid (t' := tk) (fun b o e => hk b o (by simp) e) (Nat.le_refl _) (show ObjOk X.prog X.w _ _ _ (.dK (mergeK [] kvs)) from ⟨hlen, hm, merged [] prs, KV.merge rel .nil, hd'⟩), rfl, q _ (I.hok.fresh (Nat.le_refl _))⟩
end
end Lh

namespace Lh
open PySem PySem.Spec PyProof.Rows L2
def topS (i : Nat) : Stmt := PySem.Challenge.pw_lesserhall_k38_great_lines.main.body.getD i (.Pass ⟨0, 0, 0, 0⟩)
abbrev s_ways_of : Stmt := topS 3
abbrev n_ways_of : List Str := ["many", "lower", "ways", "step"]
abbrev p_ways_of : List Str := ["many"]
theorem sc_ways_of : FnScope n_ways_of p_ways_of (defScope s_ways_of) := ⟨rfl, rfl, rfl, by decide +kernel, rfl, by decide +kernel, by decide +kernel⟩
abbrev s_line_counts : Stmt := topS 4
abbrev n_line_counts : List Str := ["many", "ring"]
abbrev p_line_counts : List Str := ["many", "ring"]
theorem sc_line_counts : FnScope n_line_counts p_line_counts (defScope s_line_counts) := ⟨rfl, rfl, rfl, by decide +kernel, rfl, by decide +kernel, by decide +kernel⟩
abbrev s_ways_behind : Stmt := topS 5
abbrev n_ways_behind : List Str := ["left", "shown", "ring"]
abbrev p_ways_behind : List Str := ["left", "shown", "ring"]
theorem sc_ways_behind : FnScope n_ways_behind p_ways_behind (defScope s_ways_behind) := ⟨rfl, rfl, rfl, by decide +kernel, rfl, by decide +kernel, by decide +kernel⟩
abbrev s_line_rest : Stmt := topS 6
abbrev n_line_rest : List Str := ["many", "number", "ring", "rest", "left", "ways"]
abbrev p_line_rest : List Str := ["many", "number", "ring"]
theorem sc_line_rest : FnScope n_line_rest p_line_rest (defScope s_line_rest) := ⟨rfl, rfl, rfl, by decide +kernel, rfl, by decide +kernel, by decide +kernel⟩
abbrev s_line_number : Stmt := topS 7
abbrev n_line_number : List Str := ["rest", "ring", "number", "person", "shown"]
abbrev p_line_number : List Str := ["rest", "ring"]
theorem sc_line_number : FnScope n_line_number p_line_number (defScope s_line_number) := ⟨rfl, rfl, rfl, by decide +kernel, rfl, by decide +kernel, by decide +kernel⟩
abbrev s_dip : Stmt := topS 9
abbrev n_dip : List Str := ["_law_script", "_law_k", "_law_cell"]
abbrev p_dip : List Str := ["_law_script", "_law_k"]
theorem sc_dip : FnScope n_dip p_dip (defScope s_dip) := ⟨rfl, rfl, rfl, by decide +kernel, rfl, by decide +kernel, by decide +kernel⟩
abbrev s_take : Stmt := topS 10
abbrev n_take : List Str := ["_law_box", "_law_many", "_law_found", "_law_once", "_law_pair"]
abbrev p_take : List Str := ["_law_box", "_law_many"]
theorem sc_take : FnScope n_take p_take (defScope s_take) := ⟨rfl, rfl, rfl, by decide +kernel, rfl, by decide +kernel, by decide +kernel⟩
abbrev s_folded : Stmt := topS 11
abbrev n_folded : List Str := ["_law_script", "_law_many", "_law_cells", "_law_k", "_law_cell"]
abbrev p_folded : List Str := ["_law_script", "_law_many"]
theorem sc_folded : FnScope n_folded p_folded (defScope s_folded) := ⟨rfl, rfl, rfl, by decide +kernel, rfl, by decide +kernel, by decide +kernel⟩
abbrev s_same : Stmt := topS 12
abbrev n_same : List Str := ["_law_found", "_law_due", "_law_one", "_law_two"]
abbrev p_same : List Str := ["_law_found", "_law_due"]
theorem sc_same : FnScope n_same p_same (defScope s_same) := ⟨rfl, rfl, rfl, by decide +kernel, rfl, by decide +kernel, by decide +kernel⟩
abbrev s_sums : Stmt := topS 13
abbrev n_sums : List Str := ["_law_many", "_law_found"]
abbrev p_sums : List Str := ["_law_many"]
theorem sc_sums : FnScope n_sums p_sums (defScope s_sums) := ⟨rfl, rfl, rfl, by decide +kernel, rfl, by decide +kernel, by decide +kernel⟩
abbrev s_is_rest : Stmt := topS 14
abbrev n_is_rest : List Str := ["_law_row", "_law_is_ring", "_law_later", "_law_here", "_law_there"]
abbrev p_is_rest : List Str := ["_law_row", "_law_is_ring"]
theorem sc_is_rest : FnScope n_is_rest p_is_rest (defScope s_is_rest) := ⟨rfl, rfl, rfl, by decide +kernel, rfl, by decide +kernel, by decide +kernel⟩
abbrev s_right : Stmt := topS 15
abbrev n_right : List Str := ["_law_box", "_law_many", "_law_sums_here", "_law_counts", "_law_is_ring", "_law_size", "_law_numbers", "_law_turn", "_law_k", "_law_pair", "_law_row"]
abbrev p_right : List Str := ["_law_box"]
theorem sc_right : FnScope n_right p_right (defScope s_right) := ⟨rfl, rfl, rfl, by decide +kernel, rfl, by decide +kernel, by decide +kernel⟩
abbrev s_law : Stmt := topS 16
abbrev n_law : List Str := ["_law_script", "_law_cells", "_law_k"]
abbrev p_law : List Str := ["_law_script"]
theorem sc_law : FnScope n_law p_law (defScope s_law) := ⟨rfl, rfl, rfl, by decide +kernel, rfl, by decide +kernel, by decide +kernel⟩
structure FnT (K : PySem.W.Frag) (nm qual : Str) (st : Stmt) (ps : List Str) where
  f : Addr
  fd : FuncData
  F : Fun K nm qual st f fd
  b : Binds K fd ps []
structure FnKT (K : PySem.W.Frag) (nm qual : Str) (st : Stmt) (ps : List Str) (n : Nat) (kws : List (Str × V)) (ks : List Str) where
  f : Addr
  fd : FuncData
  F : FunD K nm qual (defArgs st) (defBody st) (defScope st) [] kws f fd
  b : ∃ ds, Vals (kws.map (·.2)) ds ∧ Binds K fd ps ds
  kb : KBn K fd ps n ks (fun us ws => us ++ ws) (fun vs zs => vs ++ zs)
structure Txt (K : PySem.W.Frag) (mg : Str → Option Value) (w : World) where
  t_ways_of : FnT K "ways_of" "ways_of" s_ways_of p_ways_of
  g_ways_of : mg "ways_of" = some (.ref t_ways_of.f)
  t_line_counts : FnKT K "line_counts" "line_counts" s_line_counts p_line_counts 1 [("ring", .bl false)] ["ring"]
  g_line_counts : mg "line_counts" = some (.ref t_line_counts.f)
  t_ways_behind : FnT K "ways_behind" "ways_behind" s_ways_behind p_ways_behind
  g_ways_behind : mg "ways_behind" = some (.ref t_ways_behind.f)
  t_line_rest : FnKT K "line_rest" "line_rest" s_line_rest p_line_rest 2 [("ring", .bl false)] ["ring"]
  g_line_rest : mg "line_rest" = some (.ref t_line_rest.f)
  t_line_number : FnKT K "line_number" "line_number" s_line_number p_line_number 1 [("ring", .bl false)] ["ring"]
  g_line_number : mg "line_number" = some (.ref t_line_number.f)
  t_dip : FnT K "_law_dip" "_law_dip" s_dip p_dip
  g_dip : mg "_law_dip" = some (.ref t_dip.f)
  t_take : FnT K "_law_take" "_law_take" s_take p_take
  g_take : mg "_law_take" = some (.ref t_take.f)
  t_folded : FnT K "_law_folded" "_law_folded" s_folded p_folded
  g_folded : mg "_law_folded" = some (.ref t_folded.f)
  t_same : FnT K "_law_same" "_law_same" s_same p_same
  g_same : mg "_law_same" = some (.ref t_same.f)
  t_sums : FnT K "_law_sums" "_law_sums" s_sums p_sums
  g_sums : mg "_law_sums" = some (.ref t_sums.f)
  t_is_rest : FnT K "_law_is_rest" "_law_is_rest" s_is_rest p_is_rest
  g_is_rest : mg "_law_is_rest" = some (.ref t_is_rest.f)
  t_right : FnT K "_law_right" "_law_right" s_right p_right
  g_right : mg "_law_right" = some (.ref t_right.f)
  t_law : FnT K "law" "law" s_law p_law
  g_law : mg "law" = some (.ref t_law.f)
  m_abs : mg "abs" = none
  m_all : mg "all" = none
  m_bool : mg "bool" = none
  m_enumerate : mg "enumerate" = none
  m_int : mg "int" = none
  m_isinstance : mg "isinstance" = none
  m_len : mg "len" = none
  m_list : mg "list" = none
  m_max : mg "max" = none
  m_range : mg "range" = none
  m_str : mg "str" = none
  m_tuple : mg "tuple" = none
  m_zip : mg "zip" = none
abbrev Txt.f_ways_of {K : PySem.W.Frag} {mg : Str → Option Value} {w : World} (T : Txt K mg w) : Addr := T.t_ways_of.f
abbrev Txt.fd_ways_of {K : PySem.W.Frag} {mg : Str → Option Value} {w : World} (T : Txt K mg w) : FuncData := T.t_ways_of.fd
theorem Txt.F_ways_of {K : PySem.W.Frag} {mg : Str → Option Value} {w : World} (T : Txt K mg w) : Fun K "ways_of" "ways_of" s_ways_of T.f_ways_of T.fd_ways_of := T.t_ways_of.F
theorem Txt.b_ways_of {K : PySem.W.Frag} {mg : Str → Option Value} {w : World} (T : Txt K mg w) : Binds K T.fd_ways_of p_ways_of [] := T.t_ways_of.b
abbrev Txt.f_line_counts {K : PySem.W.Frag} {mg : Str → Option Value} {w : World} (T : Txt K mg w) : Addr := T.t_line_counts.f
abbrev Txt.fd_line_counts {K : PySem.W.Frag} {mg : Str → Option Value} {w : World} (T : Txt K mg w) : FuncData := T.t_line_counts.fd
theorem Txt.F_line_counts {K : PySem.W.Frag} {mg : Str → Option Value} {w : World} (T : Txt K mg w) : FunD K "line_counts" "line_counts" (defArgs s_line_counts) (defBody s_line_counts) (defScope s_line_counts) [] [("ring", .bl false)] T.f_line_counts T.fd_line_counts := T.t_line_counts.F
theorem Txt.b_line_counts {K : PySem.W.Frag} {mg : Str → Option Value} {w : World} (T : Txt K mg w) : ∃ ds, Vals [.bl false] ds ∧ Binds K T.fd_line_counts p_line_counts ds := T.t_line_counts.b
theorem Txt.kb_line_counts {K : PySem.W.Frag} {mg : Str → Option Value} {w : World} (T : Txt K mg w) : KBn K T.fd_line_counts p_line_counts 1 ["ring"] (fun us ws => us ++ ws) (fun vs zs => vs ++ zs) := T.t_line_counts.kb
abbrev Txt.f_ways_behind {K : PySem.W.Frag} {mg : Str → Option Value} {w : World} (T : Txt K mg w) : Addr := T.t_ways_behind.f
abbrev Txt.fd_ways_behind {K : PySem.W.Frag} {mg : Str → Option Value} {w : World} (T : Txt K mg w) : FuncData := T.t_ways_behind.fd
theorem Txt.F_ways_behind {K : PySem.W.Frag} {mg : Str → Option Value} {w : World} (T : Txt K mg w) : Fun K "ways_behind" "ways_behind" s_ways_behind T.f_ways_behind T.fd_ways_behind := T.t_ways_behind.F
theorem Txt.b_ways_behind {K : PySem.W.Frag} {mg : Str → Option Value} {w : World} (T : Txt K mg w) : Binds K T.fd_ways_behind p_ways_behind [] := T.t_ways_behind.b
abbrev Txt.f_line_rest {K : PySem.W.Frag} {mg : Str → Option Value} {w : World} (T : Txt K mg w) : Addr := T.t_line_rest.f
abbrev Txt.fd_line_rest {K : PySem.W.Frag} {mg : Str → Option Value} {w : World} (T : Txt K mg w) : FuncData := T.t_line_rest.fd
theorem Txt.F_line_rest {K : PySem.W.Frag} {mg : Str → Option Value} {w : World} (T : Txt K mg w) : FunD K "line_rest" "line_rest" (defArgs s_line_rest) (defBody s_line_rest) (defScope s_line_rest) [] [("ring", .bl false)] T.f_line_rest T.fd_line_rest := T.t_line_rest.F
theorem Txt.b_line_rest {K : PySem.W.Frag} {mg : Str → Option Value} {w : World} (T : Txt K mg w) : ∃ ds, Vals [.bl false] ds ∧ Binds K T.fd_line_rest p_line_rest ds := T.t_line_rest.b
theorem Txt.kb_line_rest {K : PySem.W.Frag} {mg : Str → Option Value} {w : World} (T : Txt K mg w) : KBn K T.fd_line_rest p_line_rest 2 ["ring"] (fun us ws => us ++ ws) (fun vs zs => vs ++ zs) := T.t_line_rest.kb
abbrev Txt.f_line_number {K : PySem.W.Frag} {mg : Str → Option Value} {w : World} (T : Txt K mg w) : Addr := T.t_line_number.f
abbrev Txt.fd_line_number {K : PySem.W.Frag} {mg : Str → Option Value} {w : World} (T : Txt K mg w) : FuncData := T.t_line_number.fd
theorem Txt.F_line_number {K : PySem.W.Frag} {mg : Str → Option Value} {w : World} (T : Txt K mg w) : FunD K "line_number" "line_number" (defArgs s_line_number) (defBody s_line_number) (defScope s_line_number) [] [("ring", .bl false)] T.f_line_number T.fd_line_number := T.t_line_number.F
theorem Txt.b_line_number {K : PySem.W.Frag} {mg : Str → Option Value} {w : World} (T : Txt K mg w) : ∃ ds, Vals [.bl false] ds ∧ Binds K T.fd_line_number p_line_number ds := T.t_line_number.b
theorem Txt.kb_line_number {K : PySem.W.Frag} {mg : Str → Option Value} {w : World} (T : Txt K mg w) : KBn K T.fd_line_number p_line_number 1 ["ring"] (fun us ws => us ++ ws) (fun vs zs => vs ++ zs) := T.t_line_number.kb
abbrev Txt.f_dip {K : PySem.W.Frag} {mg : Str → Option Value} {w : World} (T : Txt K mg w) : Addr := T.t_dip.f
abbrev Txt.fd_dip {K : PySem.W.Frag} {mg : Str → Option Value} {w : World} (T : Txt K mg w) : FuncData := T.t_dip.fd
theorem Txt.F_dip {K : PySem.W.Frag} {mg : Str → Option Value} {w : World} (T : Txt K mg w) : Fun K "_law_dip" "_law_dip" s_dip T.f_dip T.fd_dip := T.t_dip.F
theorem Txt.b_dip {K : PySem.W.Frag} {mg : Str → Option Value} {w : World} (T : Txt K mg w) : Binds K T.fd_dip p_dip [] := T.t_dip.b
abbrev Txt.f_take {K : PySem.W.Frag} {mg : Str → Option Value} {w : World} (T : Txt K mg w) : Addr := T.t_take.f
abbrev Txt.fd_take {K : PySem.W.Frag} {mg : Str → Option Value} {w : World} (T : Txt K mg w) : FuncData := T.t_take.fd
theorem Txt.F_take {K : PySem.W.Frag} {mg : Str → Option Value} {w : World} (T : Txt K mg w) : Fun K "_law_take" "_law_take" s_take T.f_take T.fd_take := T.t_take.F
theorem Txt.b_take {K : PySem.W.Frag} {mg : Str → Option Value} {w : World} (T : Txt K mg w) : Binds K T.fd_take p_take [] := T.t_take.b
abbrev Txt.f_folded {K : PySem.W.Frag} {mg : Str → Option Value} {w : World} (T : Txt K mg w) : Addr := T.t_folded.f
abbrev Txt.fd_folded {K : PySem.W.Frag} {mg : Str → Option Value} {w : World} (T : Txt K mg w) : FuncData := T.t_folded.fd
theorem Txt.F_folded {K : PySem.W.Frag} {mg : Str → Option Value} {w : World} (T : Txt K mg w) : Fun K "_law_folded" "_law_folded" s_folded T.f_folded T.fd_folded := T.t_folded.F
theorem Txt.b_folded {K : PySem.W.Frag} {mg : Str → Option Value} {w : World} (T : Txt K mg w) : Binds K T.fd_folded p_folded [] := T.t_folded.b
abbrev Txt.f_same {K : PySem.W.Frag} {mg : Str → Option Value} {w : World} (T : Txt K mg w) : Addr := T.t_same.f
abbrev Txt.fd_same {K : PySem.W.Frag} {mg : Str → Option Value} {w : World} (T : Txt K mg w) : FuncData := T.t_same.fd
theorem Txt.F_same {K : PySem.W.Frag} {mg : Str → Option Value} {w : World} (T : Txt K mg w) : Fun K "_law_same" "_law_same" s_same T.f_same T.fd_same := T.t_same.F
theorem Txt.b_same {K : PySem.W.Frag} {mg : Str → Option Value} {w : World} (T : Txt K mg w) : Binds K T.fd_same p_same [] := T.t_same.b
abbrev Txt.f_sums {K : PySem.W.Frag} {mg : Str → Option Value} {w : World} (T : Txt K mg w) : Addr := T.t_sums.f
abbrev Txt.fd_sums {K : PySem.W.Frag} {mg : Str → Option Value} {w : World} (T : Txt K mg w) : FuncData := T.t_sums.fd
theorem Txt.F_sums {K : PySem.W.Frag} {mg : Str → Option Value} {w : World} (T : Txt K mg w) : Fun K "_law_sums" "_law_sums" s_sums T.f_sums T.fd_sums := T.t_sums.F
theorem Txt.b_sums {K : PySem.W.Frag} {mg : Str → Option Value} {w : World} (T : Txt K mg w) : Binds K T.fd_sums p_sums [] := T.t_sums.b
abbrev Txt.f_is_rest {K : PySem.W.Frag} {mg : Str → Option Value} {w : World} (T : Txt K mg w) : Addr := T.t_is_rest.f
abbrev Txt.fd_is_rest {K : PySem.W.Frag} {mg : Str → Option Value} {w : World} (T : Txt K mg w) : FuncData := T.t_is_rest.fd
theorem Txt.F_is_rest {K : PySem.W.Frag} {mg : Str → Option Value} {w : World} (T : Txt K mg w) : Fun K "_law_is_rest" "_law_is_rest" s_is_rest T.f_is_rest T.fd_is_rest := T.t_is_rest.F
theorem Txt.b_is_rest {K : PySem.W.Frag} {mg : Str → Option Value} {w : World} (T : Txt K mg w) : Binds K T.fd_is_rest p_is_rest [] := T.t_is_rest.b
abbrev Txt.f_right {K : PySem.W.Frag} {mg : Str → Option Value} {w : World} (T : Txt K mg w) : Addr := T.t_right.f
abbrev Txt.fd_right {K : PySem.W.Frag} {mg : Str → Option Value} {w : World} (T : Txt K mg w) : FuncData := T.t_right.fd
theorem Txt.F_right {K : PySem.W.Frag} {mg : Str → Option Value} {w : World} (T : Txt K mg w) : Fun K "_law_right" "_law_right" s_right T.f_right T.fd_right := T.t_right.F
theorem Txt.b_right {K : PySem.W.Frag} {mg : Str → Option Value} {w : World} (T : Txt K mg w) : Binds K T.fd_right p_right [] := T.t_right.b
abbrev Txt.f_law {K : PySem.W.Frag} {mg : Str → Option Value} {w : World} (T : Txt K mg w) : Addr := T.t_law.f
abbrev Txt.fd_law {K : PySem.W.Frag} {mg : Str → Option Value} {w : World} (T : Txt K mg w) : FuncData := T.t_law.fd
theorem Txt.F_law {K : PySem.W.Frag} {mg : Str → Option Value} {w : World} (T : Txt K mg w) : Fun K "law" "law" s_law T.f_law T.fd_law := T.t_law.F
theorem Txt.b_law {K : PySem.W.Frag} {mg : Str → Option Value} {w : World} (T : Txt K mg w) : Binds K T.fd_law p_law [] := T.t_law.b
end Lh

namespace Lh
open PySem PySem.Spec PyProof.Rows L2
section
variable {P : Program} {w : World} {K : PySem.W.Frag} {mg : Str → Option Value} {base : Heap}
/-- what an expression comes to, then what follows -/
theorem use {te : TE} {σ : L2.St} {H : Hp} {Q : VK} (R : V → Hp → Prop) (h : ∀ Q' : VK, (∀ v H', R v H' → Q' v H') → te σ H Q') (hq : ∀ v H', R v H' → Q v H') : te σ H Q := h Q hq
/-! ### the draws -/
def spTake : Sp := fun vs H Q _ => ∃ (bx : Addr) (c m : Int), vs = [.ref bx, .int m] ∧ 0 < m ∧ m ≤ 1000000000 ∧ c ≤ 1000000000 ∧ Box bx c H ∧
  ∀ (r : Int) (H' : Hp), 0 ≤ r → r < m → Ext bx H H' → Box bx (c + 1) H' → Q (.int r) H'
theorem ok_take (T : Txt K mg w) : FnOk P w K mg base CX0 1 T.f_take T.fd_take p_take spTake := by
  refine T.F_take.ok sc_take (fun vs H Q E h => ?_) (fun cdv A outer s H vs Q E hr h => ?_)
  · obtain ⟨bx, c, m, rfl, _⟩ := h
    rfl
  · obtain ⟨bx, c, m, rfl, m0, m1, c1, ⟨a, b, n, hb, a0, b0, b1, n0, n1⟩, q⟩ := h
    refine ⟨_, (pss_cons (ps_if (pt_cmpR op_gt (pe_ix ix_list (pv 0) pe_int (fun _ _ => rfl)) pe_int (nomark _))
        (pss_cons (ps_set (i := 2) sc_take.nd rfl (.inl rfl) (pe_op op_mod (pe_ix ix_list (pv 0) pe_int (fun _ _ => rfl)) (pv 1)))
        (pss_cons (ps_asg (pe_op op_fdiv (pe_ix ix_list (pv 0) pe_int (fun _ _ => rfl)) (pv 1)) (pg_sub (pv 0) pe_int set_list))
        (pss_one (ps_ret (pv 2)))))
        pss_nil)
      (pss_cons (ps_asg (pe_op op_add (pe_ix ix_list (pv 0) pe_int (fun _ _ => rfl)) pe_int) (pg_sub (pv 0) pe_int set_list))
      (pss_cons (ps_set (i := 3) sc_take.nd rfl (.inl rfl) (pe_op op_mod (pe_op op_pow (pe_op op_add (pe_ix ix_list (pv 0) pe_int (fun _ _ => rfl)) (pe_op op_mul pe_int (pe_ix ix_list (pv 0) pe_int (fun _ _ => rfl)))) pe_int) pe_int))
      (pss_cons (ps_set (i := 4) sc_take.nd rfl (.inl rfl) (pe_op op_mod (pe_op op_mul (pe_op op_add (pe_op op_add (pv 3) (pe_ix ix_list (pv 0) pe_int (fun _ _ => rfl))) (pe_op op_fdiv (pe_ix ix_list (pv 0) pe_int (fun _ _ => rfl)) pe_int)) (pe_op op_add (pe_op op_add (pe_op op_mod (pv 3) pe_int) pe_int) (pe_ix ix_list (pv 0) pe_int (fun _ _ => rfl)))) pe_int))
      (pss_one (ps_ret (pe_op op_mod (pe_op op_fdiv (pe_op op_mod (pe_op op_add (pe_op op_mul (pv 4) pe_int) (pv 3)) pe_int) pe_int) (pv 1)))))))), ?_⟩
    have i0 : ∀ x y z : V, atI [x, y, z] 0 = some x := fun _ _ _ => rfl
    have i1 : ∀ x y z : V, atI [x, y, z] 1 = some y := fun _ _ _ => rfl
    have i2 : ∀ x y z : V, atI [x, y, z] 2 = some z := fun _ _ _ => rfl
    have hS : SqL K H bx [.int a, .int b, .int n] := .inl (.inl hb)
    refine ⟨.ref bx, rfl, bx, _, 0, _, rfl, rfl, hS, i0 _ _ _, a, 0, rfl, rfl, _, rfl, ite2 (fun e => ?_) (fun e => ?_)⟩
    · refine ⟨.ref bx, rfl, bx, _, 0, _, rfl, rfl, hS, i0 _ _ _, .int m, rfl, a, m, rfl, rfl, m0, ?_⟩
      refine ⟨.ref bx, rfl, bx, _, 0, _, rfl, rfl, hS, i0 _ _ _, .int m, rfl, a, m, rfl, rfl, ⟨m0, by omega⟩, ?_⟩
      refine ⟨.ref bx, rfl, bx, _, 0, 0, rfl, rfl, hb, rfl, ?_⟩
      refine ⟨.int (a % m), rfl, q _ _ (Int.emod_nonneg _ (by omega)) (Int.emod_lt_of_pos _ m0) (Ext.refl _).box ⟨a / m, b, n, upd_same, Int.ediv_nonneg a0 (by omega), b0, b1, n0, by omega⟩⟩
    · have n2 : n + 1 ≤ 1000000001 := by omega
      refine ⟨.ref bx, rfl, bx, _, 2, _, rfl, rfl, hS, i2 _ _ _, n, 1, rfl, rfl, .ref bx, rfl, bx, _, 2, 2, rfl, rfl, hb, rfl, ?_⟩
      generalize hH1 : upd H bx (.lst (List.set [V.int a, .int b, .int n] 2 (.int (n + 1)))) = H1
      have hb1 : H1 bx = some (.lst [.int a, .int b, .int (n + 1)]) := by rw [← hH1]; exact upd_same
      have hS1 : SqL K H1 bx [.int a, .int b, .int (n + 1)] := .inl (.inl hb1)
      have bB : Box bx (c + 1) H1 := ⟨a, b, n + 1, hb1, a0, b0, b1, by omega, by omega⟩
      have eE : Ext bx H H1 := by rw [← hH1]; exact (Ext.refl _).box
      refine ⟨.ref bx, rfl, bx, _, 1, _, rfl, rfl, hS1, i1 _ _ _, .ref bx, rfl, bx, _, 2, _, rfl, rfl, hS1, i2 _ _ _, 39373, n + 1, rfl, rfl, .inl ⟨by decide, by decide⟩, b, _, rfl, rfl, _, 5, rfl, rfl, ⟨by decide, by decide, ?_⟩, _, 2147483647, rfl, rfl, by show (0 : Int) < 2147483647; decide, ?_⟩
      · omega
      dsimp only
      generalize hx : (b + 39373 * (n + 1)) ^ (5 : Int).toNat % 2147483647 = x
      have x0 : 0 ≤ x := by rw [← hx]; exact Int.emod_nonneg _ (by decide)
      have x1 : x < 2147483647 := by rw [← hx]; exact Int.emod_lt_of_pos _ (by decide)
      have d0 : 0 ≤ b / 1000003 := Int.ediv_nonneg b0 (by decide)
      have d1 : b / 1000003 ≤ b := Int.ediv_le_self _ b0
      have e0 : 0 ≤ x % 40009 := Int.emod_nonneg _ (by decide)
      have e1 : x % 40009 < 40009 := Int.emod_lt_of_pos _ (by decide)
      refine ⟨.int x, rfl, .ref bx, rfl, bx, _, 2, _, rfl, rfl, hS1, i2 _ _ _, x, n + 1, rfl, rfl, .ref bx, rfl, bx, _, 1, _, rfl, rfl, hS1, i1 _ _ _, b, 1000003, rfl, rfl, ⟨by decide, by decide⟩, _, _, rfl, rfl,
        .int x, rfl, x, 40009, rfl, rfl, by show (0 : Int) < 40009; decide, _, 7, rfl, rfl, .ref bx, rfl, bx, _, 2, _, rfl, rfl, hS1, i2 _ _ _, _, n + 1, rfl, rfl, _, _, rfl, rfl, .inr ⟨?_, ?_⟩, _, 2147483629, rfl, rfl, by show (0 : Int) < 2147483629; decide, ?_⟩
      · omega
      · omega
      dsimp only
      generalize hy : (x + (n + 1) + b / 1000003) * (x % 40009 + 7 + (n + 1)) % 2147483629 = y
      have y0 : 0 ≤ y := by rw [← hy]; exact Int.emod_nonneg _ (by decide)
      have y1 : y < 2147483629 := by rw [← hy]; exact Int.emod_lt_of_pos _ (by decide)
      refine ⟨.int y, rfl, y, 48271, rfl, rfl, .inr ⟨by decide, by decide⟩, .int x, rfl, _, x, rfl, rfl, _, 2147483587, rfl, rfl, by show (0 : Int) < 2147483587; decide, _, 64, rfl, rfl, ⟨by decide, by decide⟩, .int m, rfl, _, m, rfl, rfl, m0, ?_⟩
      exact q _ _ (Int.emod_nonneg _ (by omega)) (Int.emod_lt_of_pos _ m0) eE bB
def spDip (K : PySem.W.Frag) : Sp := fun vs H Q _ => ∃ (a : Addr) (ns : List Int) (k : Nat), vs = [.ref a, .int k] ∧ SqL K H a (ns.map V.int) ∧ k ≤ 1000 ∧
  ∀ (bx : Addr) (H' : Hp), Same H H' → H bx = none → Box bx 0 H' → Q (.ref bx) H'
theorem ok_dip (T : Txt K mg w) : FnOk P w K mg base CX0 1 T.f_dip T.fd_dip p_dip (spDip K) := by
  refine T.F_dip.ok sc_dip (fun vs H Q E h => ?_) (fun cdv A outer s H vs Q E hr h => ?_)
  · obtain ⟨a, ns, k, rfl, _⟩ := h
    rfl
  · obtain ⟨a, ns, k, rfl, hS, hk, q⟩ := h
    refine ⟨_, (pss_cons (ps_set (i := 2) sc_dip.nd rfl (.inl rfl) (pe_ifExp (pt_cmpR op_lt (pv 1) (pe_callB call_len_seq (by rfl) T.m_len (by decide +kernel) (pa_cons (pv 0) pa_nil)) (nomark _)) (pe_ix ix_list (pv 0) (pv 1) (fun _ _ => rfl)) pe_int))
      (pss_one (ps_ret (pe_lst (pa_cons (pe_op op_mul (pe_callB call_abs (by rfl) T.m_abs (by decide +kernel) (pa_cons (pv 2) pa_nil)) (pe_callTy call_int1 (by rfl) T.m_int (by decide +kernel) (pa_cons (pe_cmpR op_ge (pe_callB call_abs (by rfl) T.m_abs (by decide +kernel) (pa_cons (pv 2) pa_nil)) (pe_op op_pow pe_int pe_int) (nomark _)) pa_nil))) (pa_cons (pe_op op_add (pe_op op_add (pe_op op_mod (pv 2) pe_int) (pe_op op_mul pe_int (pv 1))) pe_int) (pa_cons pe_int pa_nil))))))), ?_⟩
    show tIf _ _ _ _ _ _
    refine use (fun v H' => ∃ x : Int, v = .int x ∧ H' = H) (fun Q' hQ => ?_) ?_
    · refine ⟨.int k, rfl, .ref a, rfl, a, _, rfl, .inl hS, k, _, rfl, rfl, _, rfl, ite2 (fun e => ?_) (fun e => ?_)⟩
      · have hk2 : k < ns.length := by
          have := of_decide_eq_true e
          rw [List.length_map] at this
          omega
        exact ⟨.ref a, rfl, .int k, rfl, a, _, k, .int ns[k], rfl, rfl, hS, atI_nat (by rw [List.getElem?_map, List.getElem?_eq_getElem hk2]; rfl), hQ _ _ ⟨_, rfl, rfl⟩⟩
      · exact hQ _ _ ⟨0, rfl, rfl⟩
    · rintro v H' ⟨x, rfl, rfl⟩
      have m0 : 0 ≤ x % 2305843009213693951 := Int.emod_nonneg _ (by decide)
      have m1 : x % 2305843009213693951 < 2305843009213693951 := Int.emod_lt_of_pos _ (by decide)
      refine ⟨.int x, rfl, x, rfl, .int x, rfl, x, rfl, 10, 18, rfl, rfl, ⟨by decide, by decide, by decide⟩, _, _, rfl, rfl, .inr ⟨_, rfl, ?_⟩⟩
      have bnd : ∀ b : Bool, (0 : Int) ≤ (if b then 1 else 0) ∧ (if b then (1 : Int) else 0) ≤ 1 := fun b => by cases b <;> decide
      refine ⟨_, _, rfl, rfl, .inr ⟨Int.lt_of_lt_of_le (by decide) (bnd _).1, Int.lt_of_le_of_lt (bnd _).2 (by decide)⟩, .int x, rfl, x, 2305843009213693951, rfl, rfl, by show (0 : Int) < 2305843009213693951; decide, .int k, rfl, 39373, k, rfl, rfl, .inl ⟨by decide, by decide⟩, _, _, rfl, rfl, _, 17, rfl, rfl, by show 3 ≤ sizeLine; decide, fun p hp => ?_⟩
      refine q p _ (same_upd hp) hp ⟨_, _, 0, upd_same, ?_, ?_, ?_, by decide, by decide⟩
      · refine Int.mul_nonneg ?_ (bnd _).1
        split <;> omega
      · show 0 ≤ x % 2305843009213693951 + 39373 * (k : Int) + 17
        omega
      · show x % 2305843009213693951 + 39373 * (k : Int) + 17 < 2 ^ 62
        omega
end
end Lh

namespace Lh
open PySem PySem.Spec PyProof.Rows L2
def cutI {α : Type} (xs : List α) (lo hi : Option Int) : List α := (xs.drop (HT.sIx xs.length 0 lo)).take (HT.sIx xs.length xs.length hi - HT.sIx xs.length 0 lo)
theorem cut_map {α : Type} (f : α → V) (xs : List α) (lo hi : Option Int) : cutV (xs.map f) lo hi = (cutI xs lo hi).map f := by
  unfold cutV cutI
  rw [List.length_map, List.map_take, List.map_drop]
theorem cutI_head {α : Type} (xs : List α) : (cutI xs none (some 3)).length = min 3 xs.length := by
  unfold cutI
  rw [HT.sIx_none, show HT.sIx xs.length xs.length (some 3) = min 3 xs.length from HT.sIx_nat xs.length _ 3, List.length_take, List.length_drop]
  omega
theorem cutI_tail {α : Type} (xs : List α) (h : xs.length ≤ 3) : (cutI xs (some 3) (some 63)).length = 0 := by
  unfold cutI
  rw [show HT.sIx xs.length 0 (some 3) = min 3 xs.length from HT.sIx_nat xs.length _ 3, List.length_take, List.length_drop]
  omega
section
variable {P : Program} {w : World} {K : PySem.W.Frag} {mg : Str → Option Value} {base : Heap}
def spFolded (K : PySem.W.Frag) : Sp := fun vs H Q _ => ∃ (a : Addr) (ns : List Int), vs = [.ref a, .int 3] ∧ SqL K H a (ns.map V.int) ∧ ns.length ≤ 63 ∧
  ∀ (p : Addr) (ms : List Int) (H' : Hp), Same H H' → H p = none → H' p = some (.lst (ms.map V.int)) → ms.length ≤ 3 → Q (.ref p) H'
theorem ok_folded (T : Txt K mg w) : FnOk P w K mg base CX0 1 T.f_folded T.fd_folded p_folded (spFolded K) := by
  refine T.F_folded.ok sc_folded (fun vs H Q E h => ?_) (fun cdv A outer s H vs Q E hr h => ?_)
  · obtain ⟨a, ns, rfl, _⟩ := h
    rfl
  · obtain ⟨a, ns, rfl, hS, hl, q⟩ := h
    refine ⟨_, (pss_cons (ps_set (i := 2) sc_folded.nd rfl (.inl rfl) (pe_callTy call_list_of (by rfl) T.m_list (by decide +kernel) (pa_cons (pe_slice sl_list (pv 0) po_none (po_some (pv 1))) pa_nil)))
      (pss_cons (ps_for PassesOwn.never rfl (pi_enum (by rfl) T.m_enumerate (pa_cons (pe_slice sl_list (pv 0) (po_some (pv 1)) (po_some pe_int)) pa_nil)) (pg_tup rfl (pgs_cons (pg_name (i := 3) sc_folded.nd rfl (.inl rfl)) (pgs_cons (pg_name (i := 4) sc_folded.nd rfl (.inl rfl)) pgs_nil)))
        (pss_one (ps_asg (pe_op op_add (pe_ix ix_list (pv 2) (pe_op op_mod (pv 3) (pv 1)) (fun _ _ => rfl)) (pe_op op_mul (pv 4) (pe_op op_add (pv 3) pe_int))) (pg_sub (pv 2) (pe_op op_mod (pv 3) (pv 1)) set_list))))
      (pss_one (ps_ret (pv 2))))), ?_⟩
    -- the cells
    refine ⟨.ref a, rfl, .int 3, rfl, 3, rfl, a, _, rfl, hS, fun c nc => ?_⟩
    have s1 := same_upd (o := .lst (cutV (ns.map V.int) none (some 3))) nc
    refine ⟨c, _, rfl, .inl (.inl (.inl upd_same)), fun l nl => ?_⟩
    have s2 := s1.trans (same_upd (o := .lst (cutV (ns.map V.int) none (some 3))) nl)
    have nlH : H l = none := s1.free nl
    -- the rest of the script
    refine ⟨.ref a, rfl, .int 3, rfl, 3, rfl, 63, rfl, a, _, rfl, s2.seq hS, fun d nd => ?_⟩
    have s3 := s2.trans (same_upd (o := .lst (cutV (ns.map V.int) (some 3) (some 63))) nd)
    have nld : l ≠ d := ne_of_none upd_same nd
    refine ⟨d, _, rfl, .inl (.inl upd_same), ?_⟩
    rw [cut_map V.int, cut_map V.int] at *
    refine for_it (walk_enum (xs := (cutI ns (some 3) (some 63)).map V.int)) (fun i σ H3 => ∃ (y3 y4 : Option V) (ms : List Int), σ = [some (.ref a), some (.int 3), some (.ref l), y3, y4] ∧ Same H H3 ∧ H3 d = some (.lst ((cutI ns (some 3) (some 63)).map V.int)) ∧ H3 l = some (.lst (ms.map V.int)) ∧ ms.length = min 3 ns.length) ?_ ?_ ?_ ?_
    · refine ⟨none, none, cutI ns none (some 3), rfl, s3, upd_same, ?_, cutI_head ns⟩
      rw [upd_ne nld, upd_same]
    · rintro i σ H3 _ ⟨y3, y4, ms, rfl, _, hd, _⟩
      exact .inl (.inl hd)
    · rintro i x σ H3 H4 hi ⟨y3, y4, ms, rfl, sm, hd, hl3, hm⟩ ⟨t, x1, x2, rfl, nt, rfl, e1, e2⟩
      rw [List.length_map] at hi
      have e1' : V.int (i : Nat) = x1 := Option.some.inj e1
      subst e1'
      have e2' : x2 = .int (cutI ns (some 3) (some 63))[i] := by
        have : ((cutI ns (some 3) (some 63)).map V.int)[i]? = some x2 := e2
        rw [List.getElem?_map, List.getElem?_eq_getElem hi] at this
        exact (Option.some.inj this).symm
      subst e2'
      have h3 : ms.length = 3 := by
        by_cases hc : ns.length ≤ 3
        · rw [cutI_tail ns hc] at hi; omega
        · omega
      have nlt : l ≠ t := ne_of_none hl3 nt
      have hl4 : (upd H3 t (.tup [.int (i : Nat), .int (cutI ns (some 3) (some 63))[i]])) l = some (.lst (ms.map V.int)) := by rw [upd_ne nlt]; exact hl3
      have hlt : ((i : Int) % 3).toNat < ms.length := by omega
      refine ⟨t, _, rfl, .inl (.inl upd_same), rfl, _, _, rfl, _, _, rfl, rfl, ?_⟩
      refine ⟨.ref l, rfl, .int i, rfl, .int 3, rfl, i, 3, rfl, rfl, by show (0 : Int) < 3; decide, l, _, _, .int ms[((i : Int) % 3).toNat], rfl, rfl, .inl (.inl hl4), ?_, ?_⟩
      · refine at_of (j := ((i : Int) % 3).toNat) (by omega) ?_
        rw [List.getElem?_map, List.getElem?_eq_getElem hlt]; rfl
      refine ⟨_, rfl, .int i, rfl, i, 2, rfl, rfl, _, _, rfl, rfl, .inr ⟨by omega, ?_⟩, _, _, rfl, rfl, .ref l, rfl, .int i, rfl, .int 3, rfl, i, 3, rfl, rfl, by show (0 : Int) < 3; decide, l, _, _, ((i : Int) % 3).toNat, rfl, rfl, hl4, ?_, ?_⟩
      · have : (cutI ns (some 3) (some 63)).length ≤ ns.length := by
          unfold cutI; rw [List.length_take, List.length_drop]; omega
        omega
      · show ixN (ms.map V.int).length ((i : Int) % 3) = some _
        unfold ixN
        rw [List.length_map, if_pos (by omega), if_pos (by omega)]
      · refine ⟨_, _, ms.set ((i : Int) % 3).toNat (ms[((i : Int) % 3).toNat] + (cutI ns (some 3) (some 63))[i] * ((i : Int) + 2)), rfl, ?_, ?_, ?_, ?_⟩
        · exact fun b o e => by
            rw [upd_ne (ne_of_none e nlH), upd_ne (ne_of_none (sm b o e) nt)]
            exact sm b o e
        · rw [upd_ne nld.symm, upd_ne (ne_of_none hd nt)]
          exact hd
        · rw [upd_same, List.map_set]
        · rw [List.length_set]; exact hm
    · rintro σ H3 ⟨y3, y4, ms, rfl, sm, hd, hl3, hm⟩
      exact ⟨.ref l, rfl, q l ms H3 sm nlH hl3 (by omega)⟩
end
end Lh

namespace Lh
open PySem PySem.Spec PyProof.Rows L2
/-- data of at most n levels, no level longer than 1000 -/
def okD : Nat → PyData → Prop
  | _, .none => True
  | _, .bool _ => True
  | _, .int _ => True
  | _, .str _ => True
  | n + 1, .list ds => ds.length ≤ 8388608 ∧ ∀ d ∈ ds, okD n d
  | n + 1, .tuple ds => ds.length ≤ 8388608 ∧ ∀ d ∈ ds, okD n d
  | _, _ => False
def tyD : PyData → String
  | .none => "NoneType"
  | .bool _ => "bool"
  | .int _ => "int"
  | .str _ => "str"
  | .list _ => "list"
  | .tuple _ => "tuple"
  | .dict _ => "dict"
theorem Rp.ty {bx : Addr} {K : PySem.W.Frag} {H : Hp} {v : V} {d : PyData} (h : Rp bx H v d) : TyX K H v (.type (tyD d)) := by
  cases h with
  | non => exact .base .non
  | bl b => exact .base (.bl b)
  | int i => exact .base (.int i)
  | str x => exact .base (.str x)
  | lst h _ _ => exact .base (.lst h)
  | tup h _ _ => exact h.ty
theorem iteP {A B : Prop} {c : Bool} (h : c = true) (a : A) : if c = true then A else B := by rw [if_pos h]; exact a
theorem iteN {A B : Prop} {c : Bool} (h : c = false) (b : B) : if c = true then A else B := by rw [h, if_neg Bool.false_ne_true]; exact b
theorem yes {σ : L2.St} {H : Hp} {Q : Bool → Hp → Prop} (h : Q true H) : tYes σ H Q := h
theorem blC {Q : VK} {c d : Bool} {H : Hp} (h : c = d) (q : Q (.bl d) H) : Q (.bl c) H := by rw [h]; exact q
theorem blT {Q : VK} {c : Bool} {H : Hp} (h : c = true) (q : Q (.bl true) H) : Q (.bl c) H := by rw [h]; exact q
/-- isinstance(name, T) -/
theorem rd_isi {K : PySem.W.Frag} {σ : L2.St} {H : Hp} {Q : VK} {i : Nat} {x : V} {T c : String} {b : Bool} (hs : σ[i]? = some (some x)) (ty : TyX K H x (.type T)) (h : kitB T c = some b) (q : Q (.bl b) H) :
    tCB (rIsi K) (tCons (tVar i) (tCons (tC (.ty c)) tNil)) σ H Q := ⟨x, hs, x, .ty c, .type T, .type c, b, rfl, .ty c, ty, kit_ty h, q⟩
/-- isinstance(name, (T, U)) -/
theorem rd_isi2 {K : PySem.W.Frag} {σ : L2.St} {H : Hp} {Q : VK} {i : Nat} {x : V} {T c e : String} {b b2 : Bool} (hs : σ[i]? = some (some x)) (ty : TyX K H x (.type T)) (h : kitB T c = some b) (h2 : kitB T e = some b2)
    (q : ∀ p, H p = none → Q (.bl (b || b2)) (upd H p (.tup [.ty c, .ty e]))) (ty2 : ∀ p, H p = none → TyX K (upd H p (.tup [.ty c, .ty e])) x (.type T)) :
    tCB (rIsiT K) (tCons (tVar i) (tCons (tTup (tCons (tC (.ty c)) (tCons (tC (.ty e)) tNil))) tNil)) σ H Q :=
  ⟨x, hs, by show 2 ≤ sizeLine; decide, fun p hp => ⟨x, p, _, .type T, [.type c, .type e], b || b2, rfl, upd_same, .cons (.ty c) (.cons (.ty e) .nil), ty2 p hp, kitAny_cons (kit_ty h) (fun z => kitAny_cons (kit_ty h2) (fun z2 => by rw [z, z2]; rfl) (fun z2 => by rw [z2, Bool.or_true])) (fun z => by rw [z, Bool.true_or]), q p hp⟩⟩
theorem walk_zipT {K : PySem.W.Frag} {a b : Addr} {xs ys : List V} {n : Nat} (h1 : xs.length = n) (h2 : ys.length = n) : Walk (RZ.ItzT K a b) n (fun H => SqT K H a xs ∧ SqT K H b ys) (YPair (fun i => xs[i]?) (fun i => ys[i]?)) := by
  refine ⟨fun i _ hi q => ⟨xs, ys, xs[i], ys[i], q.1, q.2, by simp [h1, hi], by simp [h2, hi]⟩, fun _ q => ⟨xs, ys, q.1, q.2, .inl (by omega)⟩, ?_⟩
  rintro i H v H' _ q ⟨T, x, z, h1, h2, h3, h4, h5⟩
  exact ⟨T, x, z, h1, h2, h3, h4 xs q.1, h5 ys q.2⟩
def lcSc : Expr → Scope
  | .ListComp _ _ sc _ => sc
  | _ => { kind := .function, names := [], isGenerator := false, isCoroutine := false }
def retE : List Stmt → Expr
  | [.Return (some e) _] => e
  | _ => .Constant .none 0 ⟨0, 0, 0, 0⟩
def argE : Expr → Expr
  | .Call _ (e :: _) _ _ => e
  | e => e
def isCell (osc : Scope) (k : NameKind) (n : Str) : Bool := k == .free && osc.kind == .function && osc.names.lookup n == some .cell
/-- the names of an inner scope, as the outer one has them -/
def relS (sc osc : Scope) : Scope := { sc with names := sc.names.map fun z => if isCell osc z.2 z.1 = true then (z.1, .cell) else (z.1, z.2) }
def rTupN (K : PySem.W.Frag) : List V → Hp → VK → Prop := fun xs H Q => ∃ p ys, xs = [.ref p] ∧ SqL K H p ys ∧ ∀ l (o : Obj), H l = none → o.dict = none → Q (.ref l) (upd H l (.frz o (.tup ys)))
theorem blkOk_sc {N : List Str} {sc sc2 scope : Scope} {own : List (Str × Nat)} (e : sc = sc2) (h : blkC N sc2 scope own = true) : BlkOk N sc scope own := by
  subst e
  exact blkOk_by h
def asgE : Stmt → Expr
  | .Assign _ e _ => e
  | _ => .Constant .none 0 ⟨0, 0, 0, 0⟩
def forB : Stmt → List Stmt
  | .For _ _ b _ _ => b
  | _ => []
def noS : Stmt := .Pass ⟨0, 0, 0, 0⟩
def rLenQ (K : PySem.W.Frag) : List V → Hp → VK → Prop := fun xs H Q => ∃ p ys, xs = [.ref p] ∧ (SqL K H p ys ∨ SqT K H p ys) ∧ Q (.int ys.length) H
section
variable {P : Program} {w : World} {K : PySem.W.Frag} {mg : Str → Option Value} {base : Heap}
end
end Lh

namespace Lh
open PySem PySem.Spec PyProof.Rows L2
/-! ### lines and rings by numbers -/
def fbP : Nat → Nat × Nat
  | 0 => (0, 1)
  | n + 1 => ((fbP n).2, (fbP n).1 + (fbP n).2)
def fb (n : Nat) : Nat := (fbP n).1
theorem fb_next (n : Nat) : (fbP n).2 = fb (n + 1) := rfl
theorem fb_two (n : Nat) : fb (n + 2) = fb n + fb (n + 1) := rfl
theorem fb_mono (n : Nat) : fb (n + 1) ≤ fb (n + 2) := by rw [fb_two]; omega
theorem fb_pos : ∀ n, 1 ≤ fb (n + 1)
  | 0 => by decide
  | n + 1 => by have := fb_pos n; have := fb_mono n; show 1 ≤ fb (n + 2); omega
/-- so many persons left; e: 1 where the last one may show 1 -/
def decF : Nat → Nat → Nat → List Int
  | 0, _, _ => []
  | m + 1, e, a => if a < fb (m + 1 + e) then 0 :: decF m e a else 1 :: decF m e (a - fb (m + 1 + e))
def numF (e : Nat) : List Int → Nat
  | [] => 0
  | x :: xs => (if x = 1 then fb (xs.length + 1 + e) else 0) + numF e xs
def OkL (e : Nat) : List Int → Prop
  | [] => True
  | x :: xs => (x = 0 ∨ (x = 1 ∧ (xs = [] → e = 1) ∧ xs.headD 0 = 0)) ∧ OkL e xs
theorem decF_len (e : Nat) : ∀ m a, (decF m e a).length = m
  | 0, _ => rfl
  | m + 1, a => by
    unfold decF
    split
    · rw [List.length_cons, decF_len e m]
    · rw [List.length_cons, decF_len e m]
theorem decF_head {e m a : Nat} (h : a < fb (m + e)) : (decF m e a).headD 0 = 0 := by
  cases m with
  | zero => rfl
  | succ m => unfold decF; rw [if_pos h]; rfl
theorem decF_ok {e : Nat} (he : e ≤ 1) : ∀ m a, a < fb (m + e + 1) → OkL e (decF m e a)
  | 0, _, _ => trivial
  | m + 1, a, h => by
    have e2 : fb (m + 1 + e + 1) = fb (m + e) + fb (m + 1 + e) := by rw [show m + 1 + e + 1 = m + e + 2 by omega, fb_two, show m + e + 1 = m + 1 + e by omega]
    have e3 : fb (m + e) ≤ fb (m + e + 1) := by
      rcases Nat.eq_zero_or_pos (m + e) with z | z
      · rw [z]; decide
      · obtain ⟨k, hk⟩ : ∃ k, m + e = k + 1 := ⟨m + e - 1, by omega⟩
        rw [hk]; exact fb_mono k
    have e4 : fb (m + 1 + e) = fb (m + e + 1) := by rw [show m + 1 + e = m + e + 1 by omega]
    unfold decF
    split
    · rename_i c
      exact ⟨.inl rfl, decF_ok he m a (by omega)⟩
    · rename_i c
      refine ⟨.inr ⟨rfl, fun z => ?_, decF_head (by omega)⟩, decF_ok he m _ (by omega)⟩
      have lz := congrArg List.length z
      rw [decF_len] at lz
      have lz : m = 0 := lz
      subst lz
      rcases Nat.eq_zero_or_pos e with z | z
      · subst z
        have : fb (0 + 0) = 0 := rfl
        omega
      · omega
theorem num_dec {e : Nat} (he : e ≤ 1) : ∀ m a, a < fb (m + e + 1) → numF e (decF m e a) = a
  | 0, a, h => by
    have : fb (0 + e + 1) = 1 := by rcases Nat.le_one_iff_eq_zero_or_eq_one.mp he with z | z <;> rw [z] <;> rfl
    show 0 = a
    omega
  | m + 1, a, h => by
    have e2 : fb (m + 1 + e + 1) = fb (m + e) + fb (m + 1 + e) := by rw [show m + 1 + e + 1 = m + e + 2 by omega, fb_two, show m + e + 1 = m + 1 + e by omega]
    have e3 : fb (m + e) ≤ fb (m + e + 1) := by
      rcases Nat.eq_zero_or_pos (m + e) with z | z
      · rw [z]; decide
      · obtain ⟨k, hk⟩ : ∃ k, m + e = k + 1 := ⟨m + e - 1, by omega⟩
        rw [hk]; exact fb_mono k
    have e4 : fb (m + 1 + e) = fb (m + e + 1) := by rw [show m + 1 + e = m + e + 1 by omega]
    unfold decF
    split
    · rename_i c
      show (if (0 : Int) = 1 then _ else 0) + numF e (decF m e a) = a
      rw [if_neg (by decide), Nat.zero_add]
      exact num_dec he m a (by omega)
    · rename_i c
      show (if (1 : Int) = 1 then fb ((decF m e _).length + 1 + e) else 0) + numF e (decF m e _) = a
      rw [if_pos rfl, decF_len, num_dec he m _ (by omega)]
      omega
theorem dec_lt {e : Nat} (he : e ≤ 1) : ∀ m a b, a < b → b < fb (m + e + 1) → HT.lexLt (decF m e a) (decF m e b) = true
  | 0, a, b, h, hb => by
    have : fb (0 + e + 1) = 1 := by rcases Nat.le_one_iff_eq_zero_or_eq_one.mp he with z | z <;> rw [z] <;> rfl
    omega
  | m + 1, a, b, h, hb => by
    have e2 : fb (m + 1 + e + 1) = fb (m + e) + fb (m + 1 + e) := by rw [show m + 1 + e + 1 = m + e + 2 by omega, fb_two, show m + e + 1 = m + 1 + e by omega]
    have e3 : fb (m + e) ≤ fb (m + e + 1) := by
      rcases Nat.eq_zero_or_pos (m + e) with z | z
      · rw [z]; decide
      · obtain ⟨k, hk⟩ : ∃ k, m + e = k + 1 := ⟨m + e - 1, by omega⟩
        rw [hk]; exact fb_mono k
    have e4 : fb (m + 1 + e) = fb (m + e + 1) := by rw [show m + 1 + e = m + e + 1 by omega]
    unfold decF
    by_cases c1 : a < fb (m + 1 + e)
    · by_cases c2 : b < fb (m + 1 + e)
      · rw [if_pos c1, if_pos c2]
        show (if (0 : Int) = 0 then HT.lexLt _ _ else _) = true
        rw [if_pos rfl]
        exact dec_lt he m a b h (by omega)
      · rw [if_pos c1, if_neg c2]
        rfl
    · rw [if_neg c1, if_neg (by omega)]
      show (if (1 : Int) = 1 then HT.lexLt _ _ else _) = true
      rw [if_pos rfl]
      exact dec_lt he m _ _ (by omega) (by omega)
theorem num_lt {e : Nat} : ∀ row, OkL e row → numF e row < fb (row.length + e + 1) ∧ (row.headD 0 = 0 → (row = [] → e = 1) → numF e row < fb (row.length + e))
  | [], _ => ⟨by have := fb_pos (0 + e); show 0 < fb (0 + e + 1); omega, fun _ h => by rw [h rfl]; decide⟩
  | x :: xs, h => by
    obtain ⟨h1, h2⟩ := h
    obtain ⟨i1, i2⟩ := num_lt xs h2
    have e2 : fb (xs.length + 1 + e + 1) = fb (xs.length + e) + fb (xs.length + e + 1) := by rw [show xs.length + 1 + e + 1 = xs.length + e + 2 by omega, fb_two]
    have e4 : fb (xs.length + 1 + e) = fb (xs.length + e + 1) := by rw [show xs.length + 1 + e = xs.length + e + 1 by omega]
    rcases h1 with rfl | ⟨rfl, h3, h4⟩
    · have en : numF e ((0 : Int) :: xs) = numF e xs := by show (if (0 : Int) = 1 then _ else 0) + _ = _; rw [if_neg (by decide), Nat.zero_add]
      rw [en, List.length_cons]
      exact ⟨by omega, fun _ _ => by omega⟩
    · have en : numF e ((1 : Int) :: xs) = fb (xs.length + 1 + e) + numF e xs := by show (if (1 : Int) = 1 then _ else 0) + _ = _; rw [if_pos rfl]
      have := i2 h4 h3
      rw [en, List.length_cons]
      exact ⟨by omega, fun z => by cases z⟩
theorem dec_num {e : Nat} : ∀ row, OkL e row → decF row.length e (numF e row) = row
  | [], _ => rfl
  | x :: xs, h => by
    obtain ⟨h1, h2⟩ := h
    obtain ⟨i1, i2⟩ := num_lt xs h2
    have e4 : fb (xs.length + 1 + e) = fb (xs.length + e + 1) := by rw [show xs.length + 1 + e = xs.length + e + 1 by omega]
    rw [List.length_cons]
    unfold decF
    rcases h1 with rfl | ⟨rfl, h3, h4⟩
    · have en : numF e ((0 : Int) :: xs) = numF e xs := by show (if (0 : Int) = 1 then _ else 0) + _ = _; rw [if_neg (by decide), Nat.zero_add]
      rw [en, if_pos (by omega), dec_num xs h2]
    · have en : numF e ((1 : Int) :: xs) = fb (xs.length + 1 + e) + numF e xs := by show (if (1 : Int) = 1 then _ else 0) + _ = _; rw [if_pos rfl]
      rw [en, if_neg (by omega), Nat.add_sub_cancel_left, dec_num xs h2]
/-! ### as the program goes -/
def exE (ring : Bool) (pre : List Int) : Nat := if ring = true ∧ (1 : Int) ∉ pre.take 1 then 1 else 0
def decP (ring : Bool) : Nat → List Int → Nat → List Int
  | 0, pre, _ => pre
  | m + 1, pre, a => if a < fb (m + 1 + exE ring pre) then decP ring m (pre ++ [0]) a else decP ring m (pre ++ [1]) (a - fb (m + 1 + exE ring pre))
def numP (ring : Bool) : List Int → List Int → Nat
  | _, [] => 0
  | pre, x :: xs => (if x = 1 then fb (xs.length + 1 + exE ring pre) else 0) + numP ring (pre ++ [x]) xs
theorem exE_line (pre : List Int) : exE false pre = 0 := if_neg fun z => by cases z.1
theorem exE_more {ring : Bool} {pre : List Int} (h : pre ≠ []) (x : Int) : exE ring (pre ++ [x]) = exE ring pre := by
  cases pre with
  | nil => exact absurd rfl h
  | cons y ys => rfl
theorem decP_of {ring : Bool} {e : Nat} : ∀ (m : Nat) (pre : List Int) (a : Nat), (∀ suf : List Int, exE ring (pre ++ suf) = e) → decP ring m pre a = pre ++ decF m e a
  | 0, pre, a, _ => (List.append_nil _).symm
  | m + 1, pre, a, h => by
    have h0 : exE ring pre = e := by have := h []; rw [List.append_nil] at this; exact this
    have hs : ∀ x : Int, ∀ suf : List Int, exE ring (pre ++ [x] ++ suf) = e := fun x suf => by rw [List.append_assoc]; exact h _
    unfold decP decF
    rw [h0]
    split
    · rw [decP_of m _ _ (hs 0), List.append_assoc]; rfl
    · rw [decP_of m _ _ (hs 1), List.append_assoc]; rfl
theorem numP_of {ring : Bool} {e : Nat} : ∀ (xs pre : List Int), (∀ suf : List Int, exE ring (pre ++ suf) = e) → numP ring pre xs = numF e xs
  | [], pre, _ => rfl
  | x :: xs, pre, h => by
    have h0 : exE ring pre = e := by have := h []; rw [List.append_nil] at this; exact this
    have hs : ∀ suf : List Int, exE ring (pre ++ [x] ++ suf) = e := fun suf => by rw [List.append_assoc]; exact h _
    unfold numP numF
    rw [h0, numP_of xs _ hs]
theorem ex_line (pre : List Int) : ∀ suf : List Int, exE false (pre ++ suf) = 0 := fun _ => exE_line _
theorem ex_zero : ∀ suf : List Int, exE true ([(0 : Int)] ++ suf) = 1 := fun _ => if_pos ⟨rfl, by show (1 : Int) ∉ [(0 : Int)]; decide⟩
theorem ex_one : ∀ suf : List Int, exE true ([(1 : Int)] ++ suf) = 0 := fun _ => if_neg fun z => z.2 (by show (1 : Int) ∈ [(1 : Int)]; decide)
theorem ex_nil : exE true [] = 1 := rfl
/-- the row of that number -/
def rowK (ring : Bool) (n k : Nat) : List Int := decP ring n [] k
def cntK (ring : Bool) (n : Nat) : Nat := if ring = true then fb (n + 1) + fb (n - 1) else fb (n + 1)
theorem rowK_line (n k : Nat) : rowK false n k = decF n 0 k := by unfold rowK; rw [decP_of n [] k (ex_line [])]; rfl
theorem rowK_ring (m k : Nat) : rowK true (m + 1) k = if k < fb (m + 2) then 0 :: decF m 1 k else 1 :: decF m 0 (k - fb (m + 2)) := by
  unfold rowK decP
  rw [ex_nil]
  show (if k < fb (m + 2) then decP true m [0] k else decP true m [1] (k - fb (m + 2))) = _
  split
  · rw [decP_of m [0] k ex_zero]; rfl
  · rw [decP_of m [1] _ ex_one]; rfl
theorem numK_line (row : List Int) : numP false [] row = numF 0 row := numP_of row [] (ex_line [])
theorem numK_zero (xs : List Int) : numP true [] (0 :: xs) = numF 1 xs := by
  unfold numP
  rw [if_neg (by decide), Nat.zero_add]
  exact numP_of xs [0] ex_zero
theorem numK_one (xs : List Int) : numP true [] (1 :: xs) = fb (xs.length + 2) + numF 0 xs := by
  unfold numP
  rw [if_pos rfl, ex_nil]
  exact congrArg _ (numP_of xs [1] ex_one)
theorem rowK_len (ring : Bool) (n k : Nat) : (rowK ring n k).length = n := by
  cases ring with
  | false => rw [rowK_line, decF_len]
  | true =>
    cases n with
    | zero => rfl
    | succ m =>
      rw [rowK_ring]
      split
      · rw [List.length_cons, decF_len]
      · rw [List.length_cons, decF_len]
theorem row_lt {ring : Bool} {m a b : Nat} (h : a < b) (hb : b < cntK ring (m + 2)) : HT.lexLt (rowK ring (m + 2) a) (rowK ring (m + 2) b) = true := by
  cases ring with
  | false => rw [rowK_line, rowK_line]; exact dec_lt (by decide) _ _ _ h hb
  | true =>
    have hb : b < fb (m + 3) + fb (m + 1) := hb
    have e2 : fb (m + 2) = fb m + fb (m + 1) := fb_two m
    rw [rowK_ring, rowK_ring]
    show HT.lexLt (if a < fb (m + 3) then _ else _) (if b < fb (m + 3) then _ else _) = true
    by_cases c1 : a < fb (m + 3)
    · by_cases c2 : b < fb (m + 3)
      · rw [if_pos c1, if_pos c2]
        show (if (0 : Int) = 0 then HT.lexLt _ _ else _) = true
        rw [if_pos rfl]
        exact dec_lt (by decide) _ _ _ h c2
      · rw [if_pos c1, if_neg c2]
        rfl
    · rw [if_neg c1, if_neg (by omega)]
      show (if (1 : Int) = 1 then HT.lexLt _ _ else _) = true
      rw [if_pos rfl]
      refine dec_lt (by decide) _ _ _ (show a - fb (m + 3) < b - fb (m + 3) by omega) ?_
      show b - fb (m + 3) < fb (m + 2)
      omega
theorem num_row {ring : Bool} {m a : Nat} (h : a < cntK ring (m + 2)) : numP ring [] (rowK ring (m + 2) a) = a := by
  cases ring with
  | false => rw [rowK_line, numK_line]; exact num_dec (by decide) _ _ h
  | true =>
    have hb : a < fb (m + 3) + fb (m + 1) := h
    have e2 : fb (m + 2) = fb m + fb (m + 1) := fb_two m
    rw [rowK_ring]
    show numP true [] (if a < fb (m + 3) then _ else _) = a
    split
    · rename_i c
      rw [numK_zero]
      exact num_dec (by decide) _ _ c
    · rename_i c
      rw [numK_one, decF_len, num_dec (by decide) (m + 1) _ (show a - fb (m + 3) < fb (m + 2) by omega)]
      show fb (m + 3) + (a - fb (m + 3)) = a
      omega
/-- a rest: numbers 0 and 1, no 1 ahead of a 1, the one behind the last is z -/
def RestZ (z : Int) : List Int → Prop
  | [] => True
  | x :: xs => (x = 0 ∨ x = 1) ∧ x * xs.headD z = 0 ∧ RestZ z xs
theorem ok_rest0 : ∀ xs, OkL 0 xs → RestZ 1 xs
  | [], _ => trivial
  | x :: xs, h => by
    obtain ⟨h1, h2⟩ := h
    rcases h1 with rfl | ⟨rfl, h3, h4⟩
    · exact ⟨.inl rfl, Int.zero_mul _, ok_rest0 xs h2⟩
    · refine ⟨.inr rfl, ?_, ok_rest0 xs h2⟩
      cases xs with
      | nil => exact absurd (h3 rfl) (by decide)
      | cons y ys => show (1 : Int) * y = 0; rw [show y = 0 from h4]; rfl
theorem ok_rest1 : ∀ xs, OkL 1 xs → RestZ 0 xs
  | [], _ => trivial
  | x :: xs, h => by
    obtain ⟨h1, h2⟩ := h
    rcases h1 with rfl | ⟨rfl, h3, h4⟩
    · exact ⟨.inl rfl, Int.zero_mul _, ok_rest1 xs h2⟩
    · refine ⟨.inr rfl, ?_, ok_rest1 xs h2⟩
      cases xs with
      | nil => rfl
      | cons y ys => show (1 : Int) * y = 0; rw [show y = 0 from h4]; rfl
theorem ok_last : ∀ xs, OkL 0 xs → xs.getLastD 0 = 0
  | [], _ => rfl
  | [x], h => by
    rcases h.1 with rfl | ⟨_, h3, _⟩
    · rfl
    · exact absurd (h3 rfl) (by decide)
  | x :: y :: ys, h => by
    have := ok_last (y :: ys) h.2
    rw [List.getLastD_cons] at this ⊢
    rw [List.getLastD_cons]
    exact this
theorem row_line_ok {n k : Nat} (h : k < cntK false n) : OkL 0 (rowK false n k) := by rw [rowK_line]; exact decF_ok (by decide) n k h
theorem row_rest {ring : Bool} {m k : Nat} (h : k < cntK ring (m + 2)) : RestZ (if ring = true then (rowK ring (m + 2) k).headD 0 else 1) (rowK ring (m + 2) k) := by
  cases ring with
  | false => rw [if_neg Bool.false_ne_true]; exact ok_rest0 _ (row_line_ok h)
  | true =>
    have hb : k < fb (m + 3) + fb (m + 1) := h
    have e2 : fb (m + 2) = fb m + fb (m + 1) := fb_two m
    rw [if_pos rfl, rowK_ring]
    show RestZ ((if k < fb (m + 3) then _ else _ : List Int).headD 0) (if k < fb (m + 3) then _ else _)
    split
    · rename_i c
      exact ⟨.inl rfl, Int.zero_mul _, ok_rest1 _ (decF_ok (by decide) _ _ c)⟩
    · rename_i c
      have hd : (decF (m + 1) 0 (k - fb (m + 3))).headD 0 = 0 := decF_head (by show k - fb (m + 3) < fb (m + 1); omega)
      refine ⟨.inr rfl, ?_, ok_rest0 _ (decF_ok (by decide) _ _ (by show k - fb (m + 3) < fb (m + 2); omega))⟩
      have hl := decF_len 0 (m + 1) (k - fb (m + 3))
      cases hx : decF (m + 1) 0 (k - fb (m + 3)) with
      | nil => rw [hx] at hl; cases hl
      | cons y ys =>
        rw [hx] at hd
        show (1 : Int) * y = 0
        rw [show y = 0 from hd]; rfl
/-- a line's rest is the ring's, too -/
theorem ok_01 : ∀ xs, OkL 0 xs → OkL 1 xs
  | [], _ => trivial
  | x :: xs, h => ⟨h.1.elim .inl fun z => .inr ⟨z.1, fun _ => rfl, z.2.2⟩, ok_01 xs h.2⟩
theorem line_in_ring {m k : Nat} (h : k < cntK false (m + 2)) : numP true [] (rowK false (m + 2) k) < cntK true (m + 2) ∧ rowK true (m + 2) (numP true [] (rowK false (m + 2) k)) = rowK false (m + 2) k := by
  have ho := row_line_ok h
  have hl := rowK_len false (m + 2) k
  generalize rowK false (m + 2) k = row at ho hl
  have ec : cntK true (m + 2) = fb (m + 3) + fb (m + 1) := rfl
  have p1 := fb_pos m
  cases row with
  | nil => cases hl
  | cons x xs =>
    have lx : xs.length = m + 1 := by rw [List.length_cons] at hl; omega
    obtain ⟨h1, h2⟩ := ho
    rw [rowK_ring]
    rcases h1 with rfl | ⟨rfl, h3, h4⟩
    · have o1 := ok_01 xs h2
      have n1 := (num_lt xs o1).1
      have d1 := dec_num xs o1
      rw [lx] at n1 d1
      have n1 : numF 1 xs < fb (m + 3) := n1
      rw [numK_zero]
      refine ⟨by omega, ?_⟩
      show (if numF 1 xs < fb (m + 3) then _ else _) = _
      rw [if_pos n1, d1]
    · have n1 := (num_lt xs h2).2 h4 h3
      have d1 := dec_num xs h2
      rw [numK_one]
      rw [lx] at n1 d1 ⊢
      have n1 : numF 0 xs < fb (m + 1) := n1
      show fb (m + 3) + numF 0 xs < cntK true (m + 2) ∧ (if fb (m + 3) + numF 0 xs < fb (m + 3) then _ else 1 :: decF (m + 1) 0 (fb (m + 3) + numF 0 xs - fb (m + 3))) = _
      refine ⟨by omega, ?_⟩
      rw [if_neg (by omega), Nat.add_sub_cancel_left, d1]
end Lh

namespace Lh
open PySem PySem.Spec PyProof.Rows L2
/-! ### rules -/
inductive Rule where
  | held (n : Int)
  | sum (own : Int) (ties : List (Int × Int))
  | cap (own : Int) (ties : List (Int × Int)) (most : Int)
  | kinds (own : Int) (seen : List Int)
  | next (seen : List Int)
  | free (seen : List Int)
/-- tuples stay -/
structure Keep (H H' : Hp) : Prop where
  tup : ∀ a xs, H a = some (.tup xs) → H' a = some (.tup xs)
  frz : ∀ a o u, H a = some (.frz o u) → H' a = some (.frz o u)
theorem Keep.refl (H : Hp) : Keep H H := ⟨fun _ _ h => h, fun _ _ _ h => h⟩
theorem Keep.trans {H H1 H2 : Hp} (a : Keep H H1) (b : Keep H1 H2) : Keep H H2 := ⟨fun x y h => b.tup x y (a.tup x y h), fun x y z h => b.frz x y z (a.frz x y z h)⟩
theorem Keep.same {H H' : Hp} (e : Same H H') : Keep H H' := ⟨fun a xs h => e a _ h, fun a o u h => e a _ h⟩
theorem Keep.ext {bx : Addr} {c : Int} {H H' : Hp} (e : Ext bx H H') (b : Box bx c H) : Keep H H' := by
  obtain ⟨x, y, z, hb, _⟩ := b
  exact ⟨fun a xs h => e a _ (ne_of h hb (by intro z; cases z)) h, fun a o u h => e a _ (ne_of h hb (by intro z; cases z)) h⟩
theorem TupAt.keep {H H' : Hp} {a : Addr} {xs : List V} (k : Keep H H') (h : TupAt H a xs) : TupAt H' a xs := by
  rcases h with h | ⟨o, d, h⟩
  · exact .inl (k.tup _ _ h)
  · exact .inr ⟨o, d, k.frz _ _ _ h⟩
def PairAtH (H : Hp) (p : Addr) (q : Int × Int) : Prop := H p = some (.tup [.int q.1, .int q.2])
def TiesAt (H : Hp) (t : Addr) (ties : List (Int × Int)) : Prop := ∃ (o : Obj) (ps : List Addr), o.dict = none ∧ H t = some (.frz o (.tup (ps.map V.ref))) ∧ Paired (PairAtH H) ps ties
def SeenAt (H : Hp) (t : Addr) (seen : List Int) : Prop := ∃ o : Obj, o.dict = none ∧ H t = some (.frz o (.tup (seen.map V.int)))
def RuleAt (H : Hp) (v : V) : Rule → Prop
  | .held n => ∃ a, v = .ref a ∧ H a = some (.tup [.str "held", .int n])
  | .sum own ties => ∃ a t, v = .ref a ∧ H a = some (.tup [.str "sum", .int own, .ref t]) ∧ TiesAt H t ties
  | .cap own ties most => ∃ a t, v = .ref a ∧ H a = some (.tup [.str "cap", .int own, .ref t, .int most]) ∧ TiesAt H t ties
  | .kinds own seen => ∃ a t, v = .ref a ∧ H a = some (.tup [.str "kinds", .int own, .ref t]) ∧ SeenAt H t seen
  | .next seen => ∃ a t, v = .ref a ∧ H a = some (.tup [.str "next", .ref t]) ∧ SeenAt H t seen
  | .free seen => ∃ a t, v = .ref a ∧ H a = some (.tup [.str "free", .ref t]) ∧ SeenAt H t seen
theorem pairs_keep {H H' : Hp} (k : Keep H H') : ∀ {ps : List Addr} {ties : List (Int × Int)}, Paired (PairAtH H) ps ties → Paired (PairAtH H') ps ties
  | _, _, .nil => .nil
  | _, _, .cons h r => .cons (k.tup _ _ h) (pairs_keep k r)
theorem TiesAt.keep {H H' : Hp} {t : Addr} {ties : List (Int × Int)} (k : Keep H H') (h : TiesAt H t ties) : TiesAt H' t ties := by
  obtain ⟨o, ps, h1, h2, h3⟩ := h
  exact ⟨o, ps, h1, k.frz _ _ _ h2, pairs_keep k h3⟩
theorem SeenAt.keep {H H' : Hp} {t : Addr} {seen : List Int} (k : Keep H H') (h : SeenAt H t seen) : SeenAt H' t seen := by
  obtain ⟨o, h1, h2⟩ := h
  exact ⟨o, h1, k.frz _ _ _ h2⟩
theorem RuleAt.keep {H H' : Hp} {v : V} (k : Keep H H') : ∀ {r : Rule}, RuleAt H v r → RuleAt H' v r
  | .held n, ⟨a, e, h⟩ => ⟨a, e, k.tup _ _ h⟩
  | .sum _ _, ⟨a, t, e, h, q⟩ => ⟨a, t, e, k.tup _ _ h, q.keep k⟩
  | .cap _ _ _, ⟨a, t, e, h, q⟩ => ⟨a, t, e, k.tup _ _ h, q.keep k⟩
  | .kinds _ _, ⟨a, t, e, h, q⟩ => ⟨a, t, e, k.tup _ _ h, q.keep k⟩
  | .next _, ⟨a, t, e, h, q⟩ => ⟨a, t, e, k.tup _ _ h, q.keep k⟩
  | .free _, ⟨a, t, e, h, q⟩ => ⟨a, t, e, k.tup _ _ h, q.keep k⟩
def smallI (i : Int) : Prop := 0 ≤ i ∧ i ≤ 1000
/-- rising persons below many -/
def Rising (many : Int) (ns : List Int) : Prop := ns.Pairwise (· < ·) ∧ ∀ n ∈ ns, 0 ≤ n ∧ n < many
def Rule.Wf (many : Int) : Rule → Prop
  | .held n => smallI n
  | .sum own ties => smallI own ∧ Rising many (ties.map (·.1)) ∧ ∀ q ∈ ties, 1 ≤ q.2 ∧ q.2 ≤ 1000
  | .cap own ties most => smallI own ∧ Rising many (ties.map (·.1)) ∧ (∀ q ∈ ties, 1 ≤ q.2 ∧ q.2 ≤ 1000) ∧ smallI most
  | .kinds own seen => smallI own ∧ Rising many seen
  | .next seen => Rising many seen
  | .free seen => Rising many seen
def Rule.persons : Rule → List Int
  | .held _ => []
  | .sum _ ties => ties.map (·.1)
  | .cap _ ties _ => ties.map (·.1)
  | .kinds _ seen => seen
  | .next seen => seen
  | .free seen => seen
theorem Rising.sub {many : Int} {ns ms : List Int} (s : ms.Sublist ns) (h : Rising many ns) : Rising many ms := ⟨h.1.sublist s, fun n hn => h.2 n (s.subset hn)⟩
/-- an item of a written list -/
theorem pick {xs : List V} {i : Int} (h0 : 0 ≤ i) (h1 : i < xs.length) : ∃ v, v ∈ xs ∧ atI xs i = some v := by
  have hj : i.toNat < xs.length := by omega
  exact ⟨xs[i.toNat], List.getElem_mem hj, at_of (by omega) (List.getElem?_eq_getElem hj)⟩
section
variable {P : Program} {w : World} {K : PySem.W.Frag} {mg : Str → Option Value} {base : Heap}
def spSome : Sp := fun vs H Q _ => ∃ (bx p : Addr) (c m : Int) (ns : List Int), vs = [.ref bx, .ref p, .int m] ∧ 0 < m ∧ m ≤ 1000000 ∧ c + ns.length ≤ 1000000000 ∧ ns.length ≤ 1000 ∧ Box bx c H ∧ H p = some (.lst (ns.map V.int)) ∧ p ≠ bx ∧
  ∀ (q : Addr) (ms : List Int) (H' : Hp), Ext bx H H' → Box bx (c + ns.length) H' → H q = none → H' q = some (.lst (ms.map V.int)) → ms.Sublist ns → Q (.ref q) H'
end
end Lh

namespace Lh
open PySem PySem.Spec PyProof.Rows L2
section
variable {P : Program} {w : World} {K : PySem.W.Frag} {mg : Str → Option Value} {base : Heap}
theorem Paired.snoc {α β : Type} {R : α → β → Prop} {x : α} {y : β} (r : R x y) : ∀ {xs : List α} {ys : List β}, Paired R xs ys → Paired R (xs ++ [x]) (ys ++ [y])
  | _, _, .nil => .cons r .nil
  | _, _, .cons h t => .cons h (Paired.snoc r t)
def spSumRule : Sp := fun vs H Q _ => ∃ (bx p : Addr) (c far many : Int) (ns : List Int), vs = [.ref bx, .ref p, .int far] ∧ 0 < far ∧ far ≤ 999 ∧ c + 2 * ns.length + 4 ≤ 1000000000 ∧ ns.length ≤ 1000 ∧ Box bx c H ∧ H p = some (.lst (ns.map V.int)) ∧ p ≠ bx ∧ Rising many ns ∧
  ∀ (v : V) (r : Rule) (H' : Hp), Ext bx H H' → Box bx (c + 2 * ns.length + 4) H' → RuleAt H' v r → r.Wf many → r.persons = ns → Q v H'
end
end Lh

namespace Lh
open PySem PySem.Spec PyProof.Rows L2
section
variable {P : Program} {w : World} {K : PySem.W.Frag} {mg : Str → Option Value} {base : Heap}
def spRule : Sp := fun vs H Q _ => ∃ (bx p : Addr) (c far many : Int) (m : V) (ns : List Int), vs = [.ref bx, m, .ref p, .int far] ∧ 0 < far ∧ far ≤ 999 ∧ c + 3 * ns.length + 6 ≤ 1000000000 ∧ ns.length ≤ 1000 ∧ Box bx c H ∧ H p = some (.lst (ns.map V.int)) ∧ p ≠ bx ∧ Rising many ns ∧
  ∀ (v : V) (r : Rule) (H' : Hp), Ext bx H H' → Box bx (c + 3 * ns.length + 6) H' → RuleAt H' v r → r.Wf many → r.persons.Sublist ns → Q v H'
end
end Lh

namespace Lh
open PySem PySem.Spec PyProof.Rows L2
/-! ### what a rule tells -/
theorem nodup_len {α : Type} [DecidableEq α] : ∀ (xs ys : List α), xs.Nodup → (∀ x ∈ xs, x ∈ ys) → xs.length ≤ ys.length
  | [], _, _, _ => Nat.zero_le _
  | x :: t, ys, nd, h => by
    have hx : x ∈ ys := h x List.mem_cons_self
    have nt := List.nodup_cons.mp nd
    have h2 := nodup_len t (ys.erase x) nt.2 (fun y hy => by
      have ne : y ≠ x := fun e => nt.1 (by rw [← e]; exact hy)
      exact (List.mem_erase_of_ne ne).mpr (h y (List.mem_cons_of_mem _ hy)))
    rw [List.length_erase_of_mem hx] at h2
    have : 0 < ys.length := List.length_pos_of_mem hx
    rw [List.length_cons]
    omega
def wgt (ties : List (Int × Int)) (p : Int) : Int := ((ties.find? fun q => decide (q.1 = p)).map (·.2)).getD 0
def IsMex (ns : List Int) (x : Int) : Prop := x ∉ ns ∧ 0 ≤ x ∧ ∀ j, 0 ≤ j → j < x → j ∈ ns
def Tell : Rule → List (Int × Int) → Int → Prop
  | .held n, _, x => x = n
  | .sum own ties, lot, x => x = own + (lot.map fun q => wgt ties q.1).sum
  | .cap own ties most, lot, x => x = min (own + (lot.map fun q => wgt ties q.1).sum) most
  | .kinds own _, lot, x => ∃ ks : List Int, ks.Nodup ∧ (∀ k, k ∈ ks ↔ k ∈ lot.map (·.2)) ∧ x = own + ks.length
  | .next _, lot, x => (lot = [] ∧ x = 0) ∨ (x - 1 ∈ lot.map (·.2) ∧ ∀ y ∈ lot.map (·.2), y ≤ x - 1)
  | .free _, lot, x => IsMex (lot.map (·.2)) x
theorem Tell.unique : ∀ {r : Rule} {lot : List (Int × Int)} {x y : Int}, Tell r lot x → Tell r lot y → x = y
  | .held _, _, _, _, h, k => h.trans k.symm
  | .sum _ _, _, _, _, h, k => h.trans k.symm
  | .cap _ _ _, _, _, _, h, k => h.trans k.symm
  | .kinds _ _, lot, x, y, ⟨a, na, ma, ha⟩, ⟨b, nb, mb, hb⟩ => by
    have h1 := nodup_len a b na (fun z hz => (mb z).mpr ((ma z).mp hz))
    have h2 := nodup_len b a nb (fun z hz => (ma z).mpr ((mb z).mp hz))
    omega
  | .next _, lot, x, y, h, k => by
    rcases h with ⟨h1, h2⟩ | ⟨h1, h2⟩
    · rcases k with ⟨k1, k2⟩ | ⟨k1, k2⟩
      · omega
      · rw [h1] at k1; exact absurd k1 (by simp)
    · rcases k with ⟨k1, k2⟩ | ⟨k1, k2⟩
      · rw [k1] at h1; exact absurd h1 (by simp)
      · have := h2 _ k1; have := k2 _ h1; omega
  | .free _, lot, x, y, ⟨h1, h2, h3⟩, ⟨k1, k2, k3⟩ => by
    rcases Int.lt_trichotomy x y with h | h | h
    · exact absurd (k3 x h2 h) h1
    · exact h
    · exact absurd (h3 y k2 h) k1
/-! ### dicts of ties -/
def kvOf (ties : List (Int × Int)) : List (Key × V) := ties.map fun q => (Sum.inl q.1, V.int q.2)
theorem merge_new : ∀ (more acc : List (Key × V)), ((acc ++ more).map (·.1)).Nodup → mergeK acc more = acc ++ more
  | [], acc, _ => by rw [List.append_nil]; rfl
  | q :: t, acc, nd => by
    have hq : (acc.any fun kv => decide (kv.1 = q.1)) = false := by
      rw [List.any_eq_false]
      intro kv hkv e
      have e' : kv.1 = q.1 := of_decide_eq_true e
      rw [List.map_append, List.nodup_append] at nd
      exact nd.2.2 _ (List.mem_map_of_mem hkv) q.1 (by simp) e'
    have e1 : mergeK acc (q :: t) = mergeK (putK acc q.1 q.2) t := rfl
    have e2 : putK acc q.1 q.2 = acc ++ [q] := by
      unfold putK
      rw [hq, if_neg Bool.false_ne_true]
    rw [e1, e2, merge_new t (acc ++ [q]) (by rw [List.append_assoc]; exact nd), List.append_assoc]
    rfl
theorem kv_nodup {ties : List (Int × Int)} (h : (ties.map (·.1)).Nodup) : ((kvOf ties).map (·.1)).Nodup := by
  unfold kvOf
  rw [List.map_map]
  have e : ((fun q : Key × V => q.1) ∘ fun q : Int × Int => ((Sum.inl q.1 : Key), V.int q.2)) = (fun n : Int => (Sum.inl n : Key)) ∘ (fun q : Int × Int => q.1) := rfl
  rw [e, ← List.map_map, List.nodup_iff_pairwise_ne]
  rw [List.nodup_iff_pairwise_ne] at h
  exact List.Pairwise.map _ (fun a b z q => z (Sum.inl.inj q)) h
theorem kv_get : ∀ {ties : List (Int × Int)} {p : Int}, p ∈ ties.map (·.1) → valV (kvOf ties) (Sum.inl p) = some (.int (wgt ties p))
  | [], p, h => absurd h (by simp)
  | q :: t, p, h => by
    by_cases e : q.1 = p
    · have e1 : valV (kvOf (q :: t)) (Sum.inl p) = some (V.int q.2) := valV_pos (p := ((Sum.inl q.1 : Key), V.int q.2)) (by rw [e])
      rw [e1]
      unfold wgt
      rw [List.find?_cons, decide_eq_true e]
      rfl
    · have e1 : valV (kvOf (q :: t)) (Sum.inl p) = valV (kvOf t) (Sum.inl p) := valV_neg (p := ((Sum.inl q.1 : Key), V.int q.2)) (fun z => e (Sum.inl.inj z))
      have h' : p ∈ t.map (·.1) := by
        rw [List.map_cons, List.mem_cons] at h
        rcases h with h | h
        · exact absurd h.symm e
        · exact h
      rw [e1, kv_get h']
      unfold wgt
      rw [List.find?_cons, decide_eq_false e]
theorem Rising.nodup {many : Int} {ns : List Int} (h : Rising many ns) : ns.Nodup := by
  rw [List.nodup_iff_pairwise_ne]
  exact h.1.imp fun z => by omega
/-! ### a walk over pairs -/
theorem walk_tupR {K : PySem.W.Frag} {t : Addr} (ps : List Addr) : Walk (Itt K t) ps.length (fun H => SqT K H t (ps.map V.ref)) (YAt (ps.map V.ref)) := by
  have h := walk_tup (K := K) (a := t) (xs := ps.map V.ref)
  rw [List.length_map] at h
  exact h
theorem walk_listR {K : PySem.W.Frag} {t : Addr} (ps : List Addr) : Walk (Itl K t) ps.length (fun H => SqL K H t (ps.map V.ref)) (YAt (ps.map V.ref)) := by
  have h := walk_list (K := K) (a := t) (xs := ps.map V.ref)
  rw [List.length_map] at h
  exact h
theorem lc_pairs {K : PySem.W.Frag} {J : It} {G : Hp → Prop} {ps : List Addr} {lot : List (Int × Int)} {H1 : Hp} {D : Addr} {σ : L2.St} {vs : List Nat} {te : TE} {Qd : Hp → Prop} {i j : Nat} (f : Int × Int → Int)
    (wk : Walk J ps.length G (YAt (ps.map V.ref))) (hp : Paired (PairAtH H1) ps lot) (hD : H1 D = none) (hl : ps.length ≤ 1000) (hG : ∀ H3, Same H1 H3 → G H3)
    (hw : ∀ a b, wipe (((wipe σ vs).set i a).set j b) vs = wipe σ vs)
    (he : ∀ q ∈ lot, ∀ H3, Same H1 H3 → ∀ Q : VK, Q (.int (f q)) H3 → te (((wipe σ vs).set i (some (.int q.1))).set j (some (.int q.2))) H3 Q)
    (hq : ∀ H', Same H1 H' → H' D = some (.lst ((lot.map f).map V.int)) → Qd H') :
    ∃ W : Nat → Nat → Hp → Prop, (∃ m, W 0 m (upd H1 D (.lst []))) ∧ ∀ i1 m H, W i1 m H →
      (J.stop i1 H ∧ Qd H) ∨ (J.go i1 H ∧ ∃ Nx : Hp → Prop, (∀ H', Nx H' → ∃ m', m' < m ∧ W (i1 + 1) m' H') ∧ ∀ x H', J.yld i1 H x H' → gTup K 2 (gCons (gName i) (gCons (gName j) gNil)) x (wipe σ vs) H' fun σ2 H2 => wipe σ2 vs = wipe σ vs ∧ tYes σ2 H2 fun b H3 =>
        if b = true then te σ2 H3 fun y H4 => ∃ acc, H4 D = some (.lst acc) ∧ acc.length < sizeLine ∧ Nx (upd H4 D (.lst (acc ++ [y]))) else Nx H3) := by
  have ll : ps.length = lot.length := hp.length
  refine lc_it wk (fun n H3 => Same H1 H3 ∧ H3 D = some (.lst (((lot.take n).map f).map V.int))) ⟨same_upd hD, upd_same⟩ (fun n H3 _ h => hG H3 h.1) ?_ ?_
  · rintro n x H3 H4 hn ⟨sm, h3⟩ ⟨rfl, hx⟩
    rw [List.getElem?_map, List.getElem?_eq_getElem hn] at hx
    have ex : x = .ref ps[n] := (Option.some.inj hx).symm
    subst ex
    have hn2 : n < lot.length := by omega
    have pa : PairAtH H1 ps[n] lot[n] := by
      have : ∀ {ps : List Addr} {lot : List (Int × Int)}, Paired (PairAtH H1) ps lot → ∀ (n : Nat) (h1 : n < ps.length) (h2 : n < lot.length), PairAtH H1 ps[n] lot[n] := by
        intro ps lot hp
        induction hp with
        | nil => intro n h1; exact absurd h1 (by simp)
        | cons r t ih =>
          intro n h1 h2
          cases n with
          | zero => exact r
          | succ n => exact ih n (by simpa using h1) (by simpa using h2)
      exact this hp n hn hn2
    refine ⟨ps[n], _, rfl, .inl (.inl (sm _ _ pa)), rfl, _, _, rfl, _, _, rfl, rfl, hw _ _, yes (iteT ?_)⟩
    refine he lot[n] (List.getElem_mem hn2) _ sm _ ⟨_, h3, ?_, same_mut sm hD, ?_⟩
    · rw [List.length_map, List.length_map, List.length_take]; exact small1000 (by omega)
    · rw [upd_same, List.take_add_one, List.getElem?_eq_getElem hn2, List.map_append, List.map_append]; rfl
  · rintro H3 ⟨sm, h3⟩
    rw [ll, List.take_length] at h3
    exact hq H3 sm h3
end Lh

namespace Lh
open PySem PySem.Spec PyProof.Rows L2
section
variable {P : Program} {w : World} {K : PySem.W.Frag} {mg : Str → Option Value} {base : Heap}
def spSeenBy : Sp := fun vs H Q _ => ∃ (v : V) (r : Rule), vs = [v] ∧ RuleAt H v r ∧ r.persons.length ≤ 1000 ∧ ∀ (p : Addr) (H' : Hp), Same H H' → H p = none → H' p = some (.lst (r.persons.map V.int)) → Q (.ref p) H'
end
end Lh

namespace Lh
open PySem PySem.Spec PyProof.Rows L2
/-- a lot in the heap, a list of pairs or a tuple of them -/
def LotAt (H : Hp) (v : V) (lot : List (Int × Int)) : Prop := ∃ (a : Addr) (ps : List Addr), v = .ref a ∧ (H a = some (.lst (ps.map V.ref)) ∨ TupAt H a (ps.map V.ref)) ∧ Paired (PairAtH H) ps lot ∧ ps.length ≤ 1000
theorem LotAt.same {H H' : Hp} {v : V} {lot : List (Int × Int)} (s : Same H H') (h : LotAt H v lot) : LotAt H' v lot := by
  obtain ⟨a, ps, e, h1, h2, h3⟩ := h
  refine ⟨a, ps, e, ?_, pairs_keep (Keep.same s) h2, h3⟩
  rcases h1 with h1 | h1
  · exact .inl (s _ _ h1)
  · exact .inr (h1.keep (Keep.same s))
theorem pairs_sq {K : PySem.W.Frag} {H : Hp} : ∀ {ps : List Addr} {ties : List (Int × Int)}, Paired (PairAtH H) ps ties → Paired (fun p kv => SqT K H p [kV kv.1, kv.2]) ps (kvOf ties)
  | _, _, .nil => .nil
  | _, _, .cons h r => .cons (.inl (.inl h)) (pairs_sq r)
theorem merge_kv {ties : List (Int × Int)} (h : (ties.map (·.1)).Nodup) : mergeK [] (kvOf ties) = kvOf ties := by
  rw [merge_new (kvOf ties) [] (by rw [List.nil_append]; exact kv_nodup h), List.nil_append]
section
variable {P : Program} {w : World} {K : PySem.W.Frag} {mg : Str → Option Value} {base : Heap}
theorem in_ints (x : Int) (ns : List Int) : inV (.int x) (ns.map V.int) = decide (x ∈ ns) := by
  unfold inV
  rw [List.any_map]
  rw [Bool.eq_iff_iff, List.any_eq_true, decide_eq_true_iff]
  constructor
  · rintro ⟨y, hy, e⟩
    have e' : (y == x) = true := e
    rw [← eq_of_beq e']; exact hy
  · intro h
    exact ⟨x, h, (beq_self_eq_true x : (x == x) = true)⟩
theorem flat_ints (ns : List Int) : (ns.map V.int).all flatV = true := by
  rw [List.all_map, List.all_eq_true]
  intro _ _; rfl
end
end Lh

namespace Lh
open PySem PySem.Spec PyProof.Rows L2
def seenPairs : Rule → List (Int × Int)
  | .held _ => []
  | .sum _ ties => ties
  | .cap _ ties _ => ties
  | .kinds _ seen => seen.map fun n => (n, 1)
  | .next seen => seen.map fun n => (n, 1)
  | .free seen => seen.map fun n => (n, 1)
theorem seen_persons : ∀ r : Rule, (seenPairs r).map (·.1) = r.persons
  | .held _ => rfl
  | .sum _ _ => rfl
  | .cap _ _ _ => rfl
  | .kinds _ s => by show (s.map fun n => (n, (1 : Int))).map (·.1) = s; rw [List.map_map]; exact List.map_id s
  | .next s => by show (s.map fun n => (n, (1 : Int))).map (·.1) = s; rw [List.map_map]; exact List.map_id s
  | .free s => by show (s.map fun n => (n, (1 : Int))).map (·.1) = s; rw [List.map_map]; exact List.map_id s
section
variable {P : Program} {w : World} {K : PySem.W.Frag} {mg : Str → Option Value} {base : Heap}
/-- [(one, 1) for one in seen] -/
theorem lc_ones {K : PySem.W.Frag} {t : Addr} {seen : List Int} {H1 : Hp} {D : Addr} {σ : L2.St} {vs : List Nat} {Qd : Hp → Prop} {i : Nat} (ht : SeenAt H1 t seen) (hD : H1 D = none) (hl : seen.length ≤ 1000)
    (hw : ∀ a, wipe ((wipe σ vs).set i a) vs = wipe σ vs) (hi : ∀ a : V, ((wipe σ vs).set i (some a))[i]? = some (some a))
    (hq : ∀ H' ps, Same H1 H' → H' D = some (.lst (ps.map V.ref)) → Paired (PairAtH H') ps (seen.map fun n => (n, 1)) → Qd H') :
    ∃ W : Nat → Nat → Hp → Prop, (∃ m, W 0 m (upd H1 D (.lst []))) ∧ ∀ i1 m H, W i1 m H →
      ((Itt K t).stop i1 H ∧ Qd H) ∨ ((Itt K t).go i1 H ∧ ∃ Nx : Hp → Prop, (∀ H', Nx H' → ∃ m', m' < m ∧ W (i1 + 1) m' H') ∧ ∀ x H', (Itt K t).yld i1 H x H' → gName i x (wipe σ vs) H' fun σ2 H2 => wipe σ2 vs = wipe σ vs ∧ tYes σ2 H2 fun b H3 =>
        if b = true then tTup (tCons (tVar i) (tCons (tC (.int 1)) tNil)) σ2 H3 fun y H4 => ∃ acc, H4 D = some (.lst acc) ∧ acc.length < sizeLine ∧ Nx (upd H4 D (.lst (acc ++ [y]))) else Nx H3) := by
  obtain ⟨o, od, ht⟩ := ht
  refine lc_it (walk_tup (xs := seen.map V.int)) (fun n H3 => ∃ ps : List Addr, Same H1 H3 ∧ H3 D = some (.lst (ps.map V.ref)) ∧ Paired (PairAtH H3) ps ((seen.take n).map fun n => (n, 1))) ⟨[], same_upd hD, upd_same, .nil⟩ ?_ ?_ ?_
  · rintro n H3 _ ⟨ps, sm, _⟩
    exact .inl (.inr ⟨o, sm _ _ ht⟩)
  · rintro n x H3 H4 hn ⟨ps, sm, h3, pr⟩ ⟨rfl, hx⟩
    rw [List.length_map] at hn
    rw [List.getElem?_map, List.getElem?_eq_getElem hn] at hx
    have ex : x = .int seen[n] := (Option.some.inj hx).symm
    subst ex
    have pl : ps.length = n := by rw [pr.length, List.length_map, List.length_take]; omega
    refine ⟨hw _, yes (iteT ⟨.int seen[n], hi _, by show 2 ≤ sizeLine; decide, fun p np => ?_⟩)⟩
    have nDp : D ≠ p := ne_of_none h3 np
    refine ⟨_, by rw [upd_ne nDp]; exact h3, by rw [List.length_map]; exact small1000 (by omega), ps ++ [p], ?_, ?_, ?_⟩
    · exact same_mut (sm.trans (same_upd np)) hD
    · rw [upd_same, List.map_append]; rfl
    · rw [List.take_add_one, List.getElem?_eq_getElem hn, List.map_append]
      have kT : Keep H4 (upd (upd H4 p (.tup [.int seen[n], .int 1])) D (.lst (ps.map V.ref ++ [.ref p]))) := by
        refine ⟨fun a xs h => ?_, fun a o u h => ?_⟩
        · rw [upd_ne (ne_of h h3 (by intro z; cases z)), upd_ne (ne_of_none h np)]; exact h
        · rw [upd_ne (ne_of h h3 (by intro z; cases z)), upd_ne (ne_of_none h np)]; exact h
      refine Paired.snoc ?_ (pairs_keep kT pr)
      show upd (upd H4 p _) D _ p = _
      rw [upd_ne nDp.symm, upd_same]
  · rintro H3 ⟨ps, sm, h3, pr⟩
    rw [List.length_map, List.take_length] at pr
    exact hq H3 ps sm h3 pr
def wordOf : Rule → Str
  | .held _ => "held"
  | .sum _ _ => "sum"
  | .cap _ _ _ => "cap"
  | .kinds _ _ => "kinds"
  | .next _ => "next"
  | .free _ => "free"
theorem RuleAt.word {H : Hp} {v : V} : ∀ {r : Rule}, RuleAt H v r → ∃ a xs, v = .ref a ∧ H a = some (.tup (.str (wordOf r) :: xs))
  | .held _, ⟨a, e, h⟩ => ⟨a, _, e, h⟩
  | .sum _ _, ⟨a, t, e, h, _⟩ => ⟨a, _, e, h⟩
  | .cap _ _ _, ⟨a, t, e, h, _⟩ => ⟨a, _, e, h⟩
  | .kinds _ _, ⟨a, t, e, h, _⟩ => ⟨a, _, e, h⟩
  | .next _, ⟨a, t, e, h, _⟩ => ⟨a, _, e, h⟩
  | .free _, ⟨a, t, e, h, _⟩ => ⟨a, _, e, h⟩
theorem last_max : ∀ (ms : List Int) (h : ms ≠ []), ms.Pairwise (· < ·) → ∀ y ∈ ms, y ≤ ms.getLast h
  | [], h, _, _, _ => absurd rfl h
  | [m], _, _, y, hy => by rw [List.mem_singleton.mp hy]; exact Int.le_refl _
  | m :: n :: r, _, pw, y, hy => by
    rw [List.getLast_cons (List.cons_ne_nil n r)]
    have p2 := List.pairwise_cons.mp pw
    rcases List.mem_cons.mp hy with e | e
    · have h1 := p2.1 _ (List.getLast_mem (List.cons_ne_nil n r))
      rw [e]; omega
    · exact last_max (n :: r) (List.cons_ne_nil n r) p2.2 y e
theorem canLay_ints : ∀ ns : List Int, PyData.canLayAll0 (ns.map PyData.int) = true
  | [] => rfl
  | n :: r => by rw [List.map_cons]; show (PyData.canLay0 (.int n) && PyData.canLayAll0 (r.map PyData.int)) = true; rw [canLay_ints r]; rfl
theorem depth_ints : ∀ ns : List Int, PyData.depthAll (ns.map PyData.int) = 0
  | [] => rfl
  | n :: r => by rw [List.map_cons]; show max 0 (PyData.depthAll (r.map PyData.int)) = 0; rw [depth_ints r]; rfl
theorem shaped_ints (ns : List Int) : SeqAt.shaped (.list (ns.map PyData.int)) = true := by
  show (PyData.canLayAll0 (ns.map PyData.int) && decide (PyData.depthAll (ns.map PyData.int) + 1 ≤ 64)) = true
  rw [canLay_ints, depth_ints]
  rfl
/-- [e for n in numbers] -/
theorem lc_ints {K : PySem.W.Frag} {t : Addr} {ns : List Int} {H1 : Hp} {D : Addr} {σ : L2.St} {vs : List Nat} {te : TE} {Qd : Hp → Prop} {i : Nat} (f : Int → Int) (ht : H1 t = some (.lst (ns.map V.int))) (hD : H1 D = none) (hl : ns.length ≤ 1000)
    (hw : ∀ a, wipe ((wipe σ vs).set i a) vs = wipe σ vs)
    (he : ∀ n ∈ ns, ∀ H3, Same H1 H3 → ∀ Q : VK, Q (.int (f n)) H3 → te ((wipe σ vs).set i (some (.int n))) H3 Q)
    (hq : ∀ H', Same H1 H' → H' D = some (.lst ((ns.map f).map V.int)) → Qd H') :
    ∃ W : Nat → Nat → Hp → Prop, (∃ m, W 0 m (upd H1 D (.lst []))) ∧ ∀ i1 m H, W i1 m H →
      ((Itl K t).stop i1 H ∧ Qd H) ∨ ((Itl K t).go i1 H ∧ ∃ Nx : Hp → Prop, (∀ H', Nx H' → ∃ m', m' < m ∧ W (i1 + 1) m' H') ∧ ∀ x H', (Itl K t).yld i1 H x H' → gName i x (wipe σ vs) H' fun σ2 H2 => wipe σ2 vs = wipe σ vs ∧ tYes σ2 H2 fun b H3 =>
        if b = true then te σ2 H3 fun y H4 => ∃ acc, H4 D = some (.lst acc) ∧ acc.length < sizeLine ∧ Nx (upd H4 D (.lst (acc ++ [y]))) else Nx H3) := by
  refine lc_it (walk_list (xs := ns.map V.int)) (fun n H3 => Same H1 H3 ∧ H3 D = some (.lst (((ns.take n).map f).map V.int))) ⟨same_upd hD, upd_same⟩ ?_ ?_ ?_
  · rintro n H3 _ ⟨sm, _⟩
    exact .inl (.inl (sm _ _ ht))
  · rintro n x H3 H4 hn ⟨sm, h3⟩ ⟨rfl, hx⟩
    rw [List.length_map] at hn
    rw [List.getElem?_map, List.getElem?_eq_getElem hn] at hx
    have ex : x = .int ns[n] := (Option.some.inj hx).symm
    subst ex
    refine ⟨hw _, yes (iteT (he ns[n] (List.getElem_mem hn) _ sm _ ⟨_, h3, ?_, same_mut sm hD, ?_⟩))⟩
    · rw [List.length_map, List.length_map, List.length_take]; exact small1000 (by omega)
    · rw [upd_same, List.take_add_one, List.getElem?_eq_getElem hn, List.map_append, List.map_append]; rfl
  · rintro H3 ⟨sm, h3⟩
    rw [List.length_map, List.take_length] at h3
    exact hq H3 sm h3
end
end Lh

namespace Lh
open PySem PySem.Spec PyProof.Rows L2
theorem walk_zipM {K : PySem.W.Frag} {a b : Addr} {xs ys : List V} {n : Nat} (hn : n = min xs.length ys.length) : Walk (RZ.ItzT K a b) n (fun H => SqT K H a xs ∧ SqT K H b ys) (YPair (fun i => xs[i]?) (fun i => ys[i]?)) := by
  refine ⟨fun i _ hi q => ⟨xs, ys, xs[i]'(by omega), ys[i]'(by omega), q.1, q.2, List.getElem?_eq_getElem (by omega), List.getElem?_eq_getElem (by omega)⟩, fun _ q => ⟨xs, ys, q.1, q.2, by omega⟩, ?_⟩
  rintro i H v H' _ q ⟨T, x, z, h1, h2, h3, h4, h5⟩
  exact ⟨T, x, z, h1, h2, h3, h4 xs q.1, h5 ys q.2⟩
/-- a comprehension whose items are all True -/
theorem lc_true {J : It} {n : Nat} {G : Hp → Prop} {Y : Nat → Hp → V → Hp → Prop} (wk : Walk J n G Y) {g : TG} {te : TE} {vs : List Nat} {σ : L2.St} {H1 : Hp} {D : Addr} {Qd : Hp → Prop} (hD : H1 D = none) (hn : n ≤ 1000) (hG : ∀ H3, Same H1 H3 → G H3)
    (hs : ∀ i x H3 H4, i < n → Same H1 H3 → Y i H3 x H4 → ∀ (Q : VK) (Z : Hp → Prop), (∀ H5, Same H3 H5 → Q (.bl true) H5) → g x (wipe σ vs) H4 fun σ2 H2 => wipe σ2 vs = wipe σ vs ∧ tYes σ2 H2 fun b H3 => if b = true then te σ2 H3 Q else Z H3)
    (hq : ∀ H', Same H1 H' → H' D = some (.lst ((List.replicate n true).map V.bl)) → Qd H') :
    ∃ W : Nat → Nat → Hp → Prop, (∃ m, W 0 m (upd H1 D (.lst []))) ∧ ∀ i m H, W i m H →
      (J.stop i H ∧ Qd H) ∨ (J.go i H ∧ ∃ Nx : Hp → Prop, (∀ H', Nx H' → ∃ m', m' < m ∧ W (i + 1) m' H') ∧ ∀ x H', J.yld i H x H' → g x (wipe σ vs) H' fun σ2 H2 => wipe σ2 vs = wipe σ vs ∧ tYes σ2 H2 fun b H3 =>
        if b = true then te σ2 H3 fun y H4 => ∃ acc, H4 D = some (.lst acc) ∧ acc.length < sizeLine ∧ Nx (upd H4 D (.lst (acc ++ [y]))) else Nx H3) := by
  refine lc_it wk (fun i H3 => Same H1 H3 ∧ H3 D = some (.lst ((List.replicate i true).map V.bl))) ⟨same_upd hD, upd_same⟩ (fun i H3 _ h => hG H3 h.1) ?_ (fun H3 h => hq H3 h.1 h.2)
  rintro i x H3 H4 hi ⟨sm, h3⟩ hy
  refine hs i x H3 H4 hi sm hy _ _ (fun H5 s5 => ⟨_, s5 _ _ h3, ?_, same_mut (sm.trans s5) hD, ?_⟩)
  · rw [List.length_map, List.length_replicate]; exact small1000 (by omega)
  · rw [upd_same, List.replicate_succ', List.map_append]; rfl
theorem rep_all (n : Nat) : ((List.replicate n true).all id) = true := by
  rw [List.all_eq_true]
  intro z hz
  rw [List.eq_of_mem_replicate hz]
  rfl
theorem all_true {K : PySem.W.Frag} {D : Addr} {n : Nat} {H : Hp} {Q : VK} (h : H D = some (.lst ((List.replicate n true).map V.bl))) (q : Q (.bl true) H) : rAll K [.ref D] H Q := by
  refine ⟨D, _, rfl, .inl (.inl h), blT ?_ q⟩
  rw [List.all_eq_true]
  intro z hz
  rw [List.eq_of_mem_replicate hz]
  rfl
theorem cut1 {α : Type} (xs : List α) : cutI xs (some 1) none = xs.drop 1 := by
  unfold cutI
  rw [show HT.sIx xs.length 0 (some 1) = min 1 xs.length from HT.sIx_nat xs.length 0 1, HT.sIx_none]
  cases xs with
  | nil => rfl
  | cons x r =>
    rw [show min 1 (x :: r).length = 1 by rw [List.length_cons]; omega]
    show List.take ((x :: r).length - 1) r = r
    rw [List.length_cons, Nat.add_sub_cancel, List.take_length]
section
variable {P : Program} {w : World} {K : PySem.W.Frag} {mg : Str → Option Value} {base : Heap}
def spIsNumber : Sp := fun vs H Q _ => ∃ i : Int, vs = [.int i] ∧ 0 ≤ i ∧ Q (.bl true) H
def spIsPerson : Sp := fun vs H Q _ => ∃ m i : Int, vs = [.int m, .int i] ∧ 0 ≤ i ∧ i < m ∧ Q (.bl true) H
theorem rise_at {ns : List Int} (pw : ns.Pairwise (· < ·)) {i : Nat} {x y : Int} (hx : ns[i]? = some x) (hy : (ns.drop 1)[i]? = some y) : x < y := by
  rw [List.getElem?_drop] at hy
  obtain ⟨h1, e1⟩ := List.getElem?_eq_some_iff.mp hx
  obtain ⟨h2, e2⟩ := List.getElem?_eq_some_iff.mp hy
  rw [← e1, ← e2]
  exact List.pairwise_iff_getElem.mp pw i (1 + i) h1 h2 (by omega)
def spRises (K : PySem.W.Frag) : Sp := fun vs H Q _ => ∃ (a : Addr) (ns : List Int), vs = [.ref a] ∧ (SqL K H a (ns.map V.int) ∨ TupAt H a (ns.map V.int)) ∧ ns.Pairwise (· < ·) ∧ ns.length ≤ 1000 ∧ ∀ H', Same H H' → Q (.bl true) H'
def spIsTie : Sp := fun vs H Q _ => ∃ (m : Int) (a : Addr) (q : Int × Int), vs = [.int m, .ref a] ∧ PairAtH H a q ∧ 0 ≤ q.1 ∧ q.1 < m ∧ 1 ≤ q.2 ∧ Q (.bl true) H
def spAreTies : Sp := fun vs H Q _ => ∃ (m : Int) (t : Addr) (ties : List (Int × Int)), vs = [.int m, .ref t] ∧ TiesAt H t ties ∧ Rising m (ties.map (·.1)) ∧ (∀ q ∈ ties, 1 ≤ q.2) ∧ ties.length ≤ 1000 ∧ ∀ H', Same H H' → Q (.bl true) H'
theorem pair_get {H : Hp} : ∀ {ps : List Addr} {lot : List (Int × Int)}, Paired (PairAtH H) ps lot → ∀ (n : Nat) (p : Addr), ps[n]? = some p → ∃ q, q ∈ lot ∧ PairAtH H p q
  | _, _, .nil, n, p, e => by simp at e
  | _, _, .cons r t, 0, p, e => ⟨_, List.mem_cons_self, by cases e; exact r⟩
  | _, _, .cons r t, n + 1, p, e => by
    obtain ⟨q, h1, h2⟩ := pair_get t n p (by simpa using e)
    exact ⟨q, List.mem_cons_of_mem _ h1, h2⟩
def spAreSeen : Sp := fun vs H Q _ => ∃ (m : Int) (t : Addr) (seen : List Int), vs = [.int m, .ref t] ∧ SeenAt H t seen ∧ Rising m seen ∧ seen.length ≤ 1000 ∧ ∀ H', Same H H' → Q (.bl true) H'
/-- what may stand as a part of a rule -/
def PartAt (H : Hp) (m : Int) (part : Str) (v : V) : Prop :=
  (part = "number" ∧ ∃ i : Int, v = .int i ∧ 0 ≤ i) ∨ (part = "ties" ∧ ∃ t ties, v = .ref t ∧ TiesAt H t ties ∧ Rising m (ties.map (·.1)) ∧ (∀ q ∈ ties, 1 ≤ q.2) ∧ ties.length ≤ 1000) ∨
  (part = "seen" ∧ ∃ t seen, v = .ref t ∧ SeenAt H t seen ∧ Rising m seen ∧ seen.length ≤ 1000)
theorem PartAt.same {H H' : Hp} {m : Int} {part : Str} {v : V} (s : Same H H') (h : PartAt H m part v) : PartAt H' m part v := by
  rcases h with h | ⟨e, t, ties, h1, h2, h3⟩ | ⟨e, t, seen, h1, h2, h3⟩
  · exact .inl h
  · exact .inr (.inl ⟨e, t, ties, h1, h2.keep (Keep.same s), h3⟩)
  · exact .inr (.inr ⟨e, t, seen, h1, h2.keep (Keep.same s), h3⟩)
def spIsPart : Sp := fun vs H Q _ => ∃ (m : Int) (part : Str) (v : V), vs = [.int m, .str part, v] ∧ PartAt H m part v ∧ ∀ H', Same H H' → Q (.bl true) H'
end
end Lh

namespace Lh
open PySem PySem.Spec PyProof.Rows L2
def partsOf : Rule → List Str
  | .held _ => ["number"]
  | .sum _ _ => ["number", "ties"]
  | .cap _ _ _ => ["number", "ties", "number"]
  | .kinds _ _ => ["number", "seen"]
  | .next _ => ["seen"]
  | .free _ => ["seen"]
section
variable {P : Program} {w : World} {K : PySem.W.Frag} {mg : Str → Option Value} {base : Heap}
theorem pieces {H : Hp} {v : V} {m : Int} : ∀ {r : Rule}, RuleAt H v r → r.Wf m → r.persons.length ≤ 1000 → ∃ a xs, v = .ref a ∧ H a = some (.tup (.str (wordOf r) :: xs)) ∧ xs.length = (partsOf r).length ∧ ∀ (i : Nat) (s : Str) (x : V), (partsOf r)[i]? = some s → xs[i]? = some x → PartAt H m s x
  | .held n, ⟨a, e, h⟩, wf, _ => ⟨a, _, e, h, rfl, fun i s x h1 h2 => by
    match i with
    | 0 => cases h1; cases h2; exact .inl ⟨rfl, n, rfl, wf.1⟩
    | i + 1 => cases h1⟩
  | .sum own ties, ⟨a, t, e, h, q⟩, wf, hl => ⟨a, _, e, h, rfl, fun i s x h1 h2 => by
    have hl' : ties.length ≤ 1000 := by simpa [Rule.persons] using hl
    match i with
    | 0 => cases h1; cases h2; exact .inl ⟨rfl, own, rfl, wf.1.1⟩
    | 1 => cases h1; cases h2; exact .inr (.inl ⟨rfl, t, ties, rfl, q, wf.2.1, fun q hq => (wf.2.2 q hq).1, hl'⟩)
    | i + 2 => cases h1⟩
  | .cap own ties most, ⟨a, t, e, h, q⟩, wf, hl => ⟨a, _, e, h, rfl, fun i s x h1 h2 => by
    have hl' : ties.length ≤ 1000 := by simpa [Rule.persons] using hl
    match i with
    | 0 => cases h1; cases h2; exact .inl ⟨rfl, own, rfl, wf.1.1⟩
    | 1 => cases h1; cases h2; exact .inr (.inl ⟨rfl, t, ties, rfl, q, wf.2.1, fun q hq => (wf.2.2.1 q hq).1, hl'⟩)
    | 2 => cases h1; cases h2; exact .inl ⟨rfl, most, rfl, wf.2.2.2.1⟩
    | i + 3 => cases h1⟩
  | .kinds own seen, ⟨a, t, e, h, q⟩, wf, hl => ⟨a, _, e, h, rfl, fun i s x h1 h2 => by
    match i with
    | 0 => cases h1; cases h2; exact .inl ⟨rfl, own, rfl, wf.1.1⟩
    | 1 => cases h1; cases h2; exact .inr (.inr ⟨rfl, t, seen, rfl, q, wf.2, hl⟩)
    | i + 2 => cases h1⟩
  | .next seen, ⟨a, t, e, h, q⟩, wf, hl => ⟨a, _, e, h, rfl, fun i s x h1 h2 => by
    match i with
    | 0 => cases h1; cases h2; exact .inr (.inr ⟨rfl, t, seen, rfl, q, wf, hl⟩)
    | i + 1 => cases h1⟩
  | .free seen, ⟨a, t, e, h, q⟩, wf, hl => ⟨a, _, e, h, rfl, fun i s x h1 h2 => by
    match i with
    | 0 => cases h1; cases h2; exact .inr (.inr ⟨rfl, t, seen, rfl, q, wf, hl⟩)
    | i + 1 => cases h1⟩
theorem parts_len : ∀ r : Rule, (partsOf r).length ≤ 1000
  | .held _ => by show 1 ≤ 1000; decide
  | .sum _ _ => by show 2 ≤ 1000; decide
  | .cap _ _ _ => by show 3 ≤ 1000; decide
  | .kinds _ _ => by show 2 ≤ 1000; decide
  | .next _ => by show 1 ≤ 1000; decide
  | .free _ => by show 1 ≤ 1000; decide
theorem cutV1 (xs : List V) : cutV xs (some 1) none = xs.drop 1 := by
  have h := cut_map id xs (some 1) none
  rw [List.map_id, List.map_id, cut1] at h
  exact h
def spIsRule : Sp := fun vs H Q _ => ∃ (m : Int) (v : V) (r : Rule), vs = [.int m, v] ∧ RuleAt H v r ∧ r.Wf m ∧ r.persons.length ≤ 1000 ∧ ∀ H', Same H H' → Q (.bl true) H'
/-! ### halls -/
theorem run_len {X : Cx} {k : Nat} {f C : Addr} {fd : FuncData} {ps : List Str} {sp : Sp} (me : Meth X.K C "__len__" f) (F : FnOk X.prog X.w X.K X.mg X.base CX0 k f fd ps sp) (hb : Binds X.K fd ps []) (hr : Room (k + 1) X.A) :
    CallR X (.builtin "len") (fun xs H Q => ∃ (x dx : Addr) (fs : List (Str × V)), xs = [.ref x] ∧ H x = some (.ins C dx fs) ∧ sp [.ref x] H (fun v H' => ∃ n : Int, v = .int n ∧ 0 ≤ n ∧ n < 2 ^ 63 ∧ Q (.int n) H') E0) := by
  intro pins s σ H xs us Q I r h
  obtain ⟨x, dx, fs, rfl, hx, h⟩ := h
  rw [Vals.ref1 r]
  obtain ⟨m, fr⟩ := I.fr
  obtain ⟨mA, O, _⟩ := ins_get I.hok hx
  obtain ⟨od, J, _⟩ := O.look
  refine PySem.W.len_K fr I.mod.kin J me.at_ me.fn ?_
  have e0 := I.env0
  have e1 : Env0 X.prog X.w X.K X.mg X.base X.A.in1 X.stack s H := ⟨e0.frames, e0.mod, e0.bs, e0.bsz, e0.funs, e0.frf, e0.hok, e0.bare⟩
  have hl : ([Value.ref x] ++ []).length = ps.length := by rw [← F.len _ _ _ _ h]; rfl
  have bb := hb s [.ref x] I.kIn hl
  rw [List.append_nil] at bb
  have vv : Vals [V.ref x] [Value.ref x] := .cons rfl .nil
  have run := F.run X.A.in1 X.stack s H ⟨[.ref x], []⟩ [.ref x] [.ref x] _ E0 hr.in1 e1 bb vv h
  refine wpAny_call (codeAny_mono run ?_)
  rintro (e | fl) t ht
  · exact False.elim ht
  cases fl with
  | next => exact False.elim ht
  | brk => exact False.elim ht
  | cont => exact False.elim ht
  | ret u =>
    obtain ⟨v, H', J2, rv, n, rfl, n0, n1, q⟩ := I.after ht
    obtain ⟨tk, rfl⟩ := rv
    exact ⟨⟨n0, n1⟩, .int n, H', J2.tok _, ⟨_, rfl⟩, q⟩
def RulesAt (H : Hp) : List V → List Rule → Prop := Paired (RuleAt H)
theorem RulesAt.keep {H H' : Hp} (k : Keep H H') : ∀ {vs : List V} {rs : List Rule}, RulesAt H vs rs → RulesAt H' vs rs
  | _, _, .nil => .nil
  | _, _, .cons h r => .cons (h.keep k) (RulesAt.keep k r)
theorem RulesAt.get {H : Hp} : ∀ {vs : List V} {rs : List Rule}, RulesAt H vs rs → ∀ (i : Nat) (h : i < rs.length), ∃ v, vs[i]? = some v ∧ RuleAt H v rs[i]
  | _, _, .nil, i, h => absurd h (by simp)
  | _, _, .cons r t, 0, h => ⟨_, rfl, r⟩
  | _, _, .cons r t, i + 1, h => by
    obtain ⟨v, h1, h2⟩ := RulesAt.get t i (by simpa using h)
    exact ⟨v, by simpa using h1, by simpa using h2⟩
def Halls (rs : List Rule) : Prop := 1 ≤ rs.length ∧ rs.length ≤ 12 ∧ ∀ r ∈ rs, r.Wf rs.length
theorem wf_len {m : Int} {r : Rule} (h : r.Wf m) (hm : m ≤ 1000) (m0 : 0 ≤ m) : r.persons.length ≤ 1000 ∧ (r.persons.length : Int) ≤ m := by
  have key : ∀ ns : List Int, Rising m ns → (ns.length : Int) ≤ m := fun ns rs => by
    have h1 := nodup_len ns ((List.range m.toNat).map fun k : Nat => (k : Int)) rs.nodup (fun x hx => by
      have := rs.2 x hx
      rw [List.mem_map]
      exact ⟨x.toNat, List.mem_range.mpr (by omega), by omega⟩)
    rw [List.length_map, List.length_range] at h1
    omega
  have : (r.persons.length : Int) ≤ m := by
    cases r with
    | held n => show ((0 : Nat) : Int) ≤ m; omega
    | sum own ties => exact key _ h.2.1
    | cap own ties most => exact key _ h.2.1
    | kinds own seen => exact key _ h.2
    | next seen => exact key _ h
    | free seen => exact key _ h
  exact ⟨by omega, this⟩
/-- the hall at x, of these rules -/
def HallAt (C : Addr) (H : Hp) (x : Addr) (rs : List Rule) : Prop := ∃ (dx t : Addr) (vs : List V), H x = some (.ins C dx [("kept", .ref t)]) ∧ TupAt H t vs ∧ RulesAt H vs rs
def spInit (C : Addr) : Sp := fun vs H Q _ => ∃ (x dx l : Addr) (us : List V) (rs : List Rule), vs = [.ref x, .ref l] ∧ H x = some (.ins C dx []) ∧ H l = some (.lst us) ∧ RulesAt H us rs ∧ Halls rs ∧
  ∀ H', (∀ b o, b ≠ x → H b = some o → H' b = some o) → HallAt C H' x rs → Q .non H'
end
end Lh

namespace Lh
open PySem PySem.Spec PyProof.Rows L2
theorem kept_yes (v : V) : ([("kept", v)] : List (Str × V)).lookup ("kept" : Str) = some v := by
  rw [List.lookup_cons, show (("kept" : Str) == "kept") = true from beq_self_eq_true _]
theorem kept_no (v : V) {m : Str} (h : ¬ m = "kept") : ([("kept", v)] : List (Str × V)).lookup (m : Str) = none := by
  rw [List.lookup_cons, show (m == ("kept" : Str)) = false from beq_eq_false_iff_ne.mpr h]
  rfl
theorem HallAt.keep {C : Addr} {H H' : Hp} {x : Addr} {rs : List Rule} (s : Same H H') (h : HallAt C H x rs) : HallAt C H' x rs := by
  obtain ⟨dx, t, vs, h1, h2, h3⟩ := h
  exact ⟨dx, t, vs, s _ _ h1, h2.keep (Keep.same s), h3.keep (Keep.same s)⟩
theorem HallAt.ext {C bx : Addr} {c : Int} {H H' : Hp} {x : Addr} {rs : List Rule} (e : Ext bx H H') (b : Box bx c H) (h : HallAt C H x rs) : HallAt C H' x rs := by
  obtain ⟨dx, t, vs, h1, h2, h3⟩ := h
  have nb : x ≠ bx := by
    obtain ⟨_, _, _, hb, _⟩ := b
    exact ne_of h1 hb (by intro z; cases z)
  exact ⟨dx, t, vs, e _ _ nb h1, h2.keep (Keep.ext e b), h3.keep (Keep.ext e b)⟩
/-! ### standings -/
def nth (ns : List Int) (p : Int) : Int := ns.getD p.toNat 0
theorem nth_get {ns : List Int} {p : Int} (h0 : 0 ≤ p) (h1 : p < ns.length) : (ns.map V.int)[p.toNat]? = some (.int (nth ns p)) := by
  have hp : p.toNat < ns.length := by omega
  rw [List.getElem?_map, List.getElem?_eq_getElem hp]
  unfold nth
  rw [List.getD_eq_getElem?_getD, List.getElem?_eq_getElem hp]
  rfl
theorem nth_at {ns : List Int} {p : Int} (h0 : 0 ≤ p) (h1 : p < ns.length) : atI (ns.map V.int) p = some (.int (nth ns p)) := at_of (by omega) (nth_get h0 h1)
/-- the lot of those a rule sees who show less -/
def lotI (r : Rule) (ns : List Int) (p : Int) : List (Int × Int) := (r.persons.filter fun o => decide (nth ns o < nth ns p)).map fun o => (o, nth ns o)
def lotH (r : Rule) (ns : List Int) (h : Int) : List (Int × Int) := (r.persons.filter fun o => decide (nth ns o < h)).map fun o => (o, nth ns o)
theorem lotH_in {r : Rule} {ns : List Int} {h : Int} : ∀ q ∈ lotH r ns h, q.1 ∈ r.persons := fun q hq => by
  obtain ⟨o, ho, rfl⟩ := List.mem_map.mp hq
  exact (List.mem_filter.mp ho).1
theorem lotI_in {r : Rule} {ns : List Int} {p : Int} : ∀ q ∈ lotI r ns p, q.1 ∈ r.persons := fun q hq => by
  obtain ⟨o, ho, rfl⟩ := List.mem_map.mp hq
  exact (List.mem_filter.mp ho).1
/-- the turns of some, had at once -/
def Turned (rs : List Rule) (ns : List Int) (some_ : Int → Prop) (ms : List Int) : Prop := ms.length = ns.length ∧ ∀ (i : Nat) (h : i < rs.length), (some_ i → Tell rs[i] (lotI rs[i] ns i) (nth ms i)) ∧ (¬ some_ i → nth ms i = nth ns i)
theorem nth_ext {ns ms : List Int} (hl : ns.length = ms.length) (h : ∀ i : Nat, i < ns.length → nth ns i = nth ms i) : ns = ms := by
  apply List.ext_getElem hl
  intro i h1 h2
  have := h i h1
  unfold nth at this
  rw [List.getD_eq_getElem?_getD, List.getD_eq_getElem?_getD, Int.toNat_natCast, List.getElem?_eq_getElem h1, List.getElem?_eq_getElem h2] at this
  exact this
theorem Turned.unique {rs : List Rule} {ns ms ks : List Int} {p q : Int → Prop} (hn : ns.length = rs.length) (pq : ∀ i : Nat, i < rs.length → (p i ↔ q i)) (a : Turned rs ns p ms) (b : Turned rs ns q ks) : ms = ks := by
  refine nth_ext (a.1.trans b.1.symm) fun i hi => ?_
  have h : i < rs.length := by rw [← hn, ← a.1]; exact hi
  have ha := a.2 i h
  have hb := b.2 i h
  by_cases c : p i
  · exact (ha.1 c).unique (hb.1 ((pq i h).mp c))
  · rw [ha.2 c, hb.2 fun z => c ((pq i h).mpr z)]
abbrev Beat (rs : List Rule) (ns ms : List Int) : Prop := Turned rs ns (fun _ => True) ms
section
variable {P : Program} {w : World} {K : PySem.W.Frag} {mg : Str → Option Value} {base : Heap}
def spMust (C : Addr) : Sp := fun vs H Q _ => ∃ (x : Addr) (p : Int) (rs : List Rule), vs = [.ref x, .int p] ∧ HallAt C H x rs ∧ 0 ≤ p ∧ p < rs.length ∧ Q .non H
def spRuleM (C : Addr) : Sp := fun vs H Q _ => ∃ (x : Addr) (p : Nat) (rs : List Rule) (h : p < rs.length), vs = [.ref x, .int p] ∧ HallAt C H x rs ∧ ∀ v, RuleAt H v rs[p] → Q v H
def spSees (C : Addr) : Sp := fun vs H Q _ => ∃ (x : Addr) (p : Nat) (rs : List Rule) (h : p < rs.length), vs = [.ref x, .int p] ∧ HallAt C H x rs ∧ Halls rs ∧ ∀ (l : Addr) (H' : Hp), Same H H' → H l = none → H' l = some (.lst (rs[p].persons.map V.int)) → Q (.ref l) H'
theorem Halls.few {rs : List Rule} (h : Halls rs) {p : Nat} (hp : p < rs.length) : rs[p].persons.length ≤ 12 := by
  have h1 := h.2.1
  have := (wf_len (h.2.2 _ (List.getElem_mem hp)) (by omega) (by omega)).2
  omega
def spLen (C : Addr) : Sp := fun vs H Q _ => ∃ (x : Addr) (rs : List Rule), vs = [.ref x] ∧ HallAt C H x rs ∧ Q (.int rs.length) H
theorem per_in {rs : List Rule} (hh : Halls rs) {p : Nat} (hp : p < rs.length) : ∀ o ∈ rs[p].persons, 0 ≤ o ∧ o < rs.length := by
  intro o ho
  have wf := hh.2.2 _ (List.getElem_mem hp)
  generalize rs[p] = r at ho wf
  cases r with
  | held n => exact absurd ho (by simp [Rule.persons])
  | sum own ties => exact wf.2.1.2 o ho
  | cap own ties most => exact wf.2.1.2 o ho
  | kinds own seen => exact wf.2.2 o ho
  | next seen => exact wf.2 o ho
  | free seen => exact wf.2 o ho
end
end Lh

namespace Lh
open PySem PySem.Spec PyProof.Rows L2
theorem rg_ints (n : Int) : rgV 0 n = ((List.range n.toNat).map fun k : Nat => (k : Int)).map V.int := by
  unfold rgV
  rw [List.map_map, Int.sub_zero]
  exact List.map_congr_left fun k _ => by show V.int (0 + (k : Int)) = V.int k; rw [Int.zero_add]
theorem rg_rising (n : Int) (h : 0 ≤ n) : Rising n ((List.range n.toNat).map fun k : Nat => (k : Int)) := by
  refine ⟨List.Pairwise.map _ (fun a b z => by omega) List.pairwise_lt_range, fun x hx => ?_⟩
  obtain ⟨k, hk, rfl⟩ := List.mem_map.mp hx
  have := List.mem_range.mp hk
  omega
theorem at_end {us : List V} {t : V} (h : us[us.length - 1]? = some t) : atI us (-1) = some t := by
  rw [← List.getLast?_eq_getElem?] at h
  obtain ⟨ys, rfl⟩ := List.getLast?_eq_some_iff.mp h
  exact atI_last ys t
theorem ixN_at {n j : Nat} (h : j < n) : ixN n (j : Int) = some j := by
  unfold ixN
  rw [if_pos (by omega), if_pos (by omega), Int.toNat_natCast]
theorem nth_set {ms : List Int} {j : Nat} {y : Int} (hj : j < ms.length) (i : Nat) : nth (ms.set j y) i = if i = j then y else nth ms i := by
  unfold nth
  rw [Int.toNat_natCast, List.getD_eq_getElem?_getD, List.getD_eq_getElem?_getD, List.getElem?_set]
  by_cases c : j = i
  · subst c
    rw [if_pos rfl, if_pos rfl, if_pos hj]
    rfl
  · rw [if_neg c, if_neg fun z => c z.symm]
theorem Turned.step {rs : List Rule} {ns ms : List Int} {S S' : Int → Prop} {p : Nat} {y : Int} (hn : ns.length = rs.length) (hp : p < rs.length) (t : Turned rs ns S ms) (ty : Tell rs[p] (lotI rs[p] ns p) y) (hS : ∀ i : Nat, S' i ↔ S i ∨ i = p) : Turned rs ns S' (ms.set p y) := by
  refine ⟨by rw [List.length_set]; exact t.1, fun i hi => ?_⟩
  have hpm : p < ms.length := by rw [t.1]; omega
  rw [nth_set hpm]
  by_cases c : i = p
  · subst c
    rw [if_pos rfl]
    exact ⟨fun _ => ty, fun z => absurd ((hS i).mpr (.inr rfl)) z⟩
  · rw [if_neg c]
    refine ⟨fun z => (t.2 i hi).1 ?_, fun z => (t.2 i hi).2 fun z' => z ((hS i).mpr (.inl z'))⟩
    rcases (hS i).mp z with h | h
    · exact h
    · exact absurd h c
theorem Turned.none {rs : List Rule} {ns : List Int} {S : Int → Prop} (hS : ∀ i, ¬ S i) : Turned rs ns S ns := ⟨rfl, fun i _ => ⟨fun z => absurd z (hS _), fun _ => rfl⟩⟩
/-- the standings behind 0, 1, .. beats -/
def Way (rs : List Rule) (ns : List Int) (nss : List (List Int)) : Prop := nss[0]? = some ns ∧ (∀ ms ∈ nss, ms.length = rs.length) ∧ ∀ (i : Nat) (a b : List Int), nss[i]? = some a → nss[i + 1]? = some b → Beat rs a b
theorem Beat.unique {rs : List Rule} {ns ms ks : List Int} (hn : ns.length = rs.length) (a : Beat rs ns ms) (b : Beat rs ns ks) : ms = ks := Turned.unique hn (fun _ _ => Iff.rfl) a b
theorem Way.unique {rs : List Rule} {ns : List Int} {nss mss : List (List Int)} (a : Way rs ns nss) (b : Way rs ns mss) (hl : nss.length = mss.length) : nss = mss := by
  refine List.ext_getElem? fun i => ?_
  induction i with
  | zero => rw [a.1, b.1]
  | succ i ih =>
    by_cases c : i + 1 < nss.length
    · have c' : i + 1 < mss.length := by omega
      have h1 := List.getElem?_eq_getElem (l := nss) (show i < nss.length by omega)
      have h2 := List.getElem?_eq_getElem c
      have h4 := List.getElem?_eq_getElem c'
      rw [h2, h4]
      have h3 := ih.symm.trans h1
      have x := a.2.2 i _ _ h1 h2
      have y := b.2.2 i _ _ h3 h4
      rw [Beat.unique (a.2.1 _ (List.getElem_mem _)) x y]
    · rw [List.getElem?_eq_none (by omega), List.getElem?_eq_none (by omega)]
theorem Way.one {rs : List Rule} {ns : List Int} (h : ns.length = rs.length) : Way rs ns [ns] := by
  refine ⟨rfl, fun ms hm => ?_, fun i a b h1 h2 => ?_⟩
  · rw [List.mem_singleton.mp hm]; exact h
  · rw [List.getElem?_eq_none (by show 1 ≤ i + 1; omega)] at h2
    cases h2
theorem Way.snoc {rs : List Rule} {ns a b : List Int} {nss : List (List Int)} (h : Way rs ns nss) (ha : nss.getLast? = some a) (hb : Beat rs a b) : Way rs ns (nss ++ [b]) := by
  have hl : a ∈ nss := List.mem_of_getLast? ha
  have h0 : 0 < nss.length := List.length_pos_of_mem hl
  refine ⟨?_, fun ms hm => ?_, fun i x y h1 h2 => ?_⟩
  · rw [List.getElem?_append_left h0]; exact h.1
  · rcases List.mem_append.mp hm with z | z
    · exact h.2.1 _ z
    · rw [List.mem_singleton.mp z, hb.1]; exact h.2.1 _ hl
  · by_cases c : i + 1 < nss.length
    · rw [List.getElem?_append_left (by omega)] at h1
      rw [List.getElem?_append_left c] at h2
      exact h.2.2 i x y h1 h2
    · have c2 : i + 1 < (nss ++ [b]).length := by
        by_cases z : i + 1 < (nss ++ [b]).length
        · exact z
        · rw [List.getElem?_eq_none (by omega)] at h2; cases h2
      rw [List.length_append] at c2
      have c3 : i + 1 = nss.length := by have : i + 1 < nss.length + 1 := c2; omega
      rw [c3, List.getElem?_append_right (Nat.le_refl _), Nat.sub_self] at h2
      rw [List.getElem?_append_left (by omega)] at h1
      rw [List.getLast?_eq_getElem?, show nss.length - 1 = i by omega, h1] at ha
      cases ha; cases h2
      exact hb
theorem Way.drop {rs : List Rule} {ns a : List Int} {nss : List (List Int)} {k : Nat} (h : Way rs ns nss) (ha : nss[k]? = some a) : Way rs a (nss.drop k) := by
  refine ⟨by rw [List.getElem?_drop]; exact ha, fun ms hm => h.2.1 _ (List.mem_of_mem_drop hm), fun i x y h1 h2 => ?_⟩
  rw [List.getElem?_drop] at h1 h2
  exact h.2.2 (k + i) x y h1 h2
theorem Way.take {rs : List Rule} {ns : List Int} {nss : List (List Int)} {k : Nat} (h : Way rs ns nss) : Way rs ns (nss.take (k + 1)) := by
  refine ⟨by rw [List.getElem?_take_of_lt (by omega)]; exact h.1, fun ms hm => h.2.1 _ (List.mem_of_mem_take hm), fun i x y h1 h2 => ?_⟩
  by_cases c : i + 1 < k + 1
  · rw [List.getElem?_take_of_lt (by omega)] at h1
    rw [List.getElem?_take_of_lt c] at h2
    exact h.2.2 i x y h1 h2
  · rw [List.getElem?_eq_none (by rw [List.length_take]; omega)] at h2
    cases h2
/-- tuples of numbers, in a list -/
def StandAt (H : Hp) (v : V) (ms : List Int) : Prop := ∃ t, v = .ref t ∧ TupAt H t (ms.map V.int)
def StandsAt (H : Hp) : List V → List (List Int) → Prop := Paired (StandAt H)
theorem StandsAt.keep {H H' : Hp} (k : Keep H H') : ∀ {vs : List V} {nss : List (List Int)}, StandsAt H vs nss → StandsAt H' vs nss
  | _, _, .nil => .nil
  | _, _, .cons ⟨t, e, h⟩ r => .cons ⟨t, e, h.keep k⟩ (StandsAt.keep k r)
theorem StandsAt.get {H : Hp} : ∀ {vs : List V} {nss : List (List Int)}, StandsAt H vs nss → ∀ (i : Nat) (a : List Int), nss[i]? = some a → ∃ t, vs[i]? = some (.ref t) ∧ TupAt H t (a.map V.int)
  | _, _, .nil, i, a, h => by cases h
  | _, _, .cons ⟨t, e, h⟩ r, 0, a, z => by cases z; exact ⟨t, by rw [e]; rfl, h⟩
  | _, _, .cons _ r, i + 1, a, z => StandsAt.get r i a z
end Lh

namespace Lh
open PySem PySem.Spec PyProof.Rows L2
theorem lc_onesL {K : PySem.W.Frag} {t : Addr} {seen : List Int} {H1 : Hp} {D : Addr} {σ : L2.St} {vs : List Nat} {Qd : Hp → Prop} {i : Nat} (ht : H1 t = some (.lst (seen.map V.int))) (hD : H1 D = none) (hl : seen.length ≤ 1000)
    (hw : ∀ a, wipe ((wipe σ vs).set i a) vs = wipe σ vs) (hi : ∀ a : V, ((wipe σ vs).set i (some a))[i]? = some (some a))
    (hq : ∀ H' ps, Same H1 H' → H' D = some (.lst (ps.map V.ref)) → Paired (PairAtH H') ps (seen.map fun n => (n, 1)) → Qd H') :
    ∃ W : Nat → Nat → Hp → Prop, (∃ m, W 0 m (upd H1 D (.lst []))) ∧ ∀ i1 m H, W i1 m H →
      ((Itl K t).stop i1 H ∧ Qd H) ∨ ((Itl K t).go i1 H ∧ ∃ Nx : Hp → Prop, (∀ H', Nx H' → ∃ m', m' < m ∧ W (i1 + 1) m' H') ∧ ∀ x H', (Itl K t).yld i1 H x H' → gName i x (wipe σ vs) H' fun σ2 H2 => wipe σ2 vs = wipe σ vs ∧ tYes σ2 H2 fun b H3 =>
        if b = true then tTup (tCons (tVar i) (tCons (tC (.int 1)) tNil)) σ2 H3 fun y H4 => ∃ acc, H4 D = some (.lst acc) ∧ acc.length < sizeLine ∧ Nx (upd H4 D (.lst (acc ++ [y]))) else Nx H3) := by
  refine lc_it (walk_list (xs := seen.map V.int)) (fun n H3 => ∃ ps : List Addr, Same H1 H3 ∧ H3 D = some (.lst (ps.map V.ref)) ∧ Paired (PairAtH H3) ps ((seen.take n).map fun n => (n, 1))) ⟨[], same_upd hD, upd_same, .nil⟩ ?_ ?_ ?_
  · rintro n H3 _ ⟨ps, sm, _⟩
    exact .inl (.inl (sm _ _ ht))
  · rintro n x H3 H4 hn ⟨ps, sm, h3, pr⟩ ⟨rfl, hx⟩
    rw [List.length_map] at hn
    rw [List.getElem?_map, List.getElem?_eq_getElem hn] at hx
    have ex : x = .int seen[n] := (Option.some.inj hx).symm
    subst ex
    have pl : ps.length = n := by rw [pr.length, List.length_map, List.length_take]; omega
    refine ⟨hw _, yes (iteT ⟨.int seen[n], hi _, by show 2 ≤ sizeLine; decide, fun p np => ?_⟩)⟩
    have nDp : D ≠ p := ne_of_none h3 np
    refine ⟨_, by rw [upd_ne nDp]; exact h3, by rw [List.length_map]; exact small1000 (by omega), ps ++ [p], ?_, ?_, ?_⟩
    · exact same_mut (sm.trans (same_upd np)) hD
    · rw [upd_same, List.map_append]; rfl
    · rw [List.take_add_one, List.getElem?_eq_getElem hn, List.map_append]
      have kT : Keep H4 (upd (upd H4 p (.tup [.int seen[n], .int 1])) D (.lst (ps.map V.ref ++ [.ref p]))) := by
        refine ⟨fun a xs h => ?_, fun a o u h => ?_⟩
        · rw [upd_ne (ne_of h h3 (by intro z; cases z)), upd_ne (ne_of_none h np)]; exact h
        · rw [upd_ne (ne_of h h3 (by intro z; cases z)), upd_ne (ne_of_none h np)]; exact h
      exact Paired.snoc (R := PairAtH _) (show PairAtH _ _ _ by show _ = _; rw [upd_ne nDp.symm]; exact upd_same) (pairs_keep kT pr)
  · rintro H3 ⟨ps, sm, h3, pr⟩
    rw [List.length_map, List.take_length] at pr
    exact hq H3 ps sm h3 pr
/-- a list at D put by for another -/
theorem keep_lst {H : Hp} {D : Addr} {xs ys : List V} (h : H D = some (.lst xs)) : Keep H (upd H D (.lst ys)) := by
  refine ⟨fun a xs h' => ?_, fun a o u h' => ?_⟩
  · rw [upd_ne (ne_of h' h (by intro z; cases z))]; exact h'
  · rw [upd_ne (ne_of h' h (by intro z; cases z))]; exact h'
theorem rules_of {H : Hp} {m : Int} : ∀ us : List V, (∀ (i : Nat) (h : i < us.length), ∃ r, RuleAt H us[i] r ∧ r.Wf m) → ∃ rs, RulesAt H us rs ∧ ∀ r ∈ rs, r.Wf m
  | [], _ => ⟨[], .nil, fun r h => absurd h (by simp)⟩
  | u :: us, h => by
    obtain ⟨r, h1, h2⟩ := h 0 (by simp)
    obtain ⟨rs, h3, h4⟩ := rules_of us (fun i hi => h (i + 1) (by simpa using hi))
    refine ⟨r :: rs, .cons h1 h3, fun x hx => ?_⟩
    rcases List.mem_cons.mp hx with rfl | hx
    · exact h2
    · exact h4 x hx
section
variable {P : Program} {w : World} {K : PySem.W.Frag} {mg : Str → Option Value} {base : Heap}
def spStrewn : Sp := fun vs H Q _ => ∃ (bx p : Addr) (c : Int) (ns : List Int), vs = [.ref bx, .ref p] ∧ c + ns.length ≤ 1000000000 ∧ ns.length ≤ 900 ∧ Box bx c H ∧ H p = some (.lst (ns.map V.int)) ∧ p ≠ bx ∧
  ∀ (l : Addr) (ms : List Int) (H' : Hp), Ext bx H H' → Box bx (c + ns.length) H' → H l = none → H' l = some (.lst (ms.map V.int)) → ms.Perm ns → Q (.ref l) H'
def spHall : Sp := fun vs H Q _ => ∃ (bx : Addr) (c : Int), vs = [.ref bx] ∧ c + 100 ≤ 1000000000 ∧ Box bx c H ∧
  ∀ (l : Addr) (us : List V) (rs : List Rule) (H' : Hp), Ext bx H H' → Box bx (c + 100) H' → H l = none → H' l = some (.lst us) → RulesAt H' us rs → Halls rs → Q (.ref l) H'
end
end Lh

namespace Lh
open PySem PySem.Spec PyProof.Rows L2
/-! ### enumerate of a tuple -/
set_option maxHeartbeats 1000000 in
theorem enum_new1 {v : Value} {o : Obj} {G : Heap → Prop} (B : Begins v o G) :
    Meets (Builtin.«enumerate.__new__» ⟨[.type "enumerate", v], []⟩) (fun _ R z => G z.heap ∧
      R (.ok (.ret (.ref (z.heap.push o).objs.size))) { z with heap := (z.heap.push o).push { cls := .type "enumerate", data := .fields #[.none, .bool false, .ref z.heap.objs.size, rawInt 0, .none, .none] } }) := by
  refine .of_wp fun pr wo ar R z hh => ?_
  obtain ⟨h0, g0, d0, t0, o0⟩ := z
  obtain ⟨hG, hR⟩ := hh
  have hsub := sub_enumerate
  have it1 : ∀ {ar' : Around} {Ex : Value → Shared → Prop} {Q : Value → Shared → Prop}, Q (.ref h0.objs.size) ⟨h0.push o, g0, d0, t0, o0⟩ → wpAny (model pr wo) ar' (pyIter v) Q Ex ⟨h0, g0, d0, t0, o0⟩ :=
    fun q => B.iter pr wo _ _ ⟨h0, g0, d0, t0, o0⟩ _ hG q
  wp_walk using it1
  refine wpAny_stack_any fun _ => wpAny_pure ?_
  split
  · rename_i cc _ _ _ _ _
    cases (cc == Value.type "enumerate")
    all_goals
      wp_walk using it1
      exact ⟨_, rfl, hR⟩
  · wp_walk using it1
    exact ⟨_, rfl, hR⟩
theorem enum_made {pr : Program} {wo : World} {ar : Around} {Ex : Value → Shared → Prop} {z : Shared} {v : Value} {o : Obj} {G : Heap → Prop} {Q : Value → Shared → Prop} (B : Begins v o G) (hG : G z.heap)
    (h : ∀ h', IsEnum h' (z.heap.objs.size + 1) z.heap.objs.size 0 .none → h'.get? z.heap.objs.size = some o → (∀ b ob, z.heap.get? b = some ob → h'.get? b = some ob) → Q (.ref (z.heap.objs.size + 1)) { z with heap := h' }) :
    wpAny (model pr wo) ar (call (.type "enumerate") [v]) Q Ex z := by
  refine callType_new F.called_enumerate (by decide) (F.typeCall_enumerate_1 _) (F.newCall_enumerate_1 _) (fun x => F.args_object_init_2 x _) F.entry_enumerate_new (enum_new1 B) ⟨hG, ?_⟩
  have sz : (z.heap.push o).objs.size = z.heap.objs.size + 1 := Heap.size_push ..
  show _ ∧ _
  rw [sz]
  have he : IsEnum ((z.heap.push o).push { cls := .type "enumerate", data := .fields #[.none, .bool false, .ref z.heap.objs.size, rawInt 0, .none, .none] }) (z.heap.objs.size + 1) z.heap.objs.size 0 .none := by
    rw [← sz]
    exact Heap.get?_push_size (z.heap.push o) rfl
  exact ⟨⟨_, he, rfl⟩, h _ he (Heap.get?_push_of_some _ (Heap.get?_push_size _ B.free)) fun b ob x => Heap.get?_push_of_some _ (Heap.get?_push_of_some _ x)⟩
def IteT (K : PySem.W.Frag) (a : Addr) : It :=
  ⟨fun n H => ∃ (xs : List V) (x : V), SqT K H a xs ∧ xs[n]? = some x,
    fun n H v H' => ∃ T x, v = .ref T ∧ H T = none ∧ H' = upd H T (.tup [.int (n : Nat), x]) ∧ ∀ xs, SqT K H a xs → xs[n]? = some x,
    fun n H => ∃ xs : List V, SqT K H a xs ∧ xs.length ≤ n⟩
theorem draws_end {pr : Program} {wo : World} {ar : Around} (hh : ar.handled = none) (it a : Addr) (items : Array Value) (n : Nat) (hx : items[n]? = none) :
    Draws pr wo ar it [it, a] n (fun _ _ => False) (fun j h => j = n ∧ h.IsTupleIter it a n ∧ h.IsTuple a items) where
  live := fun _ _ st => let ⟨ob, hb, _⟩ := st.2.1; ⟨ob, hb⟩
  frame := fun _ _ _ st hk => ⟨st.1, st.2.1.at fun ob e => hk it (by simp) ob e, st.2.2.at fun ob e => hk a (by simp) ob e⟩
  item := fun j _ _ _ hj st _ => absurd st.1 (by omega)
  done := fun _ _ _ st hE => wpAny_nextOf_tuple_end hh st.2.1 st.2.2 hx hE
theorem turn_enumT {P : Program} {w : World} {K : PySem.W.Frag} {elts : List Expr} {kk : Nat} {tpos : Pos} (a e it : Addr) :
    Turn P w K (.Tuple elts kk tpos) (IteT K a) [e, it] e (fun n h => (∃ old, IsEnum h e it ((n : Nat) : Int) old) ∧ h.IsTupleIter it a n ∧ e ≠ it ∧ a ≠ it ∧ e ≠ a) where
  mem := by simp
  obj := fun n h st b hb => by
    obtain ⟨⟨old, he⟩, ⟨ob, ho, _, hd⟩, _⟩ := st
    rcases (show b = e ∨ b = it by simpa using hb) with rfl | rfl
    · exact ⟨_, he, fun v q => nomatch q⟩
    · exact ⟨ob, ho, fun v q => by rw [hd] at q; cases q⟩
  keep := fun n h h' st k => let ⟨⟨old, he⟩, hi, r⟩ := st; ⟨⟨old, k e (by simp) _ he⟩, hi.at fun ob q => k it (by simp) ob q, r⟩
  item := by
    intro X hP hw hK hc n pins s σ H E I hf st hg
    subst hP hw hK
    obtain ⟨⟨old, he⟩, hit, hne, nai, nea⟩ := st
    obtain ⟨xs, x, hq, hx⟩ := hg
    obtain ⟨its, rv, p, hz⟩ := I.tuple hq
    obtain ⟨u, hu, ru⟩ := rv.get hx
    have hu' : its.toArray[n]? = some u := by simpa using hu
    have hel : e < s.heap.objs.size := Heap.lt_size he
    have hil : it < s.heap.objs.size := by obtain ⟨_, q, _⟩ := hit; exact Heap.lt_size q
    have lt : n < its.toArray.size := (Array.getElem?_eq_some_iff.mp hu').1
    refine wpAny_pyNext_enum_itemD (Draws.tuple (A := X.A.in1) (I.ok.hd hc) it a nai its.toArray) he ⟨hit, p⟩ lt hne (by simp [hne, nea]) fun y h' tk hy ho st' hT hsz hk => ?_
    have ey : y = u := Option.some.inj (hy.symm.trans hu')
    subst ey
    refine ⟨_, rfl, wpAny_letOwnedTupleGo_enum (s := { s with heap := h', toks := tk + 1 }) ho fun h2 he2 sb => ?_⟩
    have hT2 : h2.get? s.heap.objs.size = some { cls := .type "tuple", data := .seq #[.int n tk, y] } := (sb.2 _ (Nat.ne_of_gt hel)).trans hT
    have new : ObjOk X.prog X.w (upd H s.heap.objs.size (.tup [.int (n : Nat), x])) h2 s.heap.objs.size (.tup [.int (n : Nat), x]) := by
      refine ⟨by show 2 ≤ sizeLine; decide, [.int n tk, y], .cons ⟨_, rfl⟩ (.cons ru .nil), ?_⟩
      exact ⟨_, hT2, rfl, _, rfl⟩
    have J : Inv X pins σ (upd H s.heap.objs.size (.tup [.int (n : Nat), x])) { s with heap := h2, toks := tk + 1 } := by
      refine I.turnedNew (ch := [e, it]) (fun b ob hb q => ?_) hf (Nat.le_refl _) new
      exact (sb.2 b (fun z => hb (by simp [z]))).trans (hk b ob (fun z => hb (by simp [z])) (fun z => hb (by simp [z])) q)
    refine ⟨.ref s.heap.objs.size, _, J, rfl, ⟨_, x, rfl, I.hok.fresh (Nat.le_refl _), rfl, fun ys hy => by rw [I.tuple_inj hy hq]; exact hx⟩, ⟨⟨y, ?_⟩, st'.1.at fun ob q => (sb.2 it (Ne.symm hne)).trans q, hne, nai, nea⟩, fun b hb => ?_⟩
    · rw [show ((n + 1 : Nat) : Int) = (n : Int) + 1 by omega]
      exact he2
    · have hb' : b < s.heap.objs.size := by
        rcases (show b = e ∨ b = it by simpa using hb) with rfl | rfl
        · exact hel
        · exact hil
      rw [upd_ne (Nat.ne_of_lt hb')]
      exact (hf b hb).1
  done := by
    intro X hP hw hK hc n pins s σ H E I hf st hg
    subst hP hw hK
    obtain ⟨⟨old, he⟩, hit, hne, nai, nea⟩ := st
    obtain ⟨xs, hq, hx⟩ := hg
    obtain ⟨its, rv, p, hz⟩ := I.tuple hq
    obtain ⟨f0, f1, f2, f3, f4, f5⟩ := hf it (by simp)
    have hl := rv.length
    have hn : its.toArray[n]? = none := by simp; omega
    exact wpAny_pyNext_enum_endD (draws_end (ar := X.A.in1) (I.ok.hd hc) it a its.toArray n hn) he ⟨rfl, hit, p⟩ fun h' eb => ⟨rfl, I.turned (t' := s.toks) (fun b ob hb q => eb b ob hb q) f0 f1 f3 f4 f5⟩
  self := fun ar n s Q E st h => let ⟨⟨_, he⟩, _⟩ := st; wpAny_pyIter_enum he h
def iEnumT (K : PySem.W.Frag) (ta : TA) : TI := fun σ H R => ta σ H fun vs H1 => ∃ a xs, vs = [.ref a] ∧ SqT K H1 a xs ∧ R (IteT K a) H1
theorem pi_enumT {X : Cx} {e : Expr} {ta : TA} {p pos tpos : Pos} {elts : List Expr} {kk : Nat} (hg : Gl X "enumerate") (hm : X.mg "enumerate" = none) (ha : PA X [e] ta) (hs : starEach [e] X.env = [(false, eval e X.env)] := by rfl) : PI X (.Tuple elts kk tpos) (.Call (.Name "enumerate" p) [e] [] pos) (iEnumT X.K ta) := by
  refine ⟨fun pins s σ H R I h => ?_⟩
  refine Call_ (ld_blt I hg hm PyProof.Rows.boot_enumerate (PyProof.Rows.callWith_type1 (thn (ha.run pos pins s σ H _ I h) fun us s1 ⟨vs, H1, I1, r1, a, xs, ex, hq, q⟩ => ?_) hs rfl))
  subst ex
  rw [Vals.ref1 r1]
  obtain ⟨its, rv, p', hz⟩ := I1.tuple hq
  obtain ⟨oa, hoa, _⟩ := id p'
  have la : a < s1.heap.objs.size := Heap.lt_size hoa
  refine enum_made (begins_tuple a its.toArray) p' fun h' he hit hk => wpAny_pyIter_enum he ?_
  have I2 : Inv X pins σ H1 { s1 with heap := h' } := I1.kept (t' := s1.toks) hk
  refine ⟨s1.heap.objs.size + 1, [s1.heap.objs.size + 1, s1.heap.objs.size], _, _, H1, rfl, I2, turn_enumT a (s1.heap.objs.size + 1) s1.heap.objs.size, ⟨⟨.none, he⟩, ⟨_, hit, rfl, rfl⟩, Nat.succ_ne_self _, Nat.ne_of_lt la, Nat.ne_of_gt (Nat.lt_succ_of_lt la)⟩, fun b hb => ?_, q⟩
  have hle : s1.heap.objs.size ≤ b := by
    rcases (show b = s1.heap.objs.size + 1 ∨ b = s1.heap.objs.size by simpa using hb) with z | z
    · rw [z]; exact Nat.le_add_right _ _
    · rw [z]; exact Nat.le_refl _
  exact I1.fpOk hle (I1.hok.fresh hle)
theorem walk_enumT {K : PySem.W.Frag} {a : Addr} {xs : List V} : Walk (IteT K a) xs.length (fun H => SqT K H a xs) (YPair (fun n => some (.int (n : Nat))) (fun n => xs[n]?)) := by
  refine ⟨fun n _ hn q => ⟨xs, xs[n], q, by simp [hn]⟩, fun _ q => ⟨xs, q, Nat.le_refl _⟩, fun n H v H' _ q y => ?_⟩
  obtain ⟨T, x, h1, h2, h3, h4⟩ := y
  exact ⟨T, .int (n : Nat), x, h1, h2, h3, rfl, h4 xs q⟩
end Lh

namespace Lh
open PySem PySem.Spec PyProof.Rows L2
theorem strict_of {ns : List Int} (h : ns.Pairwise (· ≤ ·)) (nd : ns.Nodup) : ns.Pairwise (· < ·) := by
  refine (h.and (List.nodup_iff_pairwise_ne.mp nd)).imp fun z => ?_
  have := z.1
  have := z.2
  omega
theorem cut_to {α : Type} (xs : List α) (k : Nat) (h : k ≤ xs.length) : cutI xs none (some (k : Int)) = xs.take k := by
  unfold cutI
  rw [HT.sIx_none, HT.sIx_nat, Nat.sub_zero, List.drop_zero, Nat.min_eq_left h]
theorem cut_from {α : Type} (xs : List α) (k : Nat) (h : k ≤ xs.length) : cutI xs (some (k : Int)) none = xs.drop k := by
  unfold cutI
  rw [HT.sIx_none, HT.sIx_nat, Nat.min_eq_left h]
  exact List.take_of_length_le (by rw [List.length_drop]; omega)
theorem rep_one (v : V) : ∀ n : Nat, (List.replicate n [v]).flatten = List.replicate n v
  | 0 => rfl
  | n + 1 => by rw [List.replicate_succ, List.flatten_cons, rep_one v n, List.replicate_succ]; rfl
theorem merge_get : ∀ (kv : List (Int × Int)) (acc : List (Key × V)) (p : Int), (∃ y, valV (mergeK acc (kvOf kv)) (Sum.inl p) = some (.int y) ∧ (p, y) ∈ kv) ∨ (p ∉ kv.map (·.1) ∧ valV (mergeK acc (kvOf kv)) (Sum.inl p) = valV acc (Sum.inl p))
  | [], acc, p => .inr ⟨by simp, rfl⟩
  | (a, b) :: t, acc, p => by
    have e : mergeK acc (kvOf ((a, b) :: t)) = mergeK (putK acc (Sum.inl a) (.int b)) (kvOf t) := rfl
    rw [e]
    rcases merge_get t (putK acc (Sum.inl a) (.int b)) p with ⟨y, h1, h2⟩ | ⟨h1, h2⟩
    · exact .inl ⟨y, h1, List.mem_cons_of_mem _ h2⟩
    · rw [h2, valV_put]
      by_cases c : p = a
      · subst c
        rw [if_pos rfl]
        exact .inl ⟨b, rfl, List.mem_cons_self⟩
      · have c' : ¬ (Sum.inl p : Key) = Sum.inl a := fun z => c (Sum.inl.inj z)
        rw [if_neg c']
        refine .inr ⟨fun z => ?_, rfl⟩
        rcases List.mem_cons.mp z with z | z
        · exact c z
        · exact h1 z
theorem pairs_at {H : Hp} {ps : List Addr} {lot : List (Int × Int)} (h : Paired (PairAtH H) ps lot) : ∀ (n : Nat) (h1 : n < ps.length) (h2 : n < lot.length), PairAtH H ps[n] lot[n] := by
  induction h with
  | nil => intro n h1; exact absurd h1 (by simp)
  | cons r t ih =>
    intro n h1 h2
    cases n with
    | zero => exact r
    | succ n => exact ih n (by simpa using h1) (by simpa using h2)
theorem lotI_pairs (r : Rule) (ns : List Int) (p : Int) : ((seenPairs r).filter fun q => decide (nth ns q.1 < nth ns p)).map (fun q => (q.1, nth ns q.1)) = lotI r ns p := by
  unfold lotI
  rw [← seen_persons r, List.filter_map, List.map_map]
  rfl
section
variable {P : Program} {w : World} {K : PySem.W.Frag} {mg : Str → Option Value} {base : Heap}
def spFlat : Sp := fun vs H Q _ => ∃ (bx : Addr) (c m : Int), vs = [.ref bx, .int m] ∧ 0 < m ∧ m ≤ 12 ∧ c + 1000 ≤ 1000000000 ∧ Box bx c H ∧
  ∀ (l : Addr) (us : List V) (rs : List Rule) (H' : Hp), Ext bx H H' → Box bx (c + 1000) H' → H l = none → H' l = some (.lst us) → RulesAt H' us rs → Halls rs → Q (.ref l) H'
def spShown : Sp := fun vs H Q _ => ∃ (bx l : Addr) (c : Int) (us : List V), vs = [.ref bx, .ref l] ∧ c + 100 ≤ 1000000000 ∧ us.length ≤ 12 ∧ Box bx c H ∧ H l = some (.lst us) ∧ l ≠ bx ∧
  ∀ (t : Addr) (ns : List Int) (H' : Hp), Ext bx H H' → Box bx (c + 100) H' → H t = none → TupAt H' t (ns.map V.int) → ns.length = us.length → (∀ n ∈ ns, 0 ≤ n) → Q (.ref t) H'
end
end Lh

namespace Lh
open PySem PySem.Spec PyProof.Rows L2
theorem cutV_id (xs : List V) (lo hi : Option Int) : cutV xs lo hi = cutI xs lo hi := by
  have h := cut_map id xs lo hi
  rw [List.map_id, List.map_id] at h
  exact h
theorem sl_tup_use {K : PySem.W.Frag} {H : Hp} {a : Addr} {xs : List V} {lo hi : Option Int} {Q : VK} (h : TupAt H a xs) (q : ∀ (c : Addr) (H' : Hp), Same H H' → TupAt H' c (cutI xs lo hi) → Q (.ref c) H') : rSlA K (.ref a) lo hi H Q := by
  refine ⟨a, xs, rfl, h.sq, fun w => q a H (Same.refl _) ?_, fun _ p np => q p _ (same_upd np) (.inl (by rw [upd_same, cutV_id]))⟩
  have e : cutI xs lo hi = xs := by
    unfold cutI
    rw [w.1, w.2, List.drop_zero, Nat.sub_zero, List.take_length]
  rw [e]; exact h
theorem cat_use {K : PySem.W.Frag} {H : Hp} {a b : Addr} {xs ys : List V} {Q : VK} (ha : TupAt H a xs) (hb : TupAt H b ys) (hz : xs.length + ys.length ≤ sizeLine) (q : ∀ (c : Addr) (H' : Hp), Same H H' → TupAt H' c (xs ++ ys) → Q (.ref c) H') : rCatA K (.ref a) (.ref b) H Q := by
  refine ⟨a, b, xs, ys, rfl, rfl, ha.sq, hb.sq, hz, fun e => q b H (Same.refl _) (by rw [e]; exact hb), fun _ e => q a H (Same.refl _) (by rw [e, List.append_nil]; exact ha), fun _ _ p np => q p _ (same_upd np) (.inl upd_same)⟩
/-- the standing in which p shows v -/
theorem put_at {ns : List Int} {p : Nat} (hp : p < ns.length) (v : V) : cutI (ns.map V.int) none (some (p : Int)) ++ [v] ++ cutI (ns.map V.int) (some ((p : Int) + 1)) none = (ns.map V.int).set p v := by
  rw [cut_to _ _ (by rw [List.length_map]; omega), show (p : Int) + 1 = ((p + 1 : Nat) : Int) by omega, cut_from _ _ (by rw [List.length_map]; omega), List.set_eq_take_append_cons_drop, if_pos (by rw [List.length_map]; exact hp), List.append_assoc]
  rfl
end Lh

namespace Lh
open PySem PySem.Spec PyProof.Rows L2
/-! ### all come to rest: pure counting -/
theorem lotI_H (r : Rule) (ns : List Int) (p : Int) : lotI r ns p = lotH r ns (nth ns p) := rfl
theorem wgt_nn {ties : List (Int × Int)} (h : ∀ q ∈ ties, 1 ≤ q.2 ∧ q.2 ≤ 1000) (p : Int) : 0 ≤ wgt ties p ∧ wgt ties p ≤ 1000 := by
  unfold wgt
  cases e : ties.find? fun q => decide (q.1 = p) with
  | none => exact ⟨Int.le_refl _, by show (0 : Int) ≤ 1000; decide⟩
  | some q =>
    have := h q (List.mem_of_find?_eq_some e)
    exact ⟨by show 0 ≤ q.2; omega, this.2⟩
theorem sum_mono (f : Int → Int) (hf : ∀ p, 0 ≤ f p) (P Q : Int → Bool) (hPQ : ∀ p, P p = true → Q p = true) : ∀ xs : List Int, ((xs.filter P).map f).sum ≤ ((xs.filter Q).map f).sum
  | [] => Int.le_refl _
  | x :: t => by
    have ih := sum_mono f hf P Q hPQ t
    have := hf x
    rw [List.filter_cons, List.filter_cons]
    by_cases c : P x = true
    · rw [if_pos c, if_pos (hPQ x c), List.map_cons, List.map_cons, List.sum_cons, List.sum_cons]; omega
    · rw [if_neg c]
      by_cases d : Q x = true
      · rw [if_pos d, List.map_cons, List.sum_cons]; omega
      · rw [if_neg d]; exact ih
theorem sum_lot {ties : List (Int × Int)} (r : Rule) (ns : List Int) (h : Int) : ((lotH r ns h).map fun q => wgt ties q.1).sum = ((r.persons.filter fun o => decide (nth ns o < h)).map (wgt ties)).sum := by
  unfold lotH
  rw [List.map_map]
  rfl
theorem lotH_sub {r : Rule} {ns : List Int} {h h' : Int} (hh : h ≤ h') : ∀ q ∈ lotH r ns h, q ∈ lotH r ns h' := fun q hq => by
  obtain ⟨o, ho, rfl⟩ := List.mem_map.mp hq
  obtain ⟨o1, o2⟩ := List.mem_filter.mp ho
  exact List.mem_map.mpr ⟨o, List.mem_filter.mpr ⟨o1, decide_eq_true (Int.lt_of_lt_of_le (of_decide_eq_true o2) hh)⟩, rfl⟩
theorem lotH_sub2 {r : Rule} {ns : List Int} {h h' : Int} (hh : h ≤ h') : ∀ y ∈ (lotH r ns h).map (·.2), y ∈ (lotH r ns h').map (·.2) := fun y hy => by
  obtain ⟨q, hq, rfl⟩ := List.mem_map.mp hy
  exact List.mem_map_of_mem (lotH_sub hh q hq)
/-- more lesser ones never tell less -/
theorem tell_mono {m : Int} {ns : List Int} {h h' : Int} (hh : h ≤ h') (nn : ∀ o : Int, 0 ≤ nth ns o) : ∀ {r : Rule} {c y : Int}, r.Wf m → Tell r (lotH r ns h) c → Tell r (lotH r ns h') y → c ≤ y
  | .held n, c, y, _, a, b => by rw [show c = n from a, show y = n from b]; exact Int.le_refl _
  | .sum own ties, c, y, wf, a, b => by
    rw [show c = _ from a, show y = _ from b, sum_lot, sum_lot]
    have := sum_mono (wgt ties) (fun p => (wgt_nn wf.2.2 p).1) (fun o => decide (nth ns o < h)) (fun o => decide (nth ns o < h')) (fun o z => decide_eq_true (Int.lt_of_lt_of_le (of_decide_eq_true z) hh)) (Rule.sum own ties).persons
    omega
  | .cap own ties most, c, y, wf, a, b => by
    rw [show c = _ from a, show y = _ from b, sum_lot, sum_lot]
    have := sum_mono (wgt ties) (fun p => (wgt_nn wf.2.2.1 p).1) (fun o => decide (nth ns o < h)) (fun o => decide (nth ns o < h')) (fun o z => decide_eq_true (Int.lt_of_lt_of_le (of_decide_eq_true z) hh)) (Rule.cap own ties most).persons
    omega
  | .kinds own seen, c, y, _, ⟨ks, n1, m1, e1⟩, ⟨ls, n2, m2, e2⟩ => by
    have := nodup_len ks ls n1 fun x hx => (m2 x).mpr (lotH_sub2 hh x ((m1 x).mp hx))
    omega
  | .next seen, c, y, _, a, b => by
    have y0 : 0 ≤ y := by
      rcases b with ⟨_, e⟩ | ⟨e, _⟩
      · omega
      · obtain ⟨q, hq, e⟩ := List.mem_map.mp e
        obtain ⟨o, _, rfl⟩ := List.mem_map.mp hq
        have h1 := nn o
        have : nth ns o = y - 1 := e
        omega
    rcases a with ⟨_, e⟩ | ⟨e, _⟩
    · omega
    · have e' := lotH_sub2 hh _ e
      rcases b with ⟨z, _⟩ | ⟨_, z⟩
      · rw [z] at e'; exact absurd e' (by simp)
      · have := z _ e'; omega
  | .free seen, c, y, _, ⟨a1, a2, a3⟩, ⟨b1, b2, b3⟩ => by
    rcases Int.lt_or_le y c with z | z
    · exact absurd (lotH_sub2 hh _ (a3 y b2 z)) b1
    · exact z
theorem dedup_ex : ∀ xs : List Int, ∃ ks : List Int, ks.Nodup ∧ ∀ k, k ∈ ks ↔ k ∈ xs
  | [] => ⟨[], .nil, fun _ => Iff.rfl⟩
  | x :: t => by
    obtain ⟨ks, h1, h2⟩ := dedup_ex t
    by_cases c : x ∈ t
    · refine ⟨ks, h1, fun k => ?_⟩
      rw [h2, List.mem_cons]
      exact ⟨.inr, fun z => z.elim (fun e => e ▸ c) id⟩
    · refine ⟨x :: ks, List.nodup_cons.mpr ⟨fun z => c ((h2 x).mp z), h1⟩, fun k => ?_⟩
      rw [List.mem_cons, List.mem_cons, h2]
theorem max_ex : ∀ xs : List Int, xs ≠ [] → ∃ x ∈ xs, ∀ y ∈ xs, y ≤ x
  | [], h => absurd rfl h
  | [x], _ => ⟨x, List.mem_cons_self, fun y hy => by rw [List.mem_singleton.mp hy]; exact Int.le_refl _⟩
  | x :: z :: t, _ => by
    obtain ⟨m, h1, h2⟩ := max_ex (z :: t) (by simp)
    rcases Int.le_total x m with c | c
    · refine ⟨m, List.mem_cons_of_mem _ h1, fun y hy => ?_⟩
      rcases List.mem_cons.mp hy with rfl | hy
      · exact c
      · exact h2 y hy
    · refine ⟨x, List.mem_cons_self, fun y hy => ?_⟩
      rcases List.mem_cons.mp hy with rfl | hy
      · exact Int.le_refl _
      · exact Int.le_trans (h2 y hy) c
theorem mex_from (xs : List Int) : ∀ (d k : Nat), (∀ j : Nat, j < k → (j : Int) ∈ xs) → xs.length + 1 ≤ k + d → ∃ x, IsMex xs x
  | 0, k, hk, hd => by
    exfalso
    have := nodup_len ((List.range k).map fun n : Nat => (n : Int)) xs (by
      rw [List.nodup_iff_pairwise_ne]
      exact List.Pairwise.map _ (fun a b z q => z (by omega)) (List.nodup_iff_pairwise_ne.mp List.nodup_range)) (fun x hx => by
        obtain ⟨n, hn, rfl⟩ := List.mem_map.mp hx
        exact hk n (List.mem_range.mp hn))
    rw [List.length_map, List.length_range] at this
    omega
  | d + 1, k, hk, hd => by
    by_cases c : (k : Int) ∈ xs
    · exact mex_from xs d (k + 1) (fun j hj => by
        by_cases e : j = k
        · subst e; exact c
        · exact hk j (by omega)) (by omega)
    · refine ⟨k, c, by omega, fun j h0 h1 => ?_⟩
      have := hk j.toNat (by omega)
      rw [show ((j.toNat : Nat) : Int) = j by omega] at this
      exact this
theorem Tell.ex : ∀ (r : Rule) (lot : List (Int × Int)), ∃ y, Tell r lot y
  | .held n, _ => ⟨n, rfl⟩
  | .sum _ _, _ => ⟨_, rfl⟩
  | .cap _ _ _, _ => ⟨_, rfl⟩
  | .kinds _ _, lot => by
    obtain ⟨ks, h1, h2⟩ := dedup_ex (lot.map (·.2))
    exact ⟨_, ks, h1, h2, rfl⟩
  | .next _, lot => by
    by_cases c : lot = []
    · exact ⟨0, .inl ⟨c, rfl⟩⟩
    · obtain ⟨x, h1, h2⟩ := max_ex (lot.map (·.2)) (fun z => c (List.map_eq_nil_iff.mp z))
      refine ⟨x + 1, .inr ⟨?_, fun y hy => ?_⟩⟩
      · rw [show x + 1 - 1 = x by omega]; exact h1
      · have := h2 y hy; omega
  | .free _, lot => mex_from _ ((lot.map (·.2)).length + 1) 0 (fun j hj => absurd hj (by omega)) (by omega)
/-- what a rule tells is no less than 0, and no more than it shows itself or some bound -/
def bnd : Rule → Int
  | .held n => n
  | .sum own ties => own + 1000 * ties.length
  | .cap _ _ most => most
  | .kinds own seen => own + seen.length
  | .next _ => 0
  | .free seen => seen.length
theorem sum_bnd (f : Int → Int) (hf : ∀ p, f p ≤ 1000) (h0 : ∀ p, 0 ≤ f p) (P : Int → Bool) : ∀ xs : List Int, ((xs.filter P).map f).sum ≤ 1000 * xs.length ∧ 0 ≤ ((xs.filter P).map f).sum
  | [] => ⟨Int.le_refl _, Int.le_refl _⟩
  | x :: t => by
    have ih := sum_bnd f hf h0 P t
    have := hf x
    have := h0 x
    rw [List.filter_cons, List.length_cons]
    by_cases c : P x = true
    · rw [if_pos c, List.map_cons, List.sum_cons]; omega
    · rw [if_neg c]; omega
theorem lotH_len (r : Rule) (ns : List Int) (h : Int) : (lotH r ns h).length ≤ r.persons.length := by
  unfold lotH
  rw [List.length_map]
  exact List.length_filter_le _ _
theorem tell_bnd {m : Int} {ns : List Int} {h : Int} (nn : ∀ o : Int, 0 ≤ nth ns o) (h0 : 0 ≤ h) : ∀ {r : Rule} {y : Int}, r.Wf m → Tell r (lotH r ns h) y → 0 ≤ y ∧ (y ≤ bnd r ∨ y ≤ h)
  | .held n, y, wf, a => by rw [show y = n from a]; exact ⟨wf.1, .inl (Int.le_refl _)⟩
  | .sum own ties, y, wf, a => by
    have e : y = _ := a
    rw [sum_lot] at e
    have := sum_bnd (wgt ties) (fun p => (wgt_nn wf.2.2 p).2) (fun p => (wgt_nn wf.2.2 p).1) (fun o => decide (nth ns o < h)) (Rule.sum own ties).persons
    have e2 : (Rule.sum own ties).persons.length = ties.length := List.length_map _
    have := wf.1.1
    refine ⟨by omega, .inl ?_⟩
    show y ≤ own + 1000 * ties.length
    rw [← e2]; omega
  | .cap own ties most, y, wf, a => by
    have e : y = _ := a
    rw [sum_lot] at e
    have := sum_bnd (wgt ties) (fun p => (wgt_nn wf.2.2.1 p).2) (fun p => (wgt_nn wf.2.2.1 p).1) (fun o => decide (nth ns o < h)) (Rule.cap own ties most).persons
    have := wf.1.1
    have := wf.2.2.2.1
    refine ⟨by omega, .inl ?_⟩
    show y ≤ most
    omega
  | .kinds own seen, y, wf, ⟨ks, n1, m1, e1⟩ => by
    have h1 := nodup_len ks ((lotH (.kinds own seen) ns h).map (·.2)) n1 fun x hx => (m1 x).mp hx
    rw [List.length_map] at h1
    have h2 := lotH_len (.kinds own seen) ns h
    have h3 : (Rule.kinds own seen).persons.length = seen.length := rfl
    have := wf.1.1
    refine ⟨by omega, .inl ?_⟩
    show y ≤ own + seen.length
    omega
  | .next seen, y, _, a => by
    rcases a with ⟨_, e⟩ | ⟨e, _⟩
    · exact ⟨by omega, .inr (by omega)⟩
    · obtain ⟨q, hq, e⟩ := List.mem_map.mp e
      obtain ⟨o, ho, rfl⟩ := List.mem_map.mp hq
      have h1 := nn o
      have h2 : nth ns o < h := of_decide_eq_true (List.mem_filter.mp ho).2
      have : nth ns o = y - 1 := e
      exact ⟨by omega, .inr (by omega)⟩
  | .free seen, y, _, ⟨a1, a2, a3⟩ => by
    refine ⟨a2, .inl ?_⟩
    have h1 := nodup_len ((List.range y.toNat).map fun n : Nat => (n : Int)) ((lotH (.free seen) ns h).map (·.2)) (by
      rw [List.nodup_iff_pairwise_ne]
      exact List.Pairwise.map _ (fun a b z q => z (by omega)) (List.nodup_iff_pairwise_ne.mp List.nodup_range)) (fun x hx => by
        obtain ⟨n, hn, rfl⟩ := List.mem_map.mp hx
        have := List.mem_range.mp hn
        exact a3 n (by omega) (by omega))
    rw [List.length_map, List.length_range, List.length_map] at h1
    have h2 := lotH_len (.free seen) ns h
    have h3 : (Rule.free seen).persons.length = seen.length := rfl
    show y ≤ (seen.length : Int)
    omega
/-- nobody's turn changes it -/
def Rest (rs : List Rule) (ns : List Int) : Prop := ∀ (i : Nat) (h : i < rs.length), Tell rs[i] (lotI rs[i] ns i) (nth ns i)
theorem upto {P : Nat → Nat → Prop} (mono : ∀ p t t', t ≤ t' → P p t → P p t') : ∀ n : Nat, (∀ p, p < n → ∃ t, P p t) → ∃ t, ∀ p, p < n → P p t
  | 0, _ => ⟨0, fun p h => absurd h (by omega)⟩
  | n + 1, h => by
    obtain ⟨t1, h1⟩ := upto mono n fun p hp => h p (by omega)
    obtain ⟨t2, h2⟩ := h n (by omega)
    refine ⟨max t1 t2, fun p hp => ?_⟩
    by_cases c : p = n
    · subst c; exact mono _ _ _ (Nat.le_max_right _ _) h2
    · exact mono _ _ _ (Nat.le_max_left _ _) (h1 p (by omega))
section
variable {rs : List Rule} {s : Nat → List Int} {S : Nat → Int → Prop}
structure Fair (rs : List Rule) (s : Nat → List Int) (S : Nat → Int → Prop) : Prop where
  hh : ∀ r ∈ rs, r.Wf rs.length
  len : ∀ k, (s k).length = rs.length
  step : ∀ k, Turned rs (s k) (S k) (s (k + 1))
  nn0 : ∀ o : Int, 0 ≤ nth (s 0) o
  fair : ∀ (k p : Nat), p < rs.length → ∃ j, k ≤ j ∧ S j p
theorem nth_out {ns : List Int} {o : Int} (h : ns.length ≤ o.toNat) : nth ns o = 0 := by
  unfold nth
  rw [List.getD_eq_getElem?_getD, List.getElem?_eq_none h]
  rfl
theorem nth_nat {ns : List Int} (o : Int) : nth ns o = nth ns (o.toNat : Nat) := by
  unfold nth
  rw [Int.toNat_natCast]
theorem Fair.nn (f : Fair rs s S) : ∀ (k : Nat) (o : Int), 0 ≤ nth (s k) o
  | 0, o => f.nn0 o
  | k + 1, o => by
    have ih := f.nn k
    by_cases c : o.toNat < rs.length
    · rw [nth_nat]
      have t := (f.step k).2 o.toNat c
      by_cases d : S k (o.toNat : Nat)
      · have h1 := t.1 d
        rw [lotI_H] at h1
        exact (tell_bnd ih (ih _) (f.hh _ (List.getElem_mem c)) h1).1
      · rw [t.2 d]; exact ih _
    · rw [nth_out (by rw [f.len]; omega)]
      exact Int.le_refl _
theorem Fair.bound (f : Fair rs s S) : ∃ B : Int, 0 ≤ B ∧ ∀ (k : Nat) (o : Nat), nth (s k) o ≤ B := by
  have b1 : ∀ xs : List Int, ∃ B : Int, 0 ≤ B ∧ ∀ x ∈ xs, x ≤ B := fun xs => by
    obtain ⟨m, _, hm⟩ := max_ex (0 :: xs) (by simp)
    exact ⟨m, hm 0 List.mem_cons_self, fun x hx => hm x (List.mem_cons_of_mem _ hx)⟩
  obtain ⟨B, B0, hB⟩ := b1 (rs.map bnd ++ s 0)
  refine ⟨B, B0, fun k => ?_⟩
  induction k with
  | zero =>
    intro o
    by_cases c : o < (s 0).length
    · refine hB _ (List.mem_append_right _ ?_)
      have := nth_get (ns := s 0) (p := (o : Int)) (by omega) (by omega)
      rw [Int.toNat_natCast, List.getElem?_map, List.getElem?_eq_getElem c] at this
      have e : (s 0)[o] = nth (s 0) o := V.int.inj (Option.some.inj this)
      rw [← e]
      exact List.getElem_mem c
    · rw [nth_out (by omega)]; exact B0
  | succ k ih =>
    intro o
    by_cases c : o < rs.length
    · have t := (f.step k).2 o c
      by_cases d : S k o
      · have h1 := t.1 d
        rw [lotI_H] at h1
        rcases (tell_bnd (f.nn k) (f.nn k _) (f.hh _ (List.getElem_mem c)) h1).2 with h2 | h2
        · exact Int.le_trans h2 (hB _ (List.mem_append_left _ (List.mem_map_of_mem (List.getElem_mem c))))
        · exact Int.le_trans h2 (ih o)
      · rw [t.2 d]; exact ih o
    · rw [nth_out (by rw [f.len]; omega)]; exact B0
/-- from T on p shows one number below h, or never one below it -/
def Fix (s : Nat → List Int) (h : Int) (p T : Nat) : Prop := ((∀ k, T ≤ k → nth (s k) p = nth (s T) p) ∧ nth (s T) p < h) ∨ ∀ k, T ≤ k → h ≤ nth (s k) p
theorem Fix.later {h : Int} {p T T' : Nat} (l : T ≤ T') : Fix s h p T → Fix s h p T'
  | .inl ⟨a, b⟩ => .inl ⟨fun k hk => by rw [a k (by omega), a T' l], by rw [a T' l]; exact b⟩
  | .inr a => .inr fun k hk => a k (by omega)
theorem lot_still (f : Fair rs s S) {h : Int} {T k : Nat} (hk : T ≤ k) (fx : ∀ p, p < rs.length → Fix s h p T) {i : Nat} (hi : i < rs.length) : lotH rs[i] (s k) h = lotH rs[i] (s T) h := by
  have inr : ∀ o ∈ rs[i].persons, 0 ≤ o ∧ o < rs.length := by
    intro o ho
    have wf := f.hh _ (List.getElem_mem hi)
    generalize rs[i] = r at ho wf
    cases r with
    | held n => exact absurd ho (by simp [Rule.persons])
    | sum own ties => exact wf.2.1.2 o ho
    | cap own ties most => exact wf.2.1.2 o ho
    | kinds own seen => exact wf.2.2 o ho
    | next seen => exact wf.2 o ho
    | free seen => exact wf.2 o ho
  have key : ∀ o ∈ rs[i].persons, (nth (s k) o = nth (s T) o) ∨ (h ≤ nth (s k) o ∧ h ≤ nth (s T) o) := fun o ho => by
    have io := inr o ho
    rw [nth_nat (ns := s k), nth_nat (ns := s T)]
    rcases fx o.toNat (by omega) with ⟨a, _⟩ | a
    · exact .inl (a k hk)
    · exact .inr ⟨a k hk, a T (Nat.le_refl _)⟩
  unfold lotH
  have e1 : (rs[i].persons.filter fun o => decide (nth (s k) o < h)) = rs[i].persons.filter fun o => decide (nth (s T) o < h) := by
    refine List.filter_congr fun o ho => ?_
    rcases key o ho with e | ⟨a, b⟩
    · rw [e]
    · rw [decide_eq_false (by omega), decide_eq_false (by omega)]
  rw [e1]
  refine List.map_congr_left fun o ho => ?_
  obtain ⟨o1, o2⟩ := List.mem_filter.mp ho
  have lt : nth (s T) o < h := of_decide_eq_true o2
  rcases key o o1 with e | ⟨a, b⟩
  · rw [e]
  · omega
theorem Fair.levels (f : Fair rs s S) : ∀ h : Nat, ∃ T, ∀ p, p < rs.length → Fix s h p T
  | 0 => ⟨0, fun p _ => .inr fun k _ => f.nn k p⟩
  | h + 1 => by
    obtain ⟨T, fx⟩ := f.levels h
    refine upto (P := fun p t => Fix s ((h + 1 : Nat) : Int) p t) (fun p t t' l => Fix.later l) rs.length fun p hp => ?_
    rcases fx p hp with ⟨a, b⟩ | a
    · exact ⟨T, .inl ⟨a, by omega⟩⟩
    obtain ⟨c, hc⟩ := Tell.ex rs[p] (lotH rs[p] (s T) h)
    have wf := f.hh _ (List.getElem_mem hp)
    -- a turn of p behind T tells no less than c, and c itself at h
    have low : ∀ k, T ≤ k → S k p → c ≤ nth (s (k + 1)) p := fun k hk hS => by
      have t := ((f.step k).2 p hp).1 hS
      rw [lotI_H] at t
      rw [← lot_still f hk fx hp] at hc
      exact tell_mono (a k hk) (f.nn k) wf hc t
    have just : ∀ k, T ≤ k → S k p → nth (s k) p = h → nth (s (k + 1)) p = c := fun k hk hS e => by
      have t := ((f.step k).2 p hp).1 hS
      rw [lotI_H, e, lot_still f hk fx hp] at t
      exact t.unique hc
    have stay : ∀ k, ¬ S k p → nth (s (k + 1)) p = nth (s k) p := fun k hS => ((f.step k).2 p hp).2 hS
    by_cases ch : (h : Int) < c
    · obtain ⟨j, hj, hS⟩ := f.fair T p hp
      refine ⟨j + 1, .inr fun k hk => ?_⟩
      have : ∀ d, c ≤ nth (s (j + 1 + d)) p := fun d => by
        induction d with
        | zero => exact low j hj hS
        | succ d ih =>
          show c ≤ nth (s (j + 1 + d + 1)) p
          by_cases e : S (j + 1 + d) p
          · exact low (j + 1 + d) (by omega) e
          · rw [stay _ e]; exact ih
      have h1 := this (k - (j + 1))
      rw [show j + 1 + (k - (j + 1)) = k by omega] at h1
      omega
    · by_cases ex : ∃ k, T ≤ k ∧ nth (s k) p = h
      · obtain ⟨k, hk, e⟩ := ex
        have all : ∀ d, nth (s (k + d)) p = h := fun d => by
          induction d with
          | zero => exact e
          | succ d ih =>
            rw [show k + (d + 1) = k + d + 1 by omega]
            by_cases z : S (k + d) p
            · have h1 := just _ (by omega) z ih
              have h2 := a (k + d + 1) (by omega)
              omega
            · rw [stay _ z]; exact ih
        refine ⟨k, .inl ⟨fun k' hk' => ?_, by rw [e]; omega⟩⟩
        have h1 := all (k' - k)
        rw [show k + (k' - k) = k' by omega] at h1
        rw [h1, e]
      · refine ⟨T, .inr fun k hk => ?_⟩
        have h1 := a k hk
        have h2 : nth (s k) p ≠ h := fun z => ex ⟨k, hk, z⟩
        omega
/-- all come to rest -/
theorem Fair.rest (f : Fair rs s S) : ∃ T, (∀ k, T ≤ k → s k = s T) ∧ Rest rs (s T) := by
  obtain ⟨B, B0, hB⟩ := f.bound
  obtain ⟨T, fx⟩ := f.levels (B.toNat + 1)
  have still : ∀ k, T ≤ k → s k = s T := fun k hk => by
    refine nth_ext (by rw [f.len, f.len]) fun i hi => ?_
    rw [f.len] at hi
    rcases fx i hi with ⟨a, _⟩ | a
    · exact a k hk
    · have h1 := a k hk
      have h2 := hB k i
      omega
  refine ⟨T, still, fun i hi => ?_⟩
  obtain ⟨j, hj, hS⟩ := f.fair T i hi
  have t := ((f.step j).2 i hi).1 hS
  rw [still j hj, still (j + 1) (by omega)] at t
  exact t
end
end Lh

namespace Lh
open PySem PySem.Spec PyProof.Rows L2
theorem eqvAll_ints : ∀ a b : List Int, PyData.eqvAll (a.map PyData.int) (b.map PyData.int) = decide (a = b)
  | [], [] => by rw [List.map_nil, PyData.eqvAll]; rfl
  | [], y :: t => by rw [List.map_nil, List.map_cons, PyData.eqvAll]; rfl
  | x :: t, [] => by rw [List.map_nil, List.map_cons, PyData.eqvAll]; rfl
  | x :: t, y :: u => by
    rw [List.map_cons, List.map_cons, PyData.eqvAll, PyData.eqv, eqvAll_ints t u, Bool.eq_iff_iff]
    simp
theorem eqv_tups (a b : List Int) : PyData.eqv (.tuple (a.map PyData.int)) (.tuple (b.map PyData.int)) = decide (a = b) := by
  rw [PyData.eqv]
  exact eqvAll_ints a b
theorem shaped_tup (ns : List Int) : SeqAt.shaped (.tuple (ns.map PyData.int)) = true := by
  show (PyData.canLayAll0 (ns.map PyData.int) && decide (PyData.depthAll (ns.map PyData.int) + 1 ≤ 64)) = true
  rw [canLay_ints, depth_ints]
  rfl
/-- [e for n in numbers] -/
theorem TupAt.dp {K : PySem.W.Frag} {H : Hp} {t : Addr} {ns : List Int} (h : TupAt H t (ns.map V.int)) : Dp K H (.ref t) (.tuple (ns.map PyData.int)) := .tup h.sq (RpAll.dp (bx := t) (RpAll.ints ns))
/-- the standing behind a beat -/
theorem Beat.ex (rs : List Rule) {ns : List Int} (hn : ns.length = rs.length) : ∃ ms, Beat rs ns ms := by
  have : ∀ k, k ≤ rs.length → ∃ ms : List Int, ms.length = k ∧ ∀ (i : Nat) (h : i < rs.length), i < k → Tell rs[i] (lotI rs[i] ns i) (nth ms i) := by
    intro k
    induction k with
    | zero => exact fun _ => ⟨[], rfl, fun i _ h => absurd h (by omega)⟩
    | succ k ih =>
      intro hk
      obtain ⟨ms, h1, h2⟩ := ih (by omega)
      obtain ⟨y, hy⟩ := Tell.ex rs[k] (lotI rs[k] ns k)
      refine ⟨ms ++ [y], by rw [List.length_append, h1]; rfl, fun i h hi => ?_⟩
      by_cases c : i = k
      · subst c
        have e : nth (ms ++ [y]) (i : Int) = y := by
          unfold nth
          rw [Int.toNat_natCast, List.getD_eq_getElem?_getD, List.getElem?_append_right (by omega), h1, Nat.sub_self]; rfl
        rw [e]; exact hy
      · have e : nth (ms ++ [y]) (i : Int) = nth ms i := by
          unfold nth
          rw [Int.toNat_natCast, List.getD_eq_getElem?_getD, List.getD_eq_getElem?_getD, List.getElem?_append_left (by omega)]
        rw [e]; exact h2 i h (by omega)
  obtain ⟨ms, h1, h2⟩ := this rs.length (Nat.le_refl _)
  exact ⟨ms, by rw [h1, hn], fun i h => ⟨fun _ => h2 i h h, fun z => absurd trivial z⟩⟩
noncomputable def beatF (rs : List Rule) (ns : List Int) : List Int := open Classical in if h : ∃ ms, Beat rs ns ms then Classical.choose h else ns
theorem beatF_ok {rs : List Rule} {ns : List Int} (hn : ns.length = rs.length) : Beat rs ns (beatF rs ns) := by
  unfold beatF
  rw [dif_pos (Beat.ex rs hn)]
  exact Classical.choose_spec (Beat.ex rs hn)
noncomputable def beatN (rs : List Rule) (ns : List Int) : Nat → List Int
  | 0 => ns
  | k + 1 => beatF rs (beatN rs ns k)
theorem beatN_len {rs : List Rule} {ns : List Int} (hn : ns.length = rs.length) : ∀ k, (beatN rs ns k).length = rs.length
  | 0 => hn
  | k + 1 => by
    show (beatF rs (beatN rs ns k)).length = rs.length
    rw [(beatF_ok (beatN_len hn k)).1]; exact beatN_len hn k
theorem beatN_step {rs : List Rule} {ns : List Int} (hn : ns.length = rs.length) (k : Nat) : Beat rs (beatN rs ns k) (beatN rs ns (k + 1)) := beatF_ok (beatN_len hn k)
theorem nth_pos {ns : List Int} (h : ∀ n ∈ ns, 0 ≤ n) (o : Int) : 0 ≤ nth ns o := by
  unfold nth
  rw [List.getD_eq_getElem?_getD]
  cases e : ns[o.toNat]? with
  | none => exact Int.le_refl _
  | some x => exact h x (List.mem_of_getElem? e)
theorem beat_rest {rs : List Rule} {ns : List Int} (hh : Halls rs) (hn : ns.length = rs.length) (pos : ∀ n ∈ ns, 0 ≤ n) : ∃ T, (∀ k, T ≤ k → beatN rs ns k = beatN rs ns T) ∧ Rest rs (beatN rs ns T) :=
  Fair.rest (S := fun _ _ => True) ⟨hh.2.2, beatN_len hn, beatN_step hn, nth_pos pos, fun k p _ => ⟨k, Nat.le_refl _, trivial⟩⟩
theorem Rest.beat {rs : List Rule} {ns : List Int} (h : Rest rs ns) : Beat rs ns ns := ⟨rfl, fun i hi => ⟨fun _ => h i hi, fun z => absurd trivial z⟩⟩
/-- where beats lead, and behind how many -/
def Come (rs : List Rule) (ns m : List Int) (b : Nat) : Prop := m = beatN rs ns b ∧ Beat rs m m ∧ ∀ i, i < b → beatN rs ns i ≠ beatN rs ns (i + 1)
theorem Come.unique {rs : List Rule} {ns m m' : List Int} {b b' : Nat} (hn : ns.length = rs.length) (h : Come rs ns m b) (h' : Come rs ns m' b') : m = m' ∧ b = b' := by
  have key : ∀ {m m' : List Int} {b b' : Nat}, Come rs ns m b → Come rs ns m' b' → ¬ b < b' := fun {m m' b b'} x y z => by
    refine y.2.2 b z ?_
    have s := beatN_step hn b
    have e := x.1
    rw [← e] at s ⊢
    exact x.2.1.unique (by rw [e]; exact beatN_len hn b) s
  have e : b = b' := by
    have h1 := key h h'
    have h2 := key h' h
    omega
  subst e
  exact ⟨h.1.trans h'.1.symm, rfl⟩
def cntOf (i : Nat) (σ : L2.St) : Nat := match σ[i]? with
  | some (some (.int b)) => b.toNat
  | _ => 0
/-- those whom a turn would change -/
noncomputable def restL (rs : List Rule) (ns : List Int) : List Int := ((List.range rs.length).filter fun i : Nat => decide (nth (beatF rs ns) i ≠ nth ns i)).map fun k : Nat => (k : Int)
theorem restL_len (rs : List Rule) (ns : List Int) : (restL rs ns).length ≤ rs.length := by
  unfold restL
  rw [List.length_map]
  exact Nat.le_trans (List.length_filter_le _ _) (by rw [List.length_range]; exact Nat.le_refl _)
theorem restL_nil {rs : List Rule} {ns : List Int} (hn : ns.length = rs.length) : (restL rs ns).isEmpty = true ↔ Rest rs ns := by
  have bt := beatF_ok hn
  rw [List.isEmpty_iff]
  unfold restL
  rw [List.map_eq_nil_iff, List.filter_eq_nil_iff]
  constructor
  · intro h i hi
    have h1 := h i (List.mem_range.mpr hi)
    have h2 : nth (beatF rs ns) i = nth ns i := by simpa using h1
    have h3 := (bt.2 i hi).1 trivial
    rw [h2] at h3
    exact h3
  · intro h i hi
    have hi' := List.mem_range.mp hi
    have h3 := ((bt.2 i hi').1 trivial).unique (h i hi')
    simpa using h3
theorem Rest.turned {rs : List Rule} {ns ms : List Int} {S : Int → Prop} (hn : ns.length = rs.length) (h : Rest rs ns) (t : Turned rs ns S ms) : ms = ns := by
  refine t.unique (q := S) hn (fun _ _ => Iff.rfl) ⟨rfl, fun i hi => ⟨fun _ => h i hi, fun _ => rfl⟩⟩
theorem beatN_pos {rs : List Rule} {ns : List Int} (hh : Halls rs) (hn : ns.length = rs.length) (pos : ∀ n ∈ ns, 0 ≤ n) (k : Nat) : ∀ n ∈ beatN rs ns k, 0 ≤ n := fun n hm => by
  have f : Fair rs (beatN rs ns) (fun _ _ => True) := ⟨hh.2.2, beatN_len hn, beatN_step hn, nth_pos pos, fun k p _ => ⟨k, Nat.le_refl _, trivial⟩⟩
  obtain ⟨i, hi, e⟩ := List.mem_iff_getElem.mp hm
  have h1 := f.nn k i
  have h2 := nth_get (ns := beatN rs ns k) (p := (i : Int)) (by omega) (by omega)
  rw [Int.toNat_natCast, List.getElem?_map, List.getElem?_eq_getElem hi] at h2
  have h3 : (beatN rs ns k)[i] = nth (beatN rs ns k) i := V.int.inj (Option.some.inj h2)
  rw [← e, h3]
  exact h1
theorem Turned.pos {rs : List Rule} {ns ms : List Int} {S : Int → Prop} (hh : Halls rs) (hn : ns.length = rs.length) (pos : ∀ n ∈ ns, 0 ≤ n) (be : Turned rs ns S ms) : ∀ n ∈ ms, 0 ≤ n := fun n hm => by
  obtain ⟨i, hi, e⟩ := List.mem_iff_getElem.mp hm
  have hi' : i < rs.length := by rw [← hn, ← be.1]; exact hi
  have h2 := nth_get (ns := ms) (p := (i : Int)) (by omega) (by omega)
  rw [Int.toNat_natCast, List.getElem?_map, List.getElem?_eq_getElem hi] at h2
  have h3 : ms[i] = nth ms i := V.int.inj (Option.some.inj h2)
  rw [← e, h3]
  by_cases c : S i
  · have tl := (be.2 i hi').1 c
    rw [lotI_H] at tl
    exact (tell_bnd (nth_pos pos) (nth_pos pos _) (hh.2.2 _ (List.getElem_mem hi')) tl).1
  · rw [(be.2 i hi').2 c]
    exact nth_pos pos _
theorem bnd_small {m : Int} {r : Rule} (h : r.Wf m) (hl : r.persons.length ≤ 12) : bnd r ≤ 1000000 := by
  cases r with
  | held n =>
    have := h.2
    show n ≤ 1000000
    omega
  | sum own ties =>
    have h1 := h.1.2
    have h2 : ties.length ≤ 12 := by simpa [Rule.persons] using hl
    show own + 1000 * ties.length ≤ 1000000
    omega
  | cap own ties most =>
    have := h.2.2.2.2
    show most ≤ 1000000
    omega
  | kinds own seen =>
    have h1 := h.1.2
    have h2 : seen.length ≤ 12 := hl
    show own + seen.length ≤ 1000000
    omega
  | next seen => show (0 : Int) ≤ 1000000; decide
  | free seen =>
    have h2 : seen.length ≤ 12 := hl
    show (seen.length : Int) ≤ 1000000
    omega
theorem Turned.small {rs : List Rule} {ns ms : List Int} {S : Int → Prop} (hh : Halls rs) (hn : ns.length = rs.length) (sm : ∀ n ∈ ns, 0 ≤ n ∧ n ≤ 1000000) (be : Turned rs ns S ms) : ∀ n ∈ ms, 0 ≤ n ∧ n ≤ 1000000 := fun n hm => by
  have pos : ∀ n ∈ ns, 0 ≤ n := fun n h => (sm n h).1
  refine ⟨be.pos hh hn pos n hm, ?_⟩
  obtain ⟨i, hi, e⟩ := List.mem_iff_getElem.mp hm
  have hi' : i < rs.length := by rw [← hn, ← be.1]; exact hi
  have up : nth ns (i : Int) ≤ 1000000 := by
    unfold nth
    rw [Int.toNat_natCast, List.getD_eq_getElem?_getD, List.getElem?_eq_getElem (by omega)]
    exact (sm _ (List.getElem_mem _)).2
  have h2 := nth_get (ns := ms) (p := (i : Int)) (by omega) (by omega)
  rw [Int.toNat_natCast, List.getElem?_map, List.getElem?_eq_getElem hi] at h2
  have h3 : ms[i] = nth ms i := V.int.inj (Option.some.inj h2)
  rw [← e, h3]
  by_cases c : S i
  · have tl := (be.2 i hi').1 c
    rw [lotI_H] at tl
    rcases (tell_bnd (nth_pos pos) (nth_pos pos _) (hh.2.2 _ (List.getElem_mem hi')) tl).2 with z | z
    · exact Int.le_trans z (bnd_small (hh.2.2 _ (List.getElem_mem hi')) (hh.few hi'))
    · exact Int.le_trans z up
  · rw [(be.2 i hi').2 c]
    exact up
end Lh

namespace Lh
open PySem PySem.Spec PyProof.Rows L2
/-! ### comprehensions that leave all as it was -/
theorem lc_map {J : It} {n : Nat} {G : Hp → Prop} {Y : Nat → Hp → V → Hp → Prop} (wk : Walk J n G Y) {g : TG} {te : TE} {vs : List Nat} {σ : L2.St} {H1 : Hp} {D : Addr} {Qd : Hp → Prop} (f : Nat → V) (hD : H1 D = none) (hn : n ≤ 1000) (hG : ∀ H3, Same H1 H3 → G H3)
    (hs : ∀ i x H3 H4, i < n → Same H1 H3 → Y i H3 x H4 → ∀ (Q : VK) (Z : Hp → Prop), (∀ H5, Same H3 H5 → Q (f i) H5) → g x (wipe σ vs) H4 fun σ2 H2 => wipe σ2 vs = wipe σ vs ∧ tYes σ2 H2 fun b H3 => if b = true then te σ2 H3 Q else Z H3)
    (hq : ∀ H', Same H1 H' → H' D = some (.lst ((List.range n).map f)) → Qd H') :
    ∃ W : Nat → Nat → Hp → Prop, (∃ m, W 0 m (upd H1 D (.lst []))) ∧ ∀ i m H, W i m H →
      (J.stop i H ∧ Qd H) ∨ (J.go i H ∧ ∃ Nx : Hp → Prop, (∀ H', Nx H' → ∃ m', m' < m ∧ W (i + 1) m' H') ∧ ∀ x H', J.yld i H x H' → g x (wipe σ vs) H' fun σ2 H2 => wipe σ2 vs = wipe σ vs ∧ tYes σ2 H2 fun b H3 =>
        if b = true then te σ2 H3 fun y H4 => ∃ acc, H4 D = some (.lst acc) ∧ acc.length < sizeLine ∧ Nx (upd H4 D (.lst (acc ++ [y]))) else Nx H3) := by
  refine lc_it wk (fun i H3 => Same H1 H3 ∧ H3 D = some (.lst ((List.range i).map f))) ⟨same_upd hD, upd_same⟩ (fun i H3 _ h => hG H3 h.1) ?_ (fun H3 h => hq H3 h.1 h.2)
  rintro i x H3 H4 hi ⟨sm, h3⟩ hy
  refine hs i x H3 H4 hi sm hy _ _ (fun H5 s5 => ⟨_, s5 _ _ h3, ?_, same_mut (sm.trans s5) hD, ?_⟩)
  · rw [List.length_map, List.length_range]; exact small1000 (by omega)
  · rw [upd_same, List.range_succ, List.map_append]; rfl
theorem lc_filt {J : It} {n : Nat} {G : Hp → Prop} {Y : Nat → Hp → V → Hp → Prop} (wk : Walk J n G Y) {g : TG} {tt : TT} {te : TE} {vs : List Nat} {σ : L2.St} {H1 : Hp} {D : Addr} {Qd : Hp → Prop} (p : Nat → Bool) (f : Nat → V) (hD : H1 D = none) (hn : n ≤ 1000) (hG : ∀ H3, Same H1 H3 → G H3)
    (hs : ∀ i x H3 H4, i < n → Same H1 H3 → Y i H3 x H4 → ∀ (Q : VK) (Z : Hp → Prop), (p i = true → ∀ H5, Same H3 H5 → Q (f i) H5) → (p i = false → ∀ H5, Same H3 H5 → Z H5) → g x (wipe σ vs) H4 fun σ2 H2 => wipe σ2 vs = wipe σ vs ∧ tt σ2 H2 fun b H3 => if b = true then te σ2 H3 Q else Z H3)
    (hq : ∀ H', Same H1 H' → H' D = some (.lst (((List.range n).filter p).map f)) → Qd H') :
    ∃ W : Nat → Nat → Hp → Prop, (∃ m, W 0 m (upd H1 D (.lst []))) ∧ ∀ i m H, W i m H →
      (J.stop i H ∧ Qd H) ∨ (J.go i H ∧ ∃ Nx : Hp → Prop, (∀ H', Nx H' → ∃ m', m' < m ∧ W (i + 1) m' H') ∧ ∀ x H', J.yld i H x H' → g x (wipe σ vs) H' fun σ2 H2 => wipe σ2 vs = wipe σ vs ∧ tt σ2 H2 fun b H3 =>
        if b = true then te σ2 H3 fun y H4 => ∃ acc, H4 D = some (.lst acc) ∧ acc.length < sizeLine ∧ Nx (upd H4 D (.lst (acc ++ [y]))) else Nx H3) := by
  refine lc_it wk (fun i H3 => Same H1 H3 ∧ H3 D = some (.lst (((List.range i).filter p).map f))) ⟨same_upd hD, upd_same⟩ (fun i H3 _ h => hG H3 h.1) ?_ (fun H3 h => hq H3 h.1 h.2)
  rintro i x H3 H4 hi ⟨sm, h3⟩ hy
  refine hs i x H3 H4 hi sm hy _ _ (fun z H5 s5 => ⟨_, s5 _ _ h3, ?_, same_mut (sm.trans s5) hD, ?_⟩) (fun z H5 s5 => ⟨sm.trans s5, ?_⟩)
  · rw [List.length_map]; exact small1000 (Nat.le_trans (List.length_filter_le _ _) (by rw [List.length_range]; omega))
  · rw [upd_same, List.range_succ, List.filter_append, List.map_append, List.filter_cons, if_pos z]; rfl
  · rw [s5 _ _ h3, List.range_succ, List.filter_append, List.filter_cons, if_neg (by rw [z]; exact Bool.false_ne_true), List.filter_nil, List.append_nil]
/-! ### lines -/
noncomputable def tellF (r : Rule) (lot : List (Int × Int)) : Int := Classical.choose (Tell.ex r lot)
theorem tellF_ok (r : Rule) (lot : List (Int × Int)) : Tell r lot (tellF r lot) := Classical.choose_spec (Tell.ex r lot)
theorem Tell.eqF {r : Rule} {lot : List (Int × Int)} {y : Int} (h : Tell r lot y) : y = tellF r lot := h.unique (tellF_ok r lot)
/-- what p is told of those below h -/
noncomputable def toldH (rs : List Rule) (ns : List Int) (p : Nat) (h : Int) : Int := tellF (rs.getD p (.held 0)) (lotH (rs.getD p (.held 0)) ns h)
theorem getD_at {rs : List Rule} {p : Nat} (hp : p < rs.length) : rs.getD p (.held 0) = rs[p] := by
  rw [List.getD_eq_getElem?_getD, List.getElem?_eq_getElem hp]; rfl
theorem toldH_of {rs : List Rule} {ns : List Int} {p : Nat} {h y : Int} (hp : p < rs.length) (t : Tell rs[p] (lotH rs[p] ns h) y) : y = toldH rs ns p h := by
  unfold toldH
  rw [getD_at hp]
  exact t.eqF
theorem toldH_ok {rs : List Rule} {ns : List Int} {p : Nat} {h : Int} (hp : p < rs.length) : Tell rs[p] (lotH rs[p] ns h) (toldH rs ns p h) := by
  unfold toldH
  rw [getD_at hp]
  exact tellF_ok _ _
theorem toldH_at {rs : List Rule} {ns : List Int} {p : Nat} {y : Int} (hp : p < rs.length) (t : Tell rs[p] (lotI rs[p] ns p) y) : y = toldH rs ns p (nth ns p) := toldH_of hp t
noncomputable def keepB (rs : List Rule) (ns : List Int) (h : Int) (p : Nat) : Bool := if nth ns p < h then decide (toldH rs ns p (nth ns p) = nth ns p) else decide (h ≤ toldH rs ns p h)
noncomputable def lineB (rs : List Rule) (ns : List Int) (h : Int) : Bool := (List.range rs.length).all fun p => keepB rs ns h p
def IsMin (l : List Int) (m : Int) : Prop := m ∈ l ∧ ∀ y ∈ l, m ≤ y
theorem IsMin.unique {l : List Int} {a b : Int} (x : IsMin l a) (y : IsMin l b) : a = b := Int.le_antisymm (x.2 _ y.1) (y.2 _ x.1)
noncomputable def minOf (l : List Int) : Int := open Classical in if h : ∃ m, IsMin l m then Classical.choose h else 0
theorem IsMin.eq {l : List Int} {a : Int} (x : IsMin l a) : a = minOf l := by
  unfold minOf
  rw [dif_pos ⟨a, x⟩]
  exact x.unique (Classical.choose_spec (⟨a, x⟩ : ∃ m, IsMin l m))
theorem min_ex : ∀ xs : List Int, xs ≠ [] → ∃ x, IsMin xs x
  | [], h => absurd rfl h
  | [x], _ => ⟨x, List.mem_cons_self, fun y hy => by rw [List.mem_singleton.mp hy]; exact Int.le_refl _⟩
  | x :: z :: t, _ => by
    obtain ⟨m, h1, h2⟩ := min_ex (z :: t) (by simp)
    rcases Int.le_total m x with c | c
    · refine ⟨m, List.mem_cons_of_mem _ h1, fun y hy => ?_⟩
      rcases List.mem_cons.mp hy with rfl | hy
      · exact c
      · exact h2 y hy
    · refine ⟨x, List.mem_cons_self, fun y hy => ?_⟩
      rcases List.mem_cons.mp hy with rfl | hy
      · exact Int.le_refl _
      · exact Int.le_trans c (h2 y hy)
theorem minOf_ok {xs : List Int} (h : xs ≠ []) : IsMin xs (minOf xs) := by
  obtain ⟨m, hm⟩ := min_ex xs h
  rw [← hm.eq]; exact hm
/-- those who show top or more, and what they are told of the others -/
noncomputable def topL (rs : List Rule) (ns : List Int) (top : Int) : List Int := top :: ((List.range rs.length).filter fun p : Nat => decide (top ≤ nth ns p)).map fun p => toldH rs ns p top
noncomputable def topM (rs : List Rule) (ns : List Int) (top : Int) : Int := minOf (topL rs ns top)
theorem topM_ok (rs : List Rule) (ns : List Int) (top : Int) : IsMin (topL rs ns top) (topM rs ns top) := minOf_ok (by unfold topL; simp)
theorem toldH_nn {rs : List Rule} {ns : List Int} {p : Nat} {h : Int} (hh : Halls rs) (hp : p < rs.length) (nn : ∀ n ∈ ns, 0 ≤ n) (h0 : 0 ≤ h) : 0 ≤ toldH rs ns p h := (tell_bnd (nth_pos nn) h0 (hh.2.2 _ (List.getElem_mem hp)) (toldH_ok hp)).1
theorem topM_nn {rs : List Rule} {ns : List Int} {top : Int} (hh : Halls rs) (nn : ∀ n ∈ ns, 0 ≤ n) (h0 : 0 ≤ top) : 0 ≤ topM rs ns top := by
  have h1 := (topM_ok rs ns top).1
  unfold topL at h1
  rcases List.mem_cons.mp h1 with e | e
  · omega
  · obtain ⟨p, hp, e⟩ := List.mem_map.mp e
    have h2 := List.mem_range.mp (List.mem_filter.mp hp).1
    rw [← e]
    exact toldH_nn hh h2 nn h0
theorem nth_mem {ns : List Int} {p : Nat} (h : p < ns.length) : nth ns p ∈ ns := by
  unfold nth
  rw [Int.toNat_natCast, List.getD_eq_getElem?_getD, List.getElem?_eq_getElem h]
  exact List.getElem_mem h
/-- of the least number shown it's a line -/
theorem line_least {rs : List Rule} {ns : List Int} (hh : Halls rs) (hn : ns.length = rs.length) : ∃ top ∈ ns, lineB rs ns (topM rs ns top) = true := by
  have h0 := hh.1
  obtain ⟨top, h1, h2⟩ := min_ex ns (by intro z; rw [z] at hn; rw [← hn] at h0; exact absurd h0 (by decide))
  refine ⟨top, h1, ?_⟩
  unfold lineB
  rw [List.all_eq_true]
  intro p hp
  have hp' := List.mem_range.mp hp
  have tp := h2 _ (nth_mem (ns := ns) (p := p) (by omega))
  have mk := topM_ok rs ns top
  have le : topM rs ns top ≤ top := mk.2 _ List.mem_cons_self
  unfold keepB
  rw [if_neg (by omega)]
  refine decide_eq_true ?_
  have e : toldH rs ns p (topM rs ns top) = toldH rs ns p top := by
    have none : ∀ h : Int, h ≤ top → lotH rs[p] ns h = [] := fun h hl => by
      unfold lotH
      rw [List.filter_eq_nil_iff.mpr, List.map_nil]
      intro o ho
      have io := per_in hh hp' o ho
      have h3 := h2 _ (nth_mem (ns := ns) (p := o.toNat) (by omega))
      have h4 : nth ns o = nth ns (o.toNat : Nat) := nth_nat o
      simp
      omega
    unfold toldH
    rw [getD_at hp', none _ le, none _ (Int.le_refl _)]
  rw [e]
  exact mk.2 _ (List.mem_cons_of_mem _ (List.mem_map_of_mem (List.mem_filter.mpr ⟨hp, decide_eq_true tp⟩)))
/-- the greatest of these lines -/
def WlIs (rs : List Rule) (ns : List Int) (m : Int) : Prop := (∃ top ∈ ns, m = topM rs ns top ∧ lineB rs ns m = true) ∧ ∀ top ∈ ns, lineB rs ns (topM rs ns top) = true → topM rs ns top ≤ m
theorem WlIs.unique {rs : List Rule} {ns : List Int} {a b : Int} (x : WlIs rs ns a) (y : WlIs rs ns b) : a = b := by
  obtain ⟨⟨t1, m1, e1, l1⟩, g1⟩ := x
  obtain ⟨⟨t2, m2, e2, l2⟩, g2⟩ := y
  have h1 := g1 t2 m2 (by rw [← e2]; exact l2)
  have h2 := g2 t1 m1 (by rw [← e1]; exact l1)
  omega
def Wl (rs : List Rule) (ns : List Int) : Option Int → Prop
  | none => Rest rs ns
  | some m => ¬ Rest rs ns ∧ WlIs rs ns m
theorem Wl.unique {rs : List Rule} {ns : List Int} : ∀ {a b : Option Int}, Wl rs ns a → Wl rs ns b → a = b
  | none, none, _, _ => rfl
  | none, some _, x, y => absurd x y.1
  | some _, none, x, y => absurd y x.1
  | some _, some _, x, y => by rw [x.2.unique y.2]
def vO : Option Int → V
  | none => .non
  | some m => .int m
def dO : Option Int → PyData
  | none => .none
  | some m => .int m
theorem rp_vO {bx : Addr} {H : Hp} : ∀ o : Option Int, Rp bx H (vO o) (dO o)
  | none => .non
  | some m => .int m
theorem okD_vO {n : Nat} : ∀ o : Option Int, okD n (dO o)
  | none => by cases n <;> trivial
  | some m => by cases n <;> trivial
noncomputable def firmB (rs : List Rule) (ns : List Int) (h : Int) (p : Nat) : Bool := if nth ns p = h then decide (toldH rs ns p (nth ns p) = h) else decide (nth ns p < h)
noncomputable def firmL (rs : List Rule) (ns : List Int) : Option Int → List Int
  | none => (List.range rs.length).map fun k : Nat => (k : Int)
  | some h => ((List.range rs.length).filter fun p => firmB rs ns h p).map fun k : Nat => (k : Int)
theorem firmL_len (rs : List Rule) (ns : List Int) : ∀ o : Option Int, (firmL rs ns o).length ≤ rs.length
  | none => by unfold firmL; rw [List.length_map, List.length_range]; exact Nat.le_refl _
  | some h => by
    unfold firmL
    rw [List.length_map]
    exact Nat.le_trans (List.length_filter_le _ _) (by rw [List.length_range]; exact Nat.le_refl _)
end Lh

namespace Lh
open PySem PySem.Spec PyProof.Rows L2
/-! ### lot by lot -/
noncomputable def turnL (rs : List Rule) (ns qs : List Int) : List Int := (List.range rs.length).map fun i : Nat => if (i : Int) ∈ qs then nth (beatF rs ns) i else nth ns i
theorem turnL_len (rs : List Rule) (ns qs : List Int) : (turnL rs ns qs).length = rs.length := by unfold turnL; rw [List.length_map, List.length_range]
theorem turnL_nth {rs : List Rule} {ns qs : List Int} {i : Nat} (hi : i < rs.length) : nth (turnL rs ns qs) i = if (i : Int) ∈ qs then nth (beatF rs ns) i else nth ns i := by
  unfold turnL
  rw [show nth ((List.range rs.length).map fun i : Nat => if (i : Int) ∈ qs then nth (beatF rs ns) i else nth ns i) (i : Int) = _ from rfl]
  unfold nth
  rw [Int.toNat_natCast, List.getD_eq_getElem?_getD, List.getElem?_map, List.getElem?_range hi]
  rfl
theorem turnL_ok {rs : List Rule} {ns qs : List Int} (hn : ns.length = rs.length) : Turned rs ns (fun i => i ∈ qs) (turnL rs ns qs) := by
  refine ⟨by rw [turnL_len, hn], fun i hi => ?_⟩
  rw [turnL_nth hi]
  refine ⟨fun z => ?_, fun z => by rw [if_neg z]⟩
  rw [if_pos z]
  exact ((beatF_ok hn).2 i hi).1 trivial
noncomputable def seqL (rs : List Rule) (ns : List Int) (lots : List (List Int)) : Nat → List Int
  | 0 => ns
  | k + 1 => turnL rs (seqL rs ns lots k) (lots.getD (k % lots.length) [])
theorem seqL_len {rs : List Rule} {ns : List Int} (hn : ns.length = rs.length) (lots : List (List Int)) : ∀ k, (seqL rs ns lots k).length = rs.length
  | 0 => hn
  | k + 1 => turnL_len _ _ _
theorem seqL_step {rs : List Rule} {ns : List Int} (hn : ns.length = rs.length) (lots : List (List Int)) (k : Nat) : Turned rs (seqL rs ns lots k) (fun i => i ∈ lots.getD (k % lots.length) []) (seqL rs ns lots (k + 1)) := turnL_ok (seqL_len hn lots k)
def Covers (n : Nat) (lots : List (List Int)) : Prop := ∀ p : Nat, p < n → ∃ j : Nat, j < lots.length ∧ (p : Int) ∈ lots.getD j []
theorem seqL_rest {rs : List Rule} {ns : List Int} (hh : Halls rs) (hn : ns.length = rs.length) (pos : ∀ n ∈ ns, 0 ≤ n) {lots : List (List Int)} (cv : Covers rs.length lots) : ∃ T, (∀ k, T ≤ k → seqL rs ns lots k = seqL rs ns lots T) ∧ Rest rs (seqL rs ns lots T) := by
  refine Fair.rest (S := fun k i => i ∈ lots.getD (k % lots.length) []) ⟨hh.2.2, seqL_len hn lots, seqL_step hn lots, nth_pos pos, fun k p hp => ?_⟩
  obtain ⟨j, hj, hm⟩ := cv p hp
  refine ⟨k * lots.length + j, ?_, ?_⟩
  · have : k ≤ k * lots.length := Nat.le_mul_of_pos_right k (by omega)
    omega
  · rw [Nat.mul_comm, Nat.mul_add_mod, Nat.mod_eq_of_lt hj]
    exact hm
noncomputable def lastc (rs : List Rule) (ns : List Int) (lots : List (List Int)) : Nat → Nat
  | 0 => 0
  | k + 1 => open Classical in if seqL rs ns lots (k + 1) = seqL rs ns lots k then lastc rs ns lots k else k + 1
theorem lastc_same {rs : List Rule} {ns : List Int} {lots : List (List Int)} {k : Nat} (h : seqL rs ns lots (k + 1) = seqL rs ns lots k) : lastc rs ns lots (k + 1) = lastc rs ns lots k := by
  rw [lastc]; exact if_pos h
theorem lastc_move {rs : List Rule} {ns : List Int} {lots : List (List Int)} {k : Nat} (h : ¬ seqL rs ns lots (k + 1) = seqL rs ns lots k) : lastc rs ns lots (k + 1) = k + 1 := by
  rw [lastc]; exact if_neg h
/-- where lots lead, and behind how many -/
def ByLots (rs : List Rule) (ns : List Int) (lots : List (List Int)) (m : List Int) (c : Nat) : Prop := ∃ r : Nat, m = seqL rs ns lots (r * lots.length) ∧ c = lastc rs ns lots (r * lots.length) ∧ Rest rs m ∧ ∀ r' : Nat, r' < r → ¬ Rest rs (seqL rs ns lots (r' * lots.length))
theorem ByLots.unique {rs : List Rule} {ns m m' : List Int} {lots : List (List Int)} {c c' : Nat} (a : ByLots rs ns lots m c) (b : ByLots rs ns lots m' c') : m = m' ∧ c = c' := by
  obtain ⟨r, a1, a2, a3, a4⟩ := a
  obtain ⟨r', b1, b2, b3, b4⟩ := b
  have e : r = r' := by
    rcases Nat.lt_trichotomy r r' with z | z | z
    · exact absurd (by rw [← a1]; exact a3) (b4 r z)
    · exact z
    · exact absurd (by rw [← b1]; exact b3) (a4 r' z)
  subst e
  exact ⟨a1.trans b1.symm, a2.trans b2.symm⟩
theorem ByLots.rest {rs : List Rule} {ns : List Int} {lots : List (List Int)} (h : Rest rs ns) : ByLots rs ns lots ns 0 := ⟨0, by rw [Nat.zero_mul]; rfl, by rw [Nat.zero_mul]; rfl, h, fun r hr => absurd hr (by omega)⟩
/-- one lot of all: beats -/
theorem seqL_all {rs : List Rule} {ns : List Int} (hn : ns.length = rs.length) {qs : List Int} (al : ∀ p : Nat, p < rs.length → (p : Int) ∈ qs) : ∀ k, seqL rs ns [qs] k = beatN rs ns k
  | 0 => rfl
  | k + 1 => by
    have st := seqL_step hn [qs] k
    rw [seqL_all hn al k] at st
    have e : ([qs] : List (List Int)).getD (k % [qs].length) [] = qs := by
      rw [show [qs].length = 1 from rfl, Nat.mod_one]; rfl
    rw [e] at st
    exact st.unique (beatN_len hn k) (fun i hi => ⟨fun _ => trivial, fun _ => al i hi⟩) (beatN_step hn k)
theorem ByLots.come {rs : List Rule} {ns m : List Int} {c : Nat} (hn : ns.length = rs.length) {qs : List Int} (al : ∀ p : Nat, p < rs.length → (p : Int) ∈ qs) (b : ByLots rs ns [qs] m c) : Come rs ns m c := by
  obtain ⟨r, b1, b2, b3, b4⟩ := b
  rw [show [qs].length = 1 from rfl, Nat.mul_one] at b1 b2
  have nr : ∀ i, i < r → ¬ Rest rs (beatN rs ns i) := fun i hi => by
    have := b4 i hi
    rw [show [qs].length = 1 from rfl, Nat.mul_one, seqL_all hn al] at this
    exact this
  have mv : ∀ i, i < r → beatN rs ns i ≠ beatN rs ns (i + 1) := fun i hi z => nr i hi fun k hk => by
    have t := (beatN_step hn i).2 k hk
    have t1 := t.1 trivial
    rw [← z] at t1
    exact t1
  have lc : ∀ k, k ≤ r → lastc rs ns [qs] k = k := fun k hk => by
    cases k with
    | zero => rfl
    | succ k =>
      unfold lastc
      rw [if_neg]
      rw [seqL_all hn al, seqL_all hn al]
      exact fun z => mv k (by omega) z.symm
  rw [lc r (Nat.le_refl _)] at b2
  subst b2
  rw [seqL_all hn al] at b1
  exact ⟨b1, b3.beat, mv⟩
/-! ### a while by its turns -/
theorem while_idx {c : TT} {tb : TS} {D : Ends} {σ : L2.St} {H : Hp} (T : Nat) (Pv : Nat → L2.St → Hp → Prop) (h0 : Pv 0 σ H)
    (hs : ∀ r σ H, Pv r σ H → c σ H fun b H1 => if b = true then (r < T ∧ tb { D with nx := Pv (r + 1), ct := Pv (r + 1), bk := D.nx } σ H1) else D.nx σ H1)
    (mono : ∀ σ H Q Q', (∀ b H1, Q b H1 → Q' b H1) → c σ H Q → c σ H Q') : tWhile c tb D σ H := by
  refine ⟨fun m σ H => ∃ r, m = T - r ∧ Pv r σ H, ⟨_, 0, rfl, h0⟩, ?_⟩
  rintro m σ H ⟨r, rfl, p⟩
  refine mono σ H _ _ (fun b H1 q => ?_) (hs r σ H p)
  cases b with
  | true =>
    rw [if_pos rfl] at q ⊢
    obtain ⟨lt, t⟩ := q
    exact ⟨Pv (r + 1), fun σ' H' p' => ⟨T - (r + 1), by omega, r + 1, rfl, p'⟩, t⟩
  | false =>
    rw [if_neg Bool.false_ne_true] at q ⊢
    exact q
/-- lots at a place -/
def LotAtL (H : Hp) (v : V) (qs : List Int) : Prop := ∃ a, v = .ref a ∧ H a = some (.lst (qs.map V.int))
def LotsAt (H : Hp) : List V → List (List Int) → Prop := Paired (LotAtL H)
theorem LotsAt.same {H H' : Hp} (s : Same H H') : ∀ {vs : List V} {lots : List (List Int)}, LotsAt H vs lots → LotsAt H' vs lots
  | _, _, .nil => .nil
  | _, _, .cons ⟨a, e, h⟩ r => .cons ⟨a, e, s _ _ h⟩ (LotsAt.same s r)
theorem LotsAt.get {H : Hp} : ∀ {vs : List V} {lots : List (List Int)}, LotsAt H vs lots → ∀ (i : Nat) (h : i < lots.length), ∃ a, vs[i]? = some (.ref a) ∧ H a = some (.lst (lots[i].map V.int))
  | _, _, .nil, i, h => absurd h (by simp)
  | _, _, .cons ⟨a, e, h⟩ r, 0, _ => ⟨a, by rw [e]; rfl, h⟩
  | _, _, .cons _ r, i + 1, h => by
    obtain ⟨a, h1, h2⟩ := LotsAt.get r i (by simpa using h)
    exact ⟨a, by simpa using h1, by simpa using h2⟩
theorem lots_in {n : Nat} {lots : List (List Int)} (hq : ∀ qs ∈ lots, ∀ q ∈ qs, 0 ≤ q ∧ q < (n : Int)) {i : Nat} (hi : i < lots.length) : ∀ q ∈ lots[i], 0 ≤ q ∧ q < (n : Int) := hq _ (List.getElem_mem hi)
theorem idx_mod {r n j : Nat} (hj : j < n) : (r * n + j) % n = j := by rw [Nat.mul_comm, Nat.mul_add_mod, Nat.mod_eq_of_lt hj]
theorem eqv_nil2 (xs : List Int) : PyData.eqv (.list (xs.map PyData.int)) (.list []) = xs.isEmpty := by
  rw [PyData.eqv, show ([] : List PyData) = ([] : List Int).map PyData.int from rfl, eqvAll_ints]
  cases xs with
  | nil => rfl
  | cons x t => exact decide_eq_false (by simp)
end Lh

namespace Lh
open PySem PySem.Spec PyProof.Rows L2
section
variable {P : Program} {w : World} {K : PySem.W.Frag} {mg : Str → Option Value} {base : Heap}
def spWays : Sp := fun vs H Q _ => ∃ n : Nat, vs = [.int ((n : Int) - 2)] ∧ n ≤ 1000 ∧ Q (.int (fb n : Nat)) H
theorem ok_ways_of (T : Txt K mg w) : FnOk P w K mg base CX0 1 T.f_ways_of T.fd_ways_of p_ways_of spWays := by
  refine T.F_ways_of.ok sc_ways_of (fun vs H Q E h => ?_) (fun cdv A outer s H vs Q E hr h => ?_)
  · obtain ⟨n, rfl, _⟩ := h
    rfl
  · obtain ⟨n, rfl, n1, q⟩ := h
    refine ⟨_, (pss_cons (ps_set (i := 1) sc_ways_of.nd rfl (.inl rfl) pe_int)
      (pss_cons (ps_set (i := 2) sc_ways_of.nd rfl (.inl rfl) pe_int)
      (pss_cons (ps_for PassesOwn.never rfl (pi_range1 (by rfl) T.m_range (pa_cons (pe_op op_add (pv 0) pe_int) pa_nil)) (pg_name (i := 3) sc_ways_of.nd rfl (.inl rfl))
        (pss_one (ps_par (i := 1) (j := 2) (by rfl) sc_ways_of.nd rfl rfl (by decide) rfl rfl (pa_cons (pv 2) (pa_cons (pe_op op_add (pv 1) (pv 2)) pa_nil)) (by rfl))))
      (pss_one (ps_ret (pv 2)))))), ?_⟩
    refine ⟨.int ((n : Int) - 2), rfl, _, _, rfl, rfl, _, rfl, by omega, by omega, ?_⟩
    refine for_it walk_range (fun i σ H3 => ∃ (lo : Int) (y3 : Option V), σ = [some (.int ((n : Int) - 2)), some (.int lo), some (.int (fb i : Nat)), y3] ∧ lo + fb i = fb (i + 1) ∧ H3 = H) ⟨1, none, rfl, rfl, rfl⟩ (fun _ _ _ _ _ => trivial) ?_ ?_
    · rintro i x σ H3 H4 hi ⟨lo, y3, rfl, e1, rfl⟩ ⟨rfl, rfl⟩
      refine ⟨.int (fb i : Nat), rfl, .int lo, rfl, .int (fb i : Nat), rfl, _, _, rfl, rfl, _, _, rfl, fb i, some (.int (0 + i)), ?_, ?_, rfl⟩
      · show [some (V.int ((n : Int) - 2)), some (V.int (fb i : Nat)), some (V.int (lo + (fb i : Nat))), some (V.int (0 + (i : Int)))] = _
        rw [e1]
      · rw [show fb (i + 1 + 1) = fb i + fb (i + 1) from fb_two i]; omega
    · rintro σ H3 ⟨lo, y3, rfl, e1, rfl⟩
      refine ⟨_, rfl, ?_⟩
      rw [show ((n : Int) - 2 + 2).toNat = n by omega]
      exact q
def spCounts : Sp := fun vs H Q _ => ∃ (n : Nat) (ring : Bool), vs = [.int n, .bl ring] ∧ 2 ≤ n ∧ n ≤ 100 ∧ Q (.int (cntK ring n : Nat)) H
theorem ok_line_counts (T : Txt K mg w) : FnOk P w K mg base CX0 2 T.f_line_counts T.fd_line_counts p_line_counts spCounts := by
  have G_ways_of := ok_ways_of (P := P) (w := w) (base := base) T
  refine T.F_line_counts.ok sc_line_counts (fun vs H Q E h => ?_) (fun cdv A outer s H vs Q E hr h => ?_)
  · obtain ⟨n, ring, rfl, _⟩ := h
    rfl
  · obtain ⟨n, ring, rfl, n0, n1, q⟩ := h
    refine ⟨_, PSs.nox (pss_cons (ps_if (pt_val (pv 1))
        (pss_one (ps_ret (pe_op op_add (pe_call G_ways_of (hr.mono (by decide)) (by rfl) T.g_ways_of T.F_ways_of.kp T.b_ways_of .nil pass0 (pa_cons (pe_op op_sub (pv 0) pe_int) pa_nil)) (pe_call G_ways_of (hr.mono (by decide)) (by rfl) T.g_ways_of T.F_ways_of.kp T.b_ways_of .nil pass0 (pa_cons (pe_op op_sub (pv 0) pe_int) pa_nil)))))
        pss_nil)
      (pss_one (ps_ret (pe_call G_ways_of (hr.mono (by decide)) (by rfl) T.g_ways_of T.F_ways_of.kp T.b_ways_of .nil pass0 (pa_cons (pe_op op_sub (pv 0) pe_int) pa_nil))))), ?_⟩
    refine ⟨.bl ring, rfl, ring, rfl, ite2 (fun z => ?_) (fun z => ?_)⟩
    · subst z
      refine ⟨.int n, rfl, _, _, rfl, rfl, n + 1, by show [V.int ((n : Int) - 1)] = [V.int (((n + 1 : Nat) : Int) - 2)]; rw [show ((n + 1 : Nat) : Int) - 2 = (n : Int) - 1 by omega], by omega, ?_⟩
      refine ⟨.int n, rfl, _, _, rfl, rfl, n - 1, by show [V.int ((n : Int) - 3)] = [V.int (((n - 1 : Nat) : Int) - 2)]; rw [show ((n - 1 : Nat) : Int) - 2 = (n : Int) - 3 by omega], by omega, ?_⟩
      exact ⟨_, _, rfl, rfl, q⟩
    · have z : ring = false := by simpa using z
      subst z
      exact ⟨.int n, rfl, _, _, rfl, rfl, n + 1, by show [V.int ((n : Int) - 1)] = [V.int (((n + 1 : Nat) : Int) - 2)]; rw [show ((n + 1 : Nat) : Int) - 2 = (n : Int) - 1 by omega], by omega, q⟩
theorem decP_succ (ring : Bool) (m : Nat) (pre : List Int) (a : Nat) : decP ring (m + 1) pre a = if a < fb (m + 1 + exE ring pre) then decP ring m (pre ++ [0]) a else decP ring m (pre ++ [1]) (a - fb (m + 1 + exE ring pre)) := rfl
theorem numP_cons (ring : Bool) (pre : List Int) (x : Int) (xs : List Int) : numP ring pre (x :: xs) = (if x = 1 then fb (xs.length + 1 + exE ring pre) else 0) + numP ring (pre ++ [x]) xs := rfl
theorem cutI_map (ns : List Int) (lo hi : Option Int) : cutI (ns.map V.int) lo hi = (cutI ns lo hi).map V.int := by
  rw [← cutV_id]; exact cut_map V.int ns lo hi
theorem cut_1 (xs : List Int) : cutI xs none (some 1) = xs.take 1 := by
  cases xs with
  | nil => unfold cutI; rw [List.drop_nil, List.take_nil, List.take_nil]
  | cons x t => exact cut_to (x :: t) 1 (by rw [List.length_cons]; omega)
def spBehindL : Sp := fun vs H Q _ => ∃ (m : Nat) (l : Addr) (ring : Bool) (pre : List Int), vs = [.int ((m : Int) - 1), .ref l, .bl ring] ∧ m ≤ 900 ∧ H l = some (.lst (pre.map V.int)) ∧ ∀ H', Same H H' → Q (.int (fb (m + exE ring pre) : Nat)) H'
def spBehindT : Sp := fun vs H Q _ => ∃ (m : Nat) (l : Addr) (ring : Bool) (pre : List Int), vs = [.int ((m : Int) - 1), .ref l, .bl ring] ∧ m ≤ 900 ∧ TupAt H l (pre.map V.int) ∧ ∀ H', Same H H' → Q (.int (fb (m + exE ring pre) : Nat)) H'
theorem ok_ways_behindL (T : Txt K mg w) : FnOk P w K mg base CX0 2 T.f_ways_behind T.fd_ways_behind p_ways_behind spBehindL := by
  have G_ways_of := ok_ways_of (P := P) (w := w) (base := base) T
  refine T.F_ways_behind.ok sc_ways_behind (fun vs H Q E h => ?_) (fun cdv A outer s H vs Q E hr h => ?_)
  · obtain ⟨m, l, ring, pre, rfl, _⟩ := h
    rfl
  · obtain ⟨m, l, ring, pre, rfl, m1, hl, q⟩ := h
    refine ⟨_, (pss_cons (ps_if (PW.pt (pw_and (pt_val (pv 2)) (pw_and1 (pt_cmpR op_notIn_seq pe_int (pe_slice sl_list (pv 1) po_none (po_some pe_int)) (by rfl)))))
        (pss_one (ps_ret (pe_call G_ways_of (hr.mono (by decide)) (by rfl) T.g_ways_of T.F_ways_of.kp T.b_ways_of .nil pass0 (pa_cons (pv 0) pa_nil))))
        pss_nil)
      (pss_one (ps_ret (pe_call G_ways_of (hr.mono (by decide)) (by rfl) T.g_ways_of T.F_ways_of.kp T.b_ways_of .nil pass0 (pa_cons (pe_op op_sub (pv 0) pe_int) pa_nil))))), ?_⟩
    have fin : ∀ H', Same H H' → exE ring pre = 0 → spWays [.int ((m : Int) - 1 - 1)] H' Q E := fun H' s' e => by
      refine ⟨m, by rw [show (m : Int) - 1 - 1 = (m : Int) - 2 by omega], by omega, ?_⟩
      have := q H' s'
      rw [e] at this
      exact this
    refine ⟨.bl ring, rfl, ring, rfl, ite2 (fun z => ?_) (fun z => ?_)⟩
    · subst z
      refine ⟨.ref l, rfl, 1, rfl, ?_⟩
      dsimp only [tNoPart]
      refine ⟨l, _, rfl, .inl (.inl hl), fun c nc => ?_⟩
      rw [cut_map V.int, cut_1]
      have sc := same_upd (o := .lst ((pre.take 1).map V.int)) nc
      refine ⟨c, _, rfl, .inl (.inl (.inl upd_same)), rfl, flat_ints _, _, rfl, ?_⟩
      rw [in_ints]
      by_cases c : (1 : Int) ∈ pre.take 1
      · refine iteN (by rw [decide_eq_true c]; rfl) ?_
        exact ⟨_, rfl, _, _, rfl, rfl, fin _ sc (if_neg fun z => z.2 c)⟩
      · refine iteP (by rw [decide_eq_false c]; rfl) ?_
        refine ⟨_, rfl, m + 1, by show [V.int ((m : Int) - 1)] = [V.int (((m + 1 : Nat) : Int) - 2)]; rw [show ((m + 1 : Nat) : Int) - 2 = (m : Int) - 1 by omega], by omega, ?_⟩
        have := q _ sc
        rw [show exE true pre = 1 from if_pos ⟨rfl, c⟩] at this
        exact this
    · refine iteN rfl ?_
      have z : ring = false := by simpa using z
      exact ⟨_, rfl, _, _, rfl, rfl, fin H (Same.refl _) (by rw [z]; exact exE_line _)⟩
theorem ok_ways_behindT (T : Txt K mg w) : FnOk P w K mg base CX0 2 T.f_ways_behind T.fd_ways_behind p_ways_behind spBehindT := by
  have G_ways_of := ok_ways_of (P := P) (w := w) (base := base) T
  refine T.F_ways_behind.ok sc_ways_behind (fun vs H Q E h => ?_) (fun cdv A outer s H vs Q E hr h => ?_)
  · obtain ⟨m, l, ring, pre, rfl, _⟩ := h
    rfl
  · obtain ⟨m, l, ring, pre, rfl, m1, hl, q⟩ := h
    refine ⟨_, (pss_cons (ps_if (PW.pt (pw_and (pt_val (pv 2)) (pw_and1 (pt_cmpR op_notIn_seq pe_int (pe_slice sl_tupA (pv 1) po_none (po_some pe_int)) (by rfl)))))
        (pss_one (ps_ret (pe_call G_ways_of (hr.mono (by decide)) (by rfl) T.g_ways_of T.F_ways_of.kp T.b_ways_of .nil pass0 (pa_cons (pv 0) pa_nil))))
        pss_nil)
      (pss_one (ps_ret (pe_call G_ways_of (hr.mono (by decide)) (by rfl) T.g_ways_of T.F_ways_of.kp T.b_ways_of .nil pass0 (pa_cons (pe_op op_sub (pv 0) pe_int) pa_nil))))), ?_⟩
    have fin : ∀ H', Same H H' → exE ring pre = 0 → spWays [.int ((m : Int) - 1 - 1)] H' Q E := fun H' s' e => by
      refine ⟨m, by rw [show (m : Int) - 1 - 1 = (m : Int) - 2 by omega], by omega, ?_⟩
      have := q H' s'
      rw [e] at this
      exact this
    refine ⟨.bl ring, rfl, ring, rfl, ite2 (fun z => ?_) (fun z => ?_)⟩
    · subst z
      refine ⟨.ref l, rfl, 1, rfl, ?_⟩
      dsimp only [tNoPart]
      refine sl_tup_use hl fun c Hc sc hc => ?_
      rw [cutI_map, cut_1] at hc
      refine ⟨c, _, rfl, .inr hc.sq, rfl, flat_ints _, _, rfl, ?_⟩
      rw [in_ints]
      by_cases c : (1 : Int) ∈ pre.take 1
      · refine iteN (by rw [decide_eq_true c]; rfl) ?_
        exact ⟨_, rfl, _, _, rfl, rfl, fin _ sc (if_neg fun z => z.2 c)⟩
      · refine iteP (by rw [decide_eq_false c]; rfl) ?_
        refine ⟨_, rfl, m + 1, by show [V.int ((m : Int) - 1)] = [V.int (((m + 1 : Nat) : Int) - 2)]; rw [show ((m + 1 : Nat) : Int) - 2 = (m : Int) - 1 by omega], by omega, ?_⟩
        have := q _ sc
        rw [show exE true pre = 1 from if_pos ⟨rfl, c⟩] at this
        exact this
    · refine iteN rfl ?_
      have z : ring = false := by simpa using z
      exact ⟨_, rfl, _, _, rfl, rfl, fin H (Same.refl _) (by rw [z]; exact exE_line _)⟩
def spLineRest : Sp := fun vs H Q _ => ∃ (n k : Nat) (ring : Bool), vs = [.int n, .int k, .bl ring] ∧ 2 ≤ n ∧ n ≤ 100 ∧ k < cntK ring n ∧ ∀ (t : Addr) (H' : Hp), Same H H' → TupAt H' t ((rowK ring n k).map V.int) → Q (.ref t) H'
set_option maxHeartbeats 2000000 in
theorem ok_line_rest (T : Txt K mg w) : FnOk P w K mg base CX0 3 T.f_line_rest T.fd_line_rest p_line_rest spLineRest := by
  have G_line_counts := ok_line_counts (P := P) (w := w) (base := base) T
  have G_ways_behind := ok_ways_behindL (P := P) (w := w) (base := base) T
  refine T.F_line_rest.ok sc_line_rest (fun vs H Q E h => ?_) (fun cdv A outer s H vs Q E hr h => ?_)
  · obtain ⟨n, k, ring, rfl, _⟩ := h
    rfl
  · obtain ⟨n, k, ring, rfl, n0, n1, kc, q⟩ := h
    refine ⟨_, PSs.nox (pss_cons (ps_if (pt_not (pt_chain op_le op_lt pe_int (pv 1) (pe_callN G_line_counts (hr.mono (by decide)) (by rfl) T.g_line_counts T.F_line_counts.kp T.kb_line_counts pass0 (pa_cons (pv 0) pa_nil) (pk_cons (pv 2) pk_nil))))
        (pss_one ps_never)
        pss_nil)
      (pss_cons (ps_set (i := 3) sc_line_rest.nd rfl (.inl rfl) (pe_lst pa_nil))
      (pss_cons (ps_set (i := 4) sc_line_rest.nd rfl (.inl rfl) (pv 1))
      (pss_cons (ps_while PassesOwn.never (pt_cmpR op_lt (pe_callB call_len_seq (by rfl) T.m_len (by decide +kernel) (pa_cons (pv 3) pa_nil)) (pv 0) (nomark _))
        (pss_cons (ps_set (i := 5) sc_line_rest.nd rfl (.inl rfl) (pe_call G_ways_behind (hr.mono (by decide)) (by rfl) T.g_ways_behind T.F_ways_behind.kp T.b_ways_behind .nil pass0 (pa_cons (pe_op op_sub (pe_op op_sub (pv 0) (pe_callB call_len_seq (by rfl) T.m_len (by decide +kernel) (pa_cons (pv 3) pa_nil))) pe_int) (pa_cons (pv 3) (pa_cons (pv 2) pa_nil)))))
        (pss_one (ps_if (pt_cmpR op_lt (pv 4) (pv 5) (nomark _))
          (pss_one (ps_expr (pe_bm PySem.F.plainAttrs_list PySem.F.slot_list_append PySem.F.type_list_append mt_append (pv 3) (pa_cons pe_int pa_nil))))
          (pss_cons (ps_expr (pe_bm PySem.F.plainAttrs_list PySem.F.slot_list_append PySem.F.type_list_append mt_append (pv 3) (pa_cons pe_int pa_nil)))
          (pss_one (ps_aug (i := 4) sc_line_rest.nd rfl (.inl rfl) (pv 5) ip_sub)))))))
      (pss_one (ps_ret (pe_callTy call_tupleF (by rfl) T.m_tuple (by decide +kernel) (pa_cons (pv 3) pa_nil)))))))), ?_⟩
    refine ⟨.int k, rfl, _, _, rfl, rfl, _, rfl, iteP (decide_eq_true (by omega)) ?_⟩
    refine ⟨.int n, rfl, .bl ring, rfl, rfl, rfl, n, ring, rfl, n0, n1, _, _, rfl, rfl, _, rfl, iteN (by rw [decide_eq_true (by omega)]; rfl) ?_⟩
    refine ⟨Nat.zero_le _, fun R nR => ⟨_, rfl, ?_⟩⟩
    refine while_idx n (fun r σ H3 => ∃ (pre : List Int) (a : Nat) (y5 : Option V), σ = [some (.int n), some (.int k), some (.bl ring), some (.ref R), some (.int a), y5] ∧ Same H H3 ∧ H3 R = some (.lst (pre.map V.int)) ∧ pre.length = r ∧ r ≤ n ∧ decP ring (n - r) pre a = rowK ring n k) ⟨[], k, none, rfl, same_upd nR, upd_same, rfl, Nat.zero_le _, rfl⟩ ?_ ?_
    · rintro r σ H3 ⟨pre, a, y5, rfl, s3, h3, lr, rn, ed⟩
      refine ⟨.ref R, rfl, R, _, rfl, .inl (.inl (.inl h3)), .int n, rfl, _, _, rfl, rfl, _, rfl, ite2 (fun z => ?_) (fun z => ?_)⟩
      · have z' : ((pre.map V.int).length : Int) < n := of_decide_eq_true z
        rw [List.length_map] at z'
        have rl : r < n := by omega
        refine ⟨rl, ?_⟩
        obtain ⟨m, em⟩ : ∃ m, n - r = m + 1 := ⟨n - r - 1, by omega⟩
        rw [em] at ed
        refine ⟨.int n, rfl, .ref R, rfl, R, _, rfl, .inl (.inl (.inl h3)), _, _, rfl, rfl, _, _, rfl, rfl, .ref R, rfl, .bl ring, rfl, m + 1, R, ring, pre, ?_, by omega, h3, fun H4 s4 => ?_⟩
        · rw [List.length_map]
          show [V.int ((n : Int) - (pre.length : Int) - 1), V.ref R, V.bl ring] = [V.int (((m + 1 : Nat) : Int) - 1), V.ref R, V.bl ring]
          rw [show (n : Int) - (pre.length : Int) - 1 = ((m + 1 : Nat) : Int) - 1 by omega]
        have h4 := s4 _ _ h3
        rw [decP_succ] at ed
        refine ⟨.int a, rfl, _, rfl, _, _, rfl, rfl, _, rfl, ite2 (fun z2 => ?_) (fun z2 => ?_)⟩
        · have z2' : (a : Int) < (fb (m + 1 + exE ring pre) : Nat) := of_decide_eq_true z2
          rw [if_pos (by omega)] at ed
          refine ⟨.ref R, rfl, .inl ⟨rfl, _, .inl (.inl h4)⟩, R, _, _, rfl, rfl, h4, by rw [List.length_map]; exact small1000 (by omega), ?_⟩
          refine ⟨pre ++ [0], a, _, rfl, same_mut (s3.trans s4) nR, by rw [upd_same, List.map_append]; rfl, by rw [List.length_append, lr]; rfl, rl, ?_⟩
          rw [show n - (r + 1) = m by omega]
          exact ed
        · have z2' : ¬ (a : Int) < (fb (m + 1 + exE ring pre) : Nat) := fun y => z2 (decide_eq_true y)
          rw [if_neg (by omega)] at ed
          refine ⟨.ref R, rfl, .inl ⟨rfl, _, .inl (.inl h4)⟩, R, _, _, rfl, rfl, h4, by rw [List.length_map]; exact small1000 (by omega), ?_⟩
          refine ⟨_, rfl, _, rfl, _, _, rfl, rfl, ?_⟩
          refine ⟨pre ++ [1], a - fb (m + 1 + exE ring pre), some (.int (fb (m + 1 + exE ring pre) : Nat)), ?_, same_mut (s3.trans s4) nR, by rw [upd_same, List.map_append]; rfl, by rw [List.length_append, lr]; rfl, rl, ?_⟩
          · rw [show ((a - fb (m + 1 + exE ring pre) : Nat) : Int) = (a : Int) - (fb (m + 1 + exE ring pre) : Nat) by omega]
            rfl
          · rw [show n - (r + 1) = m by omega]
            exact ed
      · have z' : ¬ ((pre.map V.int).length : Int) < n := fun y => z (decide_eq_true y)
        rw [List.length_map] at z'
        rw [show n - r = 0 by omega] at ed
        have ed : pre = rowK ring n k := ed
        subst ed
        refine ⟨.ref R, rfl, ?_⟩
        refine ⟨R, _, rfl, .inl (.inl h3), fun t o nt od => q t _ (s3.trans (same_upd nt)) (.inr ⟨o, od, upd_same⟩)⟩
    · intro σ H3 Q1 Q2 hQ h
      obtain ⟨v, h1, a, xs, e, hs, u, h2, i, j, e1, e2, k, e3, h3⟩ := h
      exact ⟨v, h1, a, xs, e, hs, u, h2, i, j, e1, e2, k, e3, hQ _ _ h3⟩
def spLineNumber : Sp := fun vs H Q _ => ∃ (t : Addr) (ring : Bool) (row : List Int), vs = [.ref t, .bl ring] ∧ row.length ≤ 100 ∧ TupAt H t (row.map V.int) ∧ ∀ H' : Hp, Same H H' → Q (.int (numP ring [] row : Nat)) H'
set_option maxHeartbeats 2000000 in
theorem ok_line_number (T : Txt K mg w) : FnOk P w K mg base CX0 3 T.f_line_number T.fd_line_number p_line_number spLineNumber := by
  have G_ways_behind := ok_ways_behindT (P := P) (w := w) (base := base) T
  refine T.F_line_number.ok sc_line_number (fun vs H Q E h => ?_) (fun cdv A outer s H vs Q E hr h => ?_)
  · obtain ⟨t, ring, row, rfl, _⟩ := h
    rfl
  · obtain ⟨t, ring, row, rfl, n1, hS, q⟩ := h
    refine ⟨_, PSs.nox (pss_cons (ps_set (i := 2) sc_line_number.nd rfl (.inl rfl) pe_int)
      (pss_cons (ps_for PassesOwn.never rfl (pi_enumT (by rfl) T.m_enumerate (pa_cons (pv 0) pa_nil)) (pg_tup rfl (pgs_cons (pg_name (i := 3) sc_line_number.nd rfl (.inl rfl)) (pgs_cons (pg_name (i := 4) sc_line_number.nd rfl (.inl rfl)) pgs_nil)))
        (pss_one (ps_if (pt_cmpR op_eq (pv 4) pe_int (nomark _))
          (pss_one (ps_aug (i := 2) sc_line_number.nd rfl (.inl rfl) (pe_call G_ways_behind (hr.mono (by decide)) (by rfl) T.g_ways_behind T.F_ways_behind.kp T.b_ways_behind .nil pass0 (pa_cons (pe_op op_sub (pe_op op_sub (pe_callB call_len_seq (by rfl) T.m_len (by decide +kernel) (pa_cons (pv 0) pa_nil)) (pv 3)) pe_int) (pa_cons (pe_slice sl_tupA (pv 0) po_none (po_some (pv 3))) (pa_cons (pv 1) pa_nil)))) ip_add))
          pss_nil)))
      (pss_one (ps_ret (pv 2))))), ?_⟩
    refine ⟨.ref t, rfl, t, _, rfl, hS.sq, ?_⟩
    refine for_it (walk_enumT (xs := row.map V.int)) (fun i σ H3 => ∃ (a : Nat) (y3 y4 : Option V), σ = [some (.ref t), some (.bl ring), some (.int a), y3, y4] ∧ Same H H3 ∧ a + numP ring (row.take i) (row.drop i) = numP ring [] row) ⟨0, none, none, rfl, Same.refl H, Nat.zero_add _⟩ ?_ ?_ ?_
    · rintro i σ H3 _ ⟨a, y3, y4, rfl, s3, _⟩
      exact (hS.keep (Keep.same s3)).sq
    · rintro i y σ H3 H4 hi ⟨a, y3, y4, rfl, s3, ed⟩ ⟨u, x1, x2, rfl, nu, rfl, e1, e2⟩
      rw [List.length_map] at hi
      have q1 : x1 = .int (i : Nat) := (Option.some.inj e1).symm
      have q2 : x2 = .int row[i] := by
        have e2' : (row.map V.int)[i]? = some x2 := e2
        rw [List.getElem?_map, List.getElem?_eq_getElem hi] at e2'
        exact (Option.some.inj e2').symm
      subst q1 q2
      have sU := same_upd (o := .tup [.int (i : Nat), .int row[i]]) nu
      have s4 := s3.trans sU
      have edr : row.drop i = row[i] :: row.drop (i + 1) := List.drop_eq_getElem_cons hi
      have ett : row.take (i + 1) = row.take i ++ [row[i]] := List.take_succ_eq_append_getElem hi
      rw [edr, numP_cons, ← ett, List.length_drop] at ed
      refine ⟨u, _, rfl, .inl (.inl upd_same), rfl, _, _, rfl, _, _, rfl, rfl, ?_⟩
      refine ⟨.int row[i], rfl, rfl, _, rfl, ite2 (fun z => ?_) (fun z => ?_)⟩
      · have z' : row[i] = 1 := by simpa using z
        rw [if_pos z'] at ed
        have hS4 := hS.keep (Keep.same s4)
        refine ⟨.int a, rfl, .ref t, rfl, t, _, rfl, .inr hS4.sq, .int (i : Nat), rfl, _, _, rfl, rfl, _, _, rfl, rfl, .ref t, rfl, ?_⟩
        dsimp only [tNoPart]
        refine ⟨.int (i : Nat), rfl, _, rfl, ?_⟩
        refine sl_tup_use hS4 fun c Hc sc hc => ?_
        rw [cutI_map, cut_to _ _ (by omega)] at hc
        refine ⟨.bl ring, rfl, row.length - i, c, ring, row.take i, ?_, by omega, hc, fun H5 s5 => ?_⟩
        · rw [List.length_map]
          show [V.int ((row.length : Int) - (i : Int) - 1), V.ref c, V.bl ring] = [V.int (((row.length - i : Nat) : Int) - 1), V.ref c, V.bl ring]
          rw [show (row.length : Int) - (i : Int) - 1 = ((row.length - i : Nat) : Int) - 1 by omega]
        refine ⟨_, _, rfl, rfl, ?_⟩
        refine ⟨a + fb (row.length - i + exE ring (row.take i)), some (.int (i : Nat)), some (.int row[i]), ?_, (s4.trans sc).trans s5, ?_⟩
        · rw [Int.natCast_add]; rfl
        · rw [show row.length - (i + 1) + 1 = row.length - i by omega] at ed
          omega
      · have z' : ¬ row[i] = 1 := by simpa using z
        rw [if_neg z', Nat.zero_add] at ed
        exact ⟨a, _, _, rfl, s4, ed⟩
    · rintro σ H3 ⟨a, y3, y4, rfl, s3, ed⟩
      refine ⟨_, rfl, ?_⟩
      rw [List.length_map, List.drop_length] at ed
      have ed : a + 0 = numP ring [] row := ed
      have := q H3 s3
      rw [← ed] at this
      exact this
end
end Lh

namespace Lh
open PySem PySem.Spec PyProof.Rows L2
theorem okD_ints {n : Nat} {ns : List Int} (h : ns.length ≤ 8388608) : okD (n + 1) (.tuple (ns.map PyData.int)) := by
  refine ⟨by rw [List.length_map]; exact h, fun d hd => ?_⟩
  obtain ⟨x, _, rfl⟩ := List.mem_map.mp hd
  cases n <;> trivial
def wayD (nss : List (List Int)) : PyData := .list (nss.map fun ms => .tuple (ms.map PyData.int))
theorem okD_way {n : Nat} {nss : List (List Int)} (h : nss.length ≤ 8388608) (h2 : ∀ ms ∈ nss, ms.length ≤ 8388608) : okD (n + 2) (wayD nss) := by
  refine ⟨by rw [List.length_map]; exact h, fun d hd => ?_⟩
  obtain ⟨x, hx, rfl⟩ := List.mem_map.mp hd
  exact okD_ints (h2 x hx)
theorem tup_nb {bx : Addr} {c : Int} {H : Hp} {t : Addr} {xs : List V} (b : Box bx c H) (h : TupAt H t xs) : t ≠ bx := by
  obtain ⟨_, _, _, hb, _⟩ := b
  rcases h with h | ⟨o, _, h⟩
  · exact ne_of h hb (by intro z; cases z)
  · exact ne_of h hb (by intro z; cases z)
theorem StandsAt.rp {bx : Addr} {c : Int} {H : Hp} (b : Box bx c H) : ∀ {vs : List V} {nss : List (List Int)}, StandsAt H vs nss → RpAll bx H vs (nss.map fun ms => .tuple (ms.map PyData.int))
  | _, _, .nil => .nil
  | _, _, .cons ⟨t, e, h⟩ r => by
    subst e
    exact .cons (.tup h (tup_nb b h) (RpAll.ints _)) (StandsAt.rp b r)
theorem StandsAt.drop {H : Hp} : ∀ {vs : List V} {nss : List (List Int)} (k : Nat), StandsAt H vs nss → StandsAt H (vs.drop k) (nss.drop k)
  | _, _, 0, h => h
  | _, _, k + 1, .nil => .nil
  | _, _, k + 1, .cons _ r => StandsAt.drop k r
theorem StandsAt.take {H : Hp} : ∀ {vs : List V} {nss : List (List Int)} (k : Nat), StandsAt H vs nss → StandsAt H (vs.take k) (nss.take k)
  | _, _, 0, h => .nil
  | _, _, k + 1, .nil => .nil
  | _, _, k + 1, .cons h r => .cons h (StandsAt.take k r)
/-- what stands while a hall is asked -/
structure F7 (C bx : Addr) (c : Int) (H0 : Hp) (l x t : Addr) (us : List V) (rs : List Rule) (ns : List Int) (Hk : Hp) : Prop where
  e : Ext bx H0 Hk
  b : Box bx c Hk
  hl : Hk l = some (.lst us)
  ra : RulesAt Hk us rs
  hA : HallAt C Hk x rs
  hS : TupAt Hk t (ns.map V.int)
theorem F7.same {C bx : Addr} {c : Int} {H0 : Hp} {l x t : Addr} {us : List V} {rs : List Rule} {ns : List Int} {Hk H' : Hp} (f : F7 C bx c H0 l x t us rs ns Hk) (s : Same Hk H') : F7 C bx c H0 l x t us rs ns H' :=
  ⟨f.e.trans (Ext.of s), f.b.same s, s _ _ f.hl, f.ra.keep (Keep.same s), f.hA.keep s, f.hS.keep (Keep.same s)⟩
theorem F7.draw {C bx : Addr} {c c' : Int} {H0 : Hp} {l x t : Addr} {us : List V} {rs : List Rule} {ns : List Int} {Hk H' : Hp} (f : F7 C bx c H0 l x t us rs ns Hk) (nl : l ≠ bx) (e : Ext bx Hk H') (b : Box bx c' H') : F7 C bx c' H0 l x t us rs ns H' :=
  ⟨f.e.trans e, b, e _ _ nl f.hl, f.ra.keep (Keep.ext e f.b), f.hA.ext e f.b, f.hS.keep (Keep.ext e f.b)⟩
theorem F7.lst {C bx : Addr} {c : Int} {H0 : Hp} {l x t d : Addr} {us ys zs : List V} {rs : List Rule} {ns : List Int} {Hk : Hp} (f : F7 C bx c H0 l x t us rs ns Hk) (hd : Hk d = some (.lst ys)) (n1 : d ≠ bx) (n2 : l ≠ d) (n0 : H0 d = none) : F7 C bx c H0 l x t us rs ns (upd Hk d (.lst zs)) := by
  have kT := keep_lst (ys := zs) hd
  refine ⟨f.e.new n0, f.b.at n1, by rw [upd_ne n2]; exact f.hl, f.ra.keep kT, ?_, f.hS.keep kT⟩
  obtain ⟨dx, t', vs, h1, h2, h3⟩ := f.hA
  refine ⟨dx, t', vs, ?_, h2.keep kT, h3.keep kT⟩
  rw [upd_ne (ne_of h1 hd (by intro z; cases z))]
  exact h1
def tupD (ms : List Int) : PyData := .tuple (ms.map PyData.int)
theorem TupAt.rpI {bx : Addr} {c : Int} {H : Hp} (b : Box bx c H) {t : Addr} {ms : List Int} (h : TupAt H t (ms.map V.int)) : Rp bx H (.ref t) (tupD ms) := .tup h (tup_nb b h) (RpAll.ints _)
theorem okD_tups {n : Nat} {ds : List (List Int)} (h : ds.length ≤ 8388608) (h2 : ∀ ms ∈ ds, ms.length ≤ 8388608) : okD (n + 2) (.list (ds.map tupD)) := okD_way h h2
theorem okD_intsL {n : Nat} {ns : List Int} (h : ns.length ≤ 8388608) : okD (n + 1) (.list (ns.map PyData.int)) := by
  refine ⟨by rw [List.length_map]; exact h, fun d hd => ?_⟩
  obtain ⟨x, _, rfl⟩ := List.mem_map.mp hd
  cases n <;> trivial
def spRight : Sp := fun vs H Q _ => ∃ bx : Addr, vs = [.ref bx] ∧ Box bx 0 H ∧ ∀ H', Ext bx H H' → Q (.bl true) H'
end Lh

namespace Lh
open PySem PySem.Spec PyProof.Rows L2
section
variable {P : Program} {w : World} {K : PySem.W.Frag} {mg : Str → Option Value} {base : Heap}
def spSame : Nat → Sp
  | 0 => fun _ _ _ _ => False
  | n + 1 => fun vs H Q _ => ∃ (bx : Addr) (v u : V) (d : PyData), vs = [v, u] ∧ Rp bx H v d ∧ Rp bx H u d ∧ okD n d ∧ ∀ H', Same H H' → Q (.bl true) H'
theorem ok_same (T : Txt K mg w) : ∀ n, FnOk P w K mg base CX0 n T.f_same T.fd_same p_same (spSame n)
  | 0 => ⟨fun _ _ _ _ h => h.elim, fun _ _ _ _ _ _ _ _ _ _ _ _ _ h => h.elim⟩
  | n + 1 => by
    have G_same : FnOk P w K mg base CX0 n T.f_same T.fd_same p_same (spSame n) := ok_same T n
    refine T.F_same.ok sc_same (fun vs H Q E h => ?_) (fun cdv A outer s H vs Q E hr h => ?_)
    · obtain ⟨bx, v, u, d, rfl, _⟩ := h
      rfl
    · obtain ⟨bx, v, u, d, rfl, hv, hu, hd, q⟩ := h
      refine ⟨_, (pss_cons (ps_if (pt_val (pe_callB call_isiT (by rfl) T.m_isinstance (by decide +kernel) (pa_cons (pv 1) (pa_cons (pe_tup (pa_cons (pe_bltn (v := .ty "list") (by rfl) T.m_list (by decide +kernel) rfl) (pa_cons (pe_bltn (v := .ty "tuple") (by rfl) T.m_tuple (by decide +kernel) rfl) pa_nil))) pa_nil))))
        (pss_cons (ps_if (PW.pt (pw_or (pt_cmpR op_ne (pe_callB call_isi (by rfl) T.m_isinstance (by decide +kernel) (pa_cons (pv 0) (pa_cons (pe_bltn (v := .ty "list") (by rfl) T.m_list (by decide +kernel) rfl) pa_nil))) (pe_callB call_isi (by rfl) T.m_isinstance (by decide +kernel) (pa_cons (pv 1) (pa_cons (pe_bltn (v := .ty "list") (by rfl) T.m_list (by decide +kernel) rfl) pa_nil))) (nomark _)) (pw_or1 (pt_cmpR op_ne (pe_callB call_isi (by rfl) T.m_isinstance (by decide +kernel) (pa_cons (pv 0) (pa_cons (pe_bltn (v := .ty "tuple") (by rfl) T.m_tuple (by decide +kernel) rfl) pa_nil))) (pe_callB call_isi (by rfl) T.m_isinstance (by decide +kernel) (pa_cons (pv 1) (pa_cons (pe_bltn (v := .ty "tuple") (by rfl) T.m_tuple (by decide +kernel) rfl) pa_nil))) (nomark _)))))
          (pss_one (ps_ret pe_bl))
          pss_nil)
        (pss_one (ps_ret (pe_and (pe_cmpR op_eq (pe_callB call_len_seq (by rfl) T.m_len (by decide +kernel) (pa_cons (pv 0) pa_nil)) (pe_callB call_len_seq (by rfl) T.m_len (by decide +kernel) (pa_cons (pv 1) pa_nil)) (nomark _)) (pe_one (pe_callB (cr_all rfl) (by rfl) T.m_all (by decide +kernel) (pa_cons (pe_lc (own := [("_law_one", 2), ("_law_two", 3)]) (g := gTup K 2 (gCons (gName 2) (gCons (gName 3) gNil))) (by rfl) sc_same.nd (RZ.pi_zipA (by rfl) T.m_zip (pa_cons (pv 0) (pa_cons (pv 1) pa_nil))) (blkOk_by (own := [("_law_one", 2), ("_law_two", 3)]) (N := n_same) (sc := defScope s_same) (by decide +kernel)) (fun _ _ _ _ _ => (pg_tup rfl (pgs_cons (pg_name (i := 2) sc_same.nd rfl (.inl rfl) (.inr rfl)) (pgs_cons (pg_name (i := 3) sc_same.nd rfl (.inl rfl) (.inr rfl)) pgs_nil)))) (fun _ _ _ _ _ => pts_nil) (fun _ _ _ _ _ => (pe_call G_same hr (by rfl) T.g_same T.F_same.kp T.b_same .nil pass0 (pa_cons (pv 2) (pa_cons (pv 3) pa_nil))))) pa_nil)))))))
        pss_nil)
      (pss_cons (ps_if (PW.pt (pw_or (pt_cmpR op_isN (pv 1) pe_non (nomark _)) (pw_or1 (pt_cmpR op_isN (pv 0) pe_non (nomark _)))))
        (pss_one (ps_ret (pe_and (pe_cmpR op_isN (pv 1) pe_non (nomark _)) (pe_one (pe_cmpR op_isN (pv 0) pe_non (nomark _))))))
        pss_nil)
      (pss_cons (ps_if (PW.pt (pw_or (pt_val (pe_callB call_isi (by rfl) T.m_isinstance (by decide +kernel) (pa_cons (pv 1) (pa_cons (pe_bltn (v := .ty "bool") (by rfl) T.m_bool (by decide +kernel) rfl) pa_nil)))) (pw_or1 (pt_val (pe_callB call_isi (by rfl) T.m_isinstance (by decide +kernel) (pa_cons (pv 1) (pa_cons (pe_bltn (v := .ty "str") (by rfl) T.m_str (by decide +kernel) rfl) pa_nil)))))))
        (pss_one (ps_ret (pe_and (pe_cmpR op_eq (pe_callB call_isi (by rfl) T.m_isinstance (by decide +kernel) (pa_cons (pv 0) (pa_cons (pe_bltn (v := .ty "bool") (by rfl) T.m_bool (by decide +kernel) rfl) pa_nil))) (pe_callB call_isi (by rfl) T.m_isinstance (by decide +kernel) (pa_cons (pv 1) (pa_cons (pe_bltn (v := .ty "bool") (by rfl) T.m_bool (by decide +kernel) rfl) pa_nil))) (nomark _)) (pe_one (pe_cmpR op_eq (pv 0) (pv 1) (nomark _))))))
        pss_nil)
      (pss_one (ps_ret (pe_and (pe_callB call_isi (by rfl) T.m_isinstance (by decide +kernel) (pa_cons (pv 0) (pa_cons (pe_bltn (v := .ty "int") (by rfl) T.m_int (by decide +kernel) rfl) pa_nil))) (pe_and (pe_not (pe_callB call_isi (by rfl) T.m_isinstance (by decide +kernel) (pa_cons (pv 0) (pa_cons (pe_bltn (v := .ty "bool") (by rfl) T.m_bool (by decide +kernel) rfl) pa_nil)))) (pe_one (pe_cmpR op_eq (pv 0) (pv 1) (nomark _)))))))))), ?_⟩
      have ty : ∀ {H' : Hp} {x : V}, Same H H' → Rp bx H x d → TyX K H' x (.type (tyD d)) := fun s h => (h.ext (Ext.of s)).ty
      have sz : ∀ {m : Nat}, m ≤ 8388608 → m < sizeLine := fun h => Nat.lt_of_le_of_lt h (by decide)
      cases d with
      | none =>
        cases hv
        cases hu
        refine rd_isi2 (x := .non) (T := "NoneType") rfl (.base .non) (by decide +kernel : kitB "NoneType" "list" = some false) (by decide +kernel : kitB "NoneType" "tuple" = some false) (fun p hp => ?_) (fun p hp => .base .non)
        refine ⟨_, rfl, iteN rfl ?_⟩
        refine ⟨.non, rfl, rfl, _, rfl, iteP (decide_eq_true rfl) (iteP rfl ?_)⟩
        refine ⟨.non, rfl, rfl, _, rfl, iteP (decide_eq_true rfl) ?_⟩
        exact ⟨.non, rfl, rfl, blT (decide_eq_true rfl) (q _ (same_upd hp))⟩
      | bool b =>
        cases hv
        cases hu
        refine rd_isi2 (x := .bl b) (T := "bool") rfl (.base (.bl b)) (by decide +kernel : kitB "bool" "list" = some false) (by decide +kernel : kitB "bool" "tuple" = some false) (fun p hp => ?_) (fun p hp => .base (.bl b))
        refine ⟨_, rfl, iteN rfl ?_⟩
        refine ⟨.bl b, rfl, rfl, _, rfl, iteN (decide_eq_false (by intro z; cases z)) ⟨.bl b, rfl, rfl, _, rfl, iteN (decide_eq_false (by intro z; cases z)) ?_⟩⟩
        refine rd_isi (x := .bl b) (T := "bool") rfl (.base (.bl b)) (by decide +kernel : kitB "bool" "bool" = some true) ⟨_, rfl, iteP rfl (iteP rfl ?_)⟩
        refine rd_isi (x := .bl b) (T := "bool") rfl (.base (.bl b)) (by decide +kernel : kitB "bool" "bool" = some true) ?_
        refine rd_isi (x := .bl b) (T := "bool") rfl (.base (.bl b)) (by decide +kernel : kitB "bool" "bool" = some true) ⟨rfl, _, rfl, iteP (decide_eq_true rfl) ?_⟩
        exact ⟨.bl b, rfl, .bl b, rfl, rfl, blT (decide_eq_true rfl) (q _ (same_upd hp))⟩
      | int i =>
        cases hv
        cases hu
        refine rd_isi2 (x := .int i) (T := "int") rfl (.base (.int i)) (by decide +kernel : kitB "int" "list" = some false) (by decide +kernel : kitB "int" "tuple" = some false) (fun p hp => ?_) (fun p hp => .base (.int i))
        refine ⟨_, rfl, iteN rfl ?_⟩
        refine ⟨.int i, rfl, rfl, _, rfl, iteN (decide_eq_false (by intro z; cases z)) ⟨.int i, rfl, rfl, _, rfl, iteN (decide_eq_false (by intro z; cases z)) ?_⟩⟩
        refine rd_isi (x := .int i) (T := "int") rfl (.base (.int i)) (by decide +kernel : kitB "int" "bool" = some false) ⟨_, rfl, iteN rfl ?_⟩
        refine rd_isi (x := .int i) (T := "int") rfl (.base (.int i)) (by decide +kernel : kitB "int" "str" = some false) ⟨_, rfl, iteN rfl ?_⟩
        refine rd_isi (x := .int i) (T := "int") rfl (.base (.int i)) (by decide +kernel : kitB "int" "int" = some true) ⟨_, rfl, iteP rfl ?_⟩
        refine rd_isi (x := .int i) (T := "int") rfl (.base (.int i)) (by decide +kernel : kitB "int" "bool" = some false) ⟨_, rfl, _, rfl, iteP rfl ?_⟩
        exact ⟨.int i, rfl, .int i, rfl, rfl, blT (decide_eq_true rfl) (q _ (same_upd hp))⟩
      | str x =>
        cases hv
        cases hu
        refine rd_isi2 (x := .str x) (T := "str") rfl (.base (.str x)) (by decide +kernel : kitB "str" "list" = some false) (by decide +kernel : kitB "str" "tuple" = some false) (fun p hp => ?_) (fun p hp => .base (.str x))
        refine ⟨_, rfl, iteN rfl ?_⟩
        refine ⟨.str x, rfl, rfl, _, rfl, iteN (decide_eq_false (by intro z; cases z)) ⟨.str x, rfl, rfl, _, rfl, iteN (decide_eq_false (by intro z; cases z)) ?_⟩⟩
        refine rd_isi (x := .str x) (T := "str") rfl (.base (.str x)) (by decide +kernel : kitB "str" "bool" = some false) ⟨_, rfl, iteN rfl ?_⟩
        refine rd_isi (x := .str x) (T := "str") rfl (.base (.str x)) (by decide +kernel : kitB "str" "str" = some true) ⟨_, rfl, iteP rfl ?_⟩
        refine rd_isi (x := .str x) (T := "str") rfl (.base (.str x)) (by decide +kernel : kitB "str" "bool" = some false) ?_
        refine rd_isi (x := .str x) (T := "str") rfl (.base (.str x)) (by decide +kernel : kitB "str" "bool" = some false) ⟨rfl, _, rfl, iteP (decide_eq_true rfl) ?_⟩
        exact ⟨.str x, rfl, .str x, rfl, rfl, blT (decide_eq_true rfl) (q _ (same_upd hp))⟩
      | list ds =>
        cases n with
        | zero => exact hd.elim
        | succ n =>
        obtain ⟨hlen, hds⟩ := hd
        refine rd_isi2 (x := u) (T := "list") rfl hu.ty (by decide +kernel : kitB "list" "list" = some true) (by decide +kernel : kitB "list" "tuple" = some false) (fun p hp => ?_) (fun p hp => ty (same_upd hp) hu)
        have s1 := same_upd (o := .tup [.ty "list", .ty "tuple"]) hp
        refine ⟨_, rfl, iteP rfl ?_⟩
        refine rd_isi (x := v) (T := "list") rfl (ty s1 hv) (by decide +kernel : kitB "list" "list" = some true) ?_
        refine rd_isi (x := u) (T := "list") rfl (ty s1 hu) (by decide +kernel : kitB "list" "list" = some true) ⟨rfl, _, rfl, iteN rfl ?_⟩
        refine rd_isi (x := v) (T := "list") rfl (ty s1 hv) (by decide +kernel : kitB "list" "tuple" = some false) ?_
        refine rd_isi (x := u) (T := "list") rfl (ty s1 hu) (by decide +kernel : kitB "list" "tuple" = some false) ⟨rfl, _, rfl, iteN rfl ?_⟩
        have hv1 := hv.ext (Ext.of s1)
        have hu1 := hu.ext (Ext.of s1)
        generalize hH1 : upd H p (.tup [.ty "list", .ty "tuple"]) = H1 at *
        cases hv1 with
        | @lst a xs _ ha na rx =>
        cases hu1 with
        | @lst b ys _ hb nb ry =>
        have ex : xs.length = ds.length := rx.length
        have ey : ys.length = ds.length := ry.length
        refine ⟨.ref a, rfl, a, _, rfl, .inl (.inl (.inl ha)), .ref b, rfl, b, _, rfl, .inl (.inl (.inl hb)), rfl, _, rfl, iteP (decide_eq_true (by rw [ex, ey])) ?_⟩
        refine ⟨.ref a, rfl, .ref b, rfl, a, b, xs, ys, rfl, .inl ⟨.inl (.inl ha), .inl (.inl hb), fun D hD => ?_⟩⟩
        refine lc_it (walk_zip (xs := xs) (ys := ys) (n := ds.length) (by rw [ex, ey, Nat.min_self])) (fun i H3 => Same H1 H3 ∧ H3 D = some (.lst (List.replicate i (.bl true)))) ⟨same_upd hD, upd_same⟩ ?_ ?_ ?_
        · rintro i H3 _ ⟨sm, _⟩
          exact ⟨.inl (.inl (sm _ _ ha)), .inl (.inl (sm _ _ hb))⟩
        · rintro i x H3 H4 hi ⟨sm, hD3⟩ ⟨t, x1, x2, rfl, nt, rfl, e1, e2⟩
          have sT := same_upd (o := .tup [x1, x2]) nt
          refine ⟨t, _, rfl, .inl (.inl upd_same), rfl, _, _, rfl, _, _, rfl, rfl, rfl, yes (iteT ?_)⟩
          obtain ⟨z1, f1, r1⟩ := rx.get (List.getElem?_eq_getElem hi)
          obtain ⟨z2, f2, r2⟩ := ry.get (List.getElem?_eq_getElem hi)
          have g1 : x1 = z1 := Option.some.inj (e1.symm.trans f1)
          have g2 : x2 = z2 := Option.some.inj (e2.symm.trans f2)
          subst g1 g2
          refine ⟨x1, rfl, x2, rfl, bx, x1, x2, ds[i], rfl, r1.ext (Ext.of (sm.trans sT)), r2.ext (Ext.of (sm.trans sT)), hds _ (List.getElem_mem hi), fun H5 s5 => ?_⟩
          refine ⟨_, s5 _ _ (sT _ _ hD3), by rw [List.length_replicate]; exact sz (by omega), same_mut (sm.trans (sT.trans s5)) hD, ?_⟩
          rw [upd_same, List.replicate_succ']
        · rintro H3 ⟨sm, hD3⟩
          refine ⟨D, List.replicate ds.length true, rfl, .inl (.inl (by rw [hD3, List.map_replicate])), blT ?_ (q _ (s1.trans sm))⟩
          rw [List.all_eq_true]
          intro z hz
          rw [List.eq_of_mem_replicate hz]
          rfl
      | tuple ds =>
        cases n with
        | zero => exact hd.elim
        | succ n =>
        obtain ⟨hlen, hds⟩ := hd
        refine rd_isi2 (x := u) (T := "tuple") rfl hu.ty (by decide +kernel : kitB "tuple" "list" = some false) (by decide +kernel : kitB "tuple" "tuple" = some true) (fun p hp => ?_) (fun p hp => ty (same_upd hp) hu)
        have s1 := same_upd (o := .tup [.ty "list", .ty "tuple"]) hp
        refine ⟨_, rfl, iteP rfl ?_⟩
        refine rd_isi (x := v) (T := "tuple") rfl (ty s1 hv) (by decide +kernel : kitB "tuple" "list" = some false) ?_
        refine rd_isi (x := u) (T := "tuple") rfl (ty s1 hu) (by decide +kernel : kitB "tuple" "list" = some false) ⟨rfl, _, rfl, iteN rfl ?_⟩
        refine rd_isi (x := v) (T := "tuple") rfl (ty s1 hv) (by decide +kernel : kitB "tuple" "tuple" = some true) ?_
        refine rd_isi (x := u) (T := "tuple") rfl (ty s1 hu) (by decide +kernel : kitB "tuple" "tuple" = some true) ⟨rfl, _, rfl, iteN rfl ?_⟩
        have hv1 := hv.ext (Ext.of s1)
        have hu1 := hu.ext (Ext.of s1)
        generalize hH1 : upd H p (.tup [.ty "list", .ty "tuple"]) = H1 at *
        cases hv1 with
        | @tup a xs _ ha na rx =>
        cases hu1 with
        | @tup b ys _ hb nb ry =>
        have ex : xs.length = ds.length := rx.length
        have ey : ys.length = ds.length := ry.length
        refine ⟨.ref a, rfl, a, _, rfl, .inr ha.sq, .ref b, rfl, b, _, rfl, .inr hb.sq, rfl, _, rfl, iteP (decide_eq_true (by rw [ex, ey])) ?_⟩
        refine ⟨.ref a, rfl, .ref b, rfl, a, b, xs, ys, rfl, .inr ⟨ha.sq, hb.sq, fun D hD => ?_⟩⟩
        refine lc_it (walk_zipT (xs := xs) (ys := ys) (n := ds.length) ex ey) (fun i H3 => Same H1 H3 ∧ H3 D = some (.lst (List.replicate i (.bl true)))) ⟨same_upd hD, upd_same⟩ ?_ ?_ ?_
        · rintro i H3 _ ⟨sm, _⟩
          exact ⟨(ha.ext (Ext.of (bx := bx) sm) na).sq, (hb.ext (Ext.of (bx := bx) sm) nb).sq⟩
        · rintro i x H3 H4 hi ⟨sm, hD3⟩ ⟨t, x1, x2, rfl, nt, rfl, e1, e2⟩
          have sT := same_upd (o := .tup [x1, x2]) nt
          refine ⟨t, _, rfl, .inl (.inl upd_same), rfl, _, _, rfl, _, _, rfl, rfl, rfl, yes (iteT ?_)⟩
          obtain ⟨z1, f1, r1⟩ := rx.get (List.getElem?_eq_getElem hi)
          obtain ⟨z2, f2, r2⟩ := ry.get (List.getElem?_eq_getElem hi)
          have g1 : x1 = z1 := Option.some.inj (e1.symm.trans f1)
          have g2 : x2 = z2 := Option.some.inj (e2.symm.trans f2)
          subst g1 g2
          refine ⟨x1, rfl, x2, rfl, bx, x1, x2, ds[i], rfl, r1.ext (Ext.of (sm.trans sT)), r2.ext (Ext.of (sm.trans sT)), hds _ (List.getElem_mem hi), fun H5 s5 => ?_⟩
          refine ⟨_, s5 _ _ (sT _ _ hD3), by rw [List.length_replicate]; exact sz (by omega), same_mut (sm.trans (sT.trans s5)) hD, ?_⟩
          rw [upd_same, List.replicate_succ']
        · rintro H3 ⟨sm, hD3⟩
          refine ⟨D, List.replicate ds.length true, rfl, .inl (.inl (by rw [hD3, List.map_replicate])), blT ?_ (q _ (s1.trans sm))⟩
          rw [List.all_eq_true]
          intro z hz
          rw [List.eq_of_mem_replicate hz]
          rfl
      | dict kvs => cases hv
end
end Lh

namespace Lh
open PySem PySem.Spec PyProof.Rows L2
theorem at_of {us : List V} {i : Int} {j : Nat} {v : V} (h : i = j) (e : us[j]? = some v) : atI us i = some v := by rw [h]; exact atI_nat e
theorem at_back {us : List V} {i : Int} {k : Nat} {v : V} (h0 : i < 0) (h : i + us.length = k) (e : us[k]? = some v) : atI us i = some v := by
  unfold atI ixN
  rw [if_neg (by omega), if_pos (by omega), h, Int.toNat_natCast]
  exact e
theorem rest_at {z : Int} : ∀ {row : List Int}, RestZ z row → ∀ (i : Nat) (h : i < row.length), (row[i] = 0 ∨ row[i] = 1) ∧ row[i] * ((row.drop 1 ++ [z])[i]?.getD 7) = 0
  | [], _, i, h => absurd h (Nat.not_lt_zero _)
  | x :: xs, hr, 0, _ => by
    refine ⟨hr.1, ?_⟩
    have := hr.2.1
    cases xs with
    | nil => exact this
    | cons y ys => exact this
  | x :: xs, hr, i + 1, h => by
    have lt : i < xs.length := by rw [List.length_cons] at h; omega
    obtain ⟨h1, h2⟩ := rest_at hr.2.2 i lt
    refine ⟨h1, ?_⟩
    show xs[i] * ((xs ++ [z])[i + 1]?.getD 7) = 0
    cases xs with
    | nil => exact absurd lt (Nat.not_lt_zero _)
    | cons y ys => exact h2
theorem all_rep (n : Nat) : (List.replicate n true).all id = true := by
  rw [List.all_eq_true]
  intro z hz
  rw [List.eq_of_mem_replicate hz]; rfl
def sumL : List Int := (List.range 62).map fun i => (fb (i + 2) : Int)
theorem sum_step (k : Nat) : (List.range (k + 3)).map (fun i => V.int (fb (i + 2) : Nat)) = (List.range (k + 2)).map (fun i => V.int (fb (i + 2) : Nat)) ++ [V.int ((fb (k + 3) : Nat) + (fb (k + 2) : Nat) : Int)] := by
  rw [List.range_succ, List.map_append]
  congr 1
  show [V.int (fb (k + 2 + 2) : Nat)] = _
  rw [show fb (k + 2 + 2) = fb (k + 2) + fb (k + 3) from fb_two (k + 2), Int.natCast_add, Int.add_comm]
theorem sum_get {k i : Nat} (h : i < k) : ((List.range k).map (fun i => V.int (fb (i + 2) : Nat)))[i]? = some (V.int (fb (i + 2) : Nat)) := by
  rw [List.getElem?_map, List.getElem?_range h]; rfl
section
variable {P : Program} {w : World} {K : PySem.W.Frag} {mg : Str → Option Value} {base : Heap}
def spSums : Sp := fun vs H Q _ => vs = [.int 61] ∧ ∀ (l : Addr) (H' : Hp), Same H H' → H l = none → H' l = some (.lst ((List.range 62).map fun i => V.int (fb (i + 2) : Nat))) → Q (.ref l) H'
theorem ok_sums (T : Txt K mg w) : FnOk P w K mg base CX0 1 T.f_sums T.fd_sums p_sums spSums := by
  refine T.F_sums.ok sc_sums (fun vs H Q E h => ?_) (fun cdv A outer s H vs Q E hr h => ?_)
  · obtain ⟨rfl, _⟩ := h
    rfl
  · obtain ⟨rfl, q⟩ := h
    refine ⟨_, (pss_cons (ps_set (i := 1) sc_sums.nd rfl (.inl rfl) (pe_lst (pa_cons pe_int (pa_cons pe_int pa_nil))))
      (pss_cons (ps_while PassesOwn.never (pt_cmpR op_lt (pe_callB call_len_seq (by rfl) T.m_len (by decide +kernel) (pa_cons (pv 1) pa_nil)) (pe_op op_add (pv 0) pe_int) (nomark _))
        (pss_one (ps_expr (pe_bm PySem.F.plainAttrs_list PySem.F.slot_list_append PySem.F.type_list_append mt_append (pv 1) (pa_cons (pe_op op_add (pe_ix ix_list (pv 1) (pe_un un_neg pe_int) (fun _ _ => rfl)) (pe_ix ix_list (pv 1) (pe_un un_neg pe_int) (fun _ _ => rfl))) pa_nil)))))
      (pss_one (ps_ret (pv 1))))), ?_⟩
    refine ⟨by show 2 ≤ sizeLine; decide, fun l nl => ?_⟩
    refine while_idx 60 (fun r σ H3 => σ = [some (.int 61), some (.ref l)] ∧ Same H H3 ∧ r ≤ 60 ∧ H3 l = some (.lst ((List.range (r + 2)).map fun i => V.int (fb (i + 2) : Nat)))) ⟨rfl, same_upd nl, by omega, upd_same⟩ ?_ ?_
    · rintro r σ H3 ⟨rfl, s3, rl, h3⟩
      have ll : ((List.range (r + 2)).map fun i => V.int (fb (i + 2) : Nat)).length = r + 2 := by rw [List.length_map, List.length_range]
      refine ⟨.ref l, rfl, l, _, rfl, .inl (.inl (.inl h3)), .int 61, rfl, _, _, rfl, rfl, _, _, rfl, rfl, _, rfl, ite2 (fun z => ?_) (fun z => ?_)⟩
      · have z' : (((List.range (r + 2)).map fun i => V.int (fb (i + 2) : Nat)).length : Int) < 61 + 1 := of_decide_eq_true z
        rw [ll] at z'
        refine ⟨by omega, .ref l, rfl, .inl ⟨rfl, _, .inl (.inl h3)⟩, ?_⟩
        refine ⟨.ref l, rfl, 1, rfl, l, _, -1, .int (fb (r + 3) : Nat), rfl, rfl, .inl (.inl h3), at_back (k := r + 1) (by decide) (by rw [ll]; omega) (sum_get (by omega)), ?_⟩
        refine ⟨.ref l, rfl, 2, rfl, l, _, -2, .int (fb (r + 2) : Nat), rfl, rfl, .inl (.inl h3), at_back (k := r) (by decide) (by rw [ll]; omega) (sum_get (by omega)), ?_⟩
        refine ⟨_, _, rfl, rfl, l, _, _, rfl, rfl, h3, by rw [ll]; exact small1000 (by omega), rfl, same_mut s3 nl, by omega, ?_⟩
        rw [upd_same]
        exact congrArg (fun x => some (HO.lst x)) (sum_step r).symm
      · have z' : ¬ (((List.range (r + 2)).map fun i => V.int (fb (i + 2) : Nat)).length : Int) < 61 + 1 := fun y => z (decide_eq_true y)
        rw [ll] at z'
        have : r = 60 := by omega
        subst this
        exact ⟨.ref l, rfl, q l H3 s3 nl h3⟩
    · intro σ H3 Q1 Q2 hQ h
      obtain ⟨v, h1, a, xs, e, hs, u, h2, i, j, e1, e2, i2, j2, e3, e4, k, e5, h3⟩ := h
      exact ⟨v, h1, a, xs, e, hs, u, h2, i, j, e1, e2, i2, j2, e3, e4, k, e5, hQ _ _ h3⟩
def spIsRest : Sp := fun vs H Q _ => ∃ (t : Addr) (ring : Bool) (row : List Int), vs = [.ref t, .bl ring] ∧ row.length ≤ 100 ∧ row ≠ [] ∧ TupAt H t (row.map V.int) ∧ RestZ (if ring = true then row.headD 0 else 1) row ∧ (ring = false → row.getLastD 0 = 0) ∧ ∀ H', Same H H' → Q (.bl true) H'
set_option maxHeartbeats 2000000 in
theorem ok_is_rest (T : Txt K mg w) : FnOk P w K mg base CX0 1 T.f_is_rest T.fd_is_rest p_is_rest spIsRest := by
  refine T.F_is_rest.ok sc_is_rest (fun vs H Q E h => ?_) (fun cdv A outer s H vs Q E hr h => ?_)
  · obtain ⟨t, ring, row, rfl, _⟩ := h
    rfl
  · obtain ⟨t, ring, row, rfl, n1, ne, hS, hz, hl, q⟩ := h
    have l0 : 1 ≤ row.length := by cases row with | nil => exact absurd rfl ne | cons _ _ => rw [List.length_cons]; omega
    refine ⟨_, (pss_cons (ps_set (i := 2) sc_is_rest.nd rfl (.inl rfl) (pe_op op_catA (pe_slice sl_tupA (pv 0) (po_some pe_int) po_none) (pe_ifExp (pt_val (pv 1)) (pe_slice sl_tupA (pv 0) po_none (po_some pe_int)) (pe_tup (pa_cons pe_int pa_nil)))))
      (pss_cons (ps_if (pt_not (pt_val (pe_callB (cr_all rfl) (by rfl) T.m_all (by decide +kernel) (pa_cons (pe_lc (own := [("_law_here", 3), ("_law_there", 4)]) (g := gTup K 2 (gCons (gName 3) (gCons (gName 4) gNil))) (by rfl) sc_is_rest.nd (RZ.pi_zipA (by rfl) T.m_zip (pa_cons (pv 0) (pa_cons (pv 2) pa_nil))) (blkOk_by (own := [("_law_here", 3), ("_law_there", 4)]) (N := n_is_rest) (sc := defScope s_is_rest) (by decide +kernel)) (fun _ _ _ _ _ => (pg_tup rfl (pgs_cons (pg_name (i := 3) sc_is_rest.nd rfl (.inl rfl) (.inr rfl)) (pgs_cons (pg_name (i := 4) sc_is_rest.nd rfl (.inl rfl) (.inr rfl)) pgs_nil)))) (fun _ _ _ _ _ => pts_nil) (fun _ _ _ _ _ => (pe_and (pe_cmpR (r := rIn K false) op_in_seq (pv 3) (pe_tup (pa_cons pe_int (pa_cons pe_int pa_nil))) (by rfl)) (pe_one (pe_cmpR op_eq (pe_op op_mul (pv 3) (pv 4)) pe_int (nomark _)))))) pa_nil))))
        (pss_one (ps_ret pe_bl))
        pss_nil)
      (pss_one (ps_ret (pe_or (pv 1) (pe_one (pe_cmpR op_eq (pe_ix ix_tup (pv 0) (pe_un un_neg pe_int) (fun _ _ => rfl)) pe_int (nomark _)))))))), ?_⟩
    cases ring with
    | true =>
      generalize ez : row.headD 0 = z
      have hz : RestZ z row := by rw [if_pos rfl, ez] at hz; exact hz
      refine ⟨.ref t, rfl, 1, rfl, ?_⟩
      dsimp only [tNoPart]
      refine sl_tup_use hS fun c Hc sc hc => ?_
      rw [cutI_map, show (1 : Int) = ((1 : Nat) : Int) from rfl, cut_from _ _ l0] at hc
      refine ⟨_, rfl, true, rfl, iteP rfl ?_⟩
      refine ⟨.ref t, rfl, ?_⟩
      dsimp only [tNoPart]
      refine ⟨1, rfl, ?_⟩
      refine sl_tup_use (hS.keep (Keep.same sc)) fun c2 H2 s2 h2 => ?_
      have et : row.take 1 = [z] := by
        cases row with
        | nil => exact absurd rfl ne
        | cons x xs => rw [← ez]; rfl
      rw [cutI_map, cut_1, et] at h2
      refine cat_use (hc.keep (Keep.same s2)) h2 (by rw [List.length_map, List.length_map, List.length_drop]; exact Nat.le_of_lt (small1000 (by show row.length - 1 + 1 ≤ 1000; omega))) fun c3 H3 s3' h3 => ?_
      rw [← List.map_append] at h3
      have s3 := (sc.trans s2).trans s3'
      refine ⟨.ref t, rfl, .ref c3, rfl, t, c3, _, _, rfl, .inr ⟨(hS.keep (Keep.same s3)).sq, h3.sq, fun D hD => ?_⟩⟩
      refine lc_true (walk_zipT (xs := row.map V.int) (ys := (row.drop 1 ++ [z]).map V.int) (n := row.length) (by rw [List.length_map]) (by rw [List.length_map, List.length_append, List.length_drop]; show row.length - 1 + 1 = row.length; omega)) hD (by omega) (fun H5 s5 => ⟨(hS.keep (Keep.same (s3.trans s5))).sq, (h3.keep (Keep.same s5)).sq⟩) ?_ ?_
      · rintro i x H6 H7 hi s6 ⟨tt, x1, x2, rfl, nt, rfl, e1, e2⟩ Q' Z hQ
        have sT := same_upd (o := .tup [x1, x2]) nt
        obtain ⟨g1, g2⟩ := rest_at hz i hi
        have q1 : x1 = .int row[i] := by
          have e1' : (row.map V.int)[i]? = some x1 := e1
          rw [List.getElem?_map, List.getElem?_eq_getElem hi] at e1'
          exact (Option.some.inj e1').symm
        have q2 : x2 = .int ((row.drop 1 ++ [z])[i]?.getD 7) := by
          have e2' : ((row.drop 1 ++ [z]).map V.int)[i]? = some x2 := e2
          have li : i < (row.drop 1 ++ [z]).length := by rw [List.length_append, List.length_drop]; show i < row.length - 1 + 1; omega
          rw [List.getElem?_map, List.getElem?_eq_getElem li] at e2'
          rw [List.getElem?_eq_getElem li]
          exact (Option.some.inj e2').symm
        subst q1 q2
        generalize (row.drop 1 ++ [z])[i]?.getD 7 = y at g2 sT
        refine ⟨tt, _, rfl, .inl (.inl upd_same), rfl, _, _, rfl, _, _, rfl, rfl, rfl, yes (iteT ?_)⟩
        refine ⟨_, rfl, by show 2 ≤ sizeLine; decide, fun u nu => ⟨u, _, rfl, .inr (.inl (.inl upd_same)), rfl, rfl, ?_⟩⟩
        have sU := same_upd (o := .tup [.int 0, .int 1]) nu
        refine ⟨true, ?_, iteP rfl ?_⟩
        · rcases g1 with g | g <;> rw [g] <;> rfl
        · refine ⟨_, rfl, _, rfl, _, _, rfl, rfl, ?_, ?_⟩
          · rcases g1 with g | g
            · rw [g]; exact .inl ⟨by decide, by decide⟩
            · rw [g]; exact .inl ⟨by decide, by decide⟩
          · refine ⟨rfl, ?_⟩
            have := hQ _ (sT.trans sU)
            rw [show (true : Bool) = decide (V.int (row[i] * y) = V.int 0) by rw [g2]; rfl] at this
            exact this
      intro H5 s5 h5
      refine ⟨D, _, rfl, .inl (.inl h5), ?_⟩
      rw [all_rep]
      refine ⟨_, rfl, iteN rfl ?_⟩
      exact ⟨_, rfl, true, rfl, iteP rfl (q _ (s3.trans s5))⟩
    | false =>
      obtain ⟨z, ez⟩ : ∃ z : Int, z = 1 := ⟨1, rfl⟩
      have hz : RestZ z row := by rw [if_neg Bool.false_ne_true] at hz; rw [ez]; exact hz
      refine ⟨.ref t, rfl, 1, rfl, ?_⟩
      dsimp only [tNoPart]
      refine sl_tup_use hS fun c Hc sc hc => ?_
      rw [cutI_map, show (1 : Int) = ((1 : Nat) : Int) from rfl, cut_from _ _ l0] at hc
      refine ⟨_, rfl, false, rfl, iteN rfl ?_⟩
      refine ⟨by show 1 ≤ sizeLine; decide, fun c2 nc2 => ?_⟩
      have s2 := same_upd (o := .tup [.int 1]) nc2
      have h2 : TupAt (upd Hc c2 (.tup [.int 1])) c2 ([z].map V.int) := by rw [ez]; exact .inl upd_same
      refine cat_use (hc.keep (Keep.same s2)) h2 (by rw [List.length_map, List.length_map, List.length_drop]; exact Nat.le_of_lt (small1000 (by show row.length - 1 + 1 ≤ 1000; omega))) fun c3 H3 s3' h3 => ?_
      rw [← List.map_append] at h3
      have s3 := (sc.trans s2).trans s3'
      refine ⟨.ref t, rfl, .ref c3, rfl, t, c3, _, _, rfl, .inr ⟨(hS.keep (Keep.same s3)).sq, h3.sq, fun D hD => ?_⟩⟩
      refine lc_true (walk_zipT (xs := row.map V.int) (ys := (row.drop 1 ++ [z]).map V.int) (n := row.length) (by rw [List.length_map]) (by rw [List.length_map, List.length_append, List.length_drop]; show row.length - 1 + 1 = row.length; omega)) hD (by omega) (fun H5 s5 => ⟨(hS.keep (Keep.same (s3.trans s5))).sq, (h3.keep (Keep.same s5)).sq⟩) ?_ ?_
      · rintro i x H6 H7 hi s6 ⟨tt, x1, x2, rfl, nt, rfl, e1, e2⟩ Q' Z hQ
        have sT := same_upd (o := .tup [x1, x2]) nt
        obtain ⟨g1, g2⟩ := rest_at hz i hi
        have q1 : x1 = .int row[i] := by
          have e1' : (row.map V.int)[i]? = some x1 := e1
          rw [List.getElem?_map, List.getElem?_eq_getElem hi] at e1'
          exact (Option.some.inj e1').symm
        have q2 : x2 = .int ((row.drop 1 ++ [z])[i]?.getD 7) := by
          have e2' : ((row.drop 1 ++ [z]).map V.int)[i]? = some x2 := e2
          have li : i < (row.drop 1 ++ [z]).length := by rw [List.length_append, List.length_drop]; show i < row.length - 1 + 1; omega
          rw [List.getElem?_map, List.getElem?_eq_getElem li] at e2'
          rw [List.getElem?_eq_getElem li]
          exact (Option.some.inj e2').symm
        subst q1 q2
        generalize (row.drop 1 ++ [z])[i]?.getD 7 = y at g2 sT
        refine ⟨tt, _, rfl, .inl (.inl upd_same), rfl, _, _, rfl, _, _, rfl, rfl, rfl, yes (iteT ?_)⟩
        refine ⟨_, rfl, by show 2 ≤ sizeLine; decide, fun u nu => ⟨u, _, rfl, .inr (.inl (.inl upd_same)), rfl, rfl, ?_⟩⟩
        have sU := same_upd (o := .tup [.int 0, .int 1]) nu
        refine ⟨true, ?_, iteP rfl ?_⟩
        · rcases g1 with g | g <;> rw [g] <;> rfl
        · refine ⟨_, rfl, _, rfl, _, _, rfl, rfl, ?_, ?_⟩
          · rcases g1 with g | g
            · rw [g]; exact .inl ⟨by decide, by decide⟩
            · rw [g]; exact .inl ⟨by decide, by decide⟩
          · refine ⟨rfl, ?_⟩
            have := hQ _ (sT.trans sU)
            rw [show (true : Bool) = decide (V.int (row[i] * y) = V.int 0) by rw [g2]; rfl] at this
            exact this
      intro H5 s5 h5
      refine ⟨D, _, rfl, .inl (.inl h5), ?_⟩
      rw [all_rep]
      refine ⟨_, rfl, iteN rfl ?_⟩
      refine ⟨_, rfl, false, rfl, iteN rfl ?_⟩
      refine ⟨.ref t, rfl, 1, rfl, t, _, -1, .int 0, rfl, rfl, (hS.keep (Keep.same (s3.trans s5))).sq, at_back (k := row.length - 1) (by decide) (by rw [List.length_map]; omega) ?_, rfl, q _ (s3.trans s5)⟩
      have hl := hl rfl
      rw [List.getElem?_map, List.getElem?_eq_getElem (by omega : row.length - 1 < row.length)]
      have : row.getLastD 0 = row[row.length - 1] := by rw [List.getLastD_eq_getLast?, List.getLast?_eq_getElem?, List.getElem?_eq_getElem (by omega : row.length - 1 < row.length)]; rfl
      rw [← this, hl]; rfl
def F38 (bx : Addr) (c : Int) (H : Hp) (cs : Addr) (n : Nat) (Hk : Hp) : Prop := Ext bx H Hk ∧ Box bx c Hk ∧ Hk cs = some (.lst [.int (cntK false n : Nat), .int (cntK true n : Nat)])
set_option maxHeartbeats 16000000 in
theorem ok_right (T : Txt K mg w) : FnG P w K mg base 8 T.f_right T.fd_right p_right spRight := by
  have G_take := ok_take (P := P) (w := w) (base := base) T
  have G_sums := ok_sums (P := P) (w := w) (base := base) T
  have G_is_rest := ok_is_rest (P := P) (w := w) (base := base) T
  have G_line_counts := ok_line_counts (P := P) (w := w) (base := base) T
  have G_line_rest := ok_line_rest (P := P) (w := w) (base := base) T
  have G_line_number := ok_line_number (P := P) (w := w) (base := base) T
  have G_same := ok_same (P := P) (w := w) (base := base) T 6
  obtain ⟨D_line_counts, V_line_counts, B_line_counts⟩ := T.b_line_counts
  refine okG T.F_right sc_right (fun vs H Q E h => ?_) (fun cdv A outer s H vs Q E hr hG h => ?_)
  · obtain ⟨bx, rfl, _⟩ := h
    rfl
  · obtain ⟨bx, rfl, hB, q⟩ := h
    refine ⟨_, (pss_cons (ps_asg (pe_tup (pa_cons (pe_op op_add pe_int (pe_call G_take (hr.mono (by decide)) (by rfl) T.g_take T.F_take.kp T.b_take .nil pass0 (pa_cons (pv 0) (pa_cons pe_int pa_nil)))) (pa_cons (pe_call G_sums (hr.mono (by decide)) (by rfl) T.g_sums T.F_sums.kp T.b_sums .nil pass0 (pa_cons pe_int pa_nil)) pa_nil))) (pg_tup rfl (pgs_cons (pg_name (i := 1) sc_right.nd rfl (.inr rfl)) (pgs_cons (pg_name (i := 2) sc_right.nd rfl (.inl rfl)) pgs_nil))))
      (pss_cons (ps_set (i := 3) sc_right.nd rfl (.inl rfl) (pe_lst (pa_cons (pe_ix ix_list (pv 2) (pe_op op_sub (pv 1) pe_int) (fun _ _ => rfl)) (pa_cons (pe_op op_add (pe_ix ix_list (pv 2) (pe_op op_sub (pv 1) pe_int) (fun _ _ => rfl)) (pe_ix ix_list (pv 2) (pe_op op_sub (pv 1) pe_int) (fun _ _ => rfl))) pa_nil))))
      (pss_cons (ps_if (pt_not (pt_val (pe_call G_same (hr.mono (by decide)) (by rfl) T.g_same T.F_same.kp T.b_same .nil pass0 (pa_cons (pe_lst (pa_cons (pe_call G_line_counts (hr.mono (by decide)) (by rfl) T.g_line_counts T.F_line_counts.kp B_line_counts V_line_counts pass0 (pa_cons (pv 1) pa_nil)) (pa_cons (pe_callN G_line_counts (hr.mono (by decide)) (by rfl) T.g_line_counts T.F_line_counts.kp T.kb_line_counts pass0 (pa_cons (pv 1) pa_nil) (pk_cons pe_bl pk_nil)) pa_nil))) (pa_cons (pv 3) pa_nil)))))
        (pss_one (ps_ret pe_bl))
        pss_nil)
      (pss_cons (ps_for PassesOwn.never rfl (pi_tup (pe_tup (pa_cons pe_bl (pa_cons pe_bl pa_nil)))) (pg_name (i := 4) sc_right.nd rfl (.inr rfl))
        (pss_cons (ps_par (i := 5) (j := 6) (by rfl) sc_right.nd rfl rfl (by decide) rfl rfl (pa_cons (pe_ix ix_list (pv 3) (pe_callTy call_int1 (by rfl) T.m_int (by decide +kernel) (pa_cons (pv 4) pa_nil)) (fun _ _ => rfl)) (pa_cons (pe_lst (pa_cons pe_int pa_nil)) pa_nil)) (by rfl))
        (pss_cons (ps_for PassesOwn.never rfl (pi_range1 (by rfl) T.m_range (pa_cons pe_int pa_nil)) (pg_name (i := 7) sc_right.nd rfl (.inl rfl))
          (pss_one (ps_expr (pe_bm PySem.F.plainAttrs_list PySem.F.slot_list_append PySem.F.type_list_append mt_append (pv 6) (pa_cons (pe_op op_mod (pe_op op_add (pe_op op_mul (pe_call G_take (hr.mono (by decide)) (by rfl) T.g_take T.F_take.kp T.b_take .nil pass0 (pa_cons (pv 0) (pa_cons (pe_op op_pow pe_int pe_int) pa_nil))) (pe_op op_pow pe_int pe_int)) (pe_call G_take (hr.mono (by decide)) (by rfl) T.g_take T.F_take.kp T.b_take .nil pass0 (pa_cons (pv 0) (pa_cons (pe_op op_pow pe_int pe_int) pa_nil)))) (pe_op op_sub (pv 5) pe_int)) pa_nil)))))
        (pss_one (ps_for PassesOwn.never rfl (pi_list (pe_op op_cat (pv 6) (pe_lst (pa_cons (pe_op op_sub (pv 5) pe_int) pa_nil)))) (pg_name (i := 8) sc_right.nd rfl (.inl rfl))
          (pss_cons (ps_set (i := 9) sc_right.nd rfl (.inl rfl) (pe_lst (pa_cons (pe_callN G_line_rest (hr.mono (by decide)) (by rfl) T.g_line_rest T.F_line_rest.kp T.kb_line_rest pass0 (pa_cons (pv 1) (pa_cons (pv 8) pa_nil)) (pk_cons (pv 4) pk_nil)) (pa_cons (pe_callN G_line_rest (hr.mono (by decide)) (by rfl) T.g_line_rest T.F_line_rest.kp T.kb_line_rest pass0 (pa_cons (pv 1) (pa_cons (pe_op op_add (pv 8) pe_int) pa_nil)) (pk_cons (pv 4) pk_nil)) pa_nil))))
          (pss_cons (ps_if (PW.pt (pw_or (pt_not (pt_val (pe_callB (cr_all rfl) (by rfl) T.m_all (by decide +kernel) (pa_cons (pe_lc (own := [("_law_row", 10)]) (g := gName 10) (by rfl) sc_right.nd (pi_list (pv 9)) (blkOk_by (own := [("_law_row", 10)]) (N := n_right) (sc := defScope s_right) (by decide +kernel)) (fun _ _ _ _ _ => (pg_name (i := 10) sc_right.nd rfl (.inl rfl) (.inr rfl))) (fun _ _ _ _ _ => pts_nil) (fun _ _ _ _ _ => (pe_and (pe_callB (id := "isinstance") (r := rIsi K) call_isi (by rfl) T.m_isinstance (by decide +kernel) (pa_cons (pv 10) (pa_cons (pe_bltn (v := .ty "tuple") (by rfl) T.m_tuple (by decide +kernel) rfl) pa_nil))) (pe_one (pe_cmpR op_eq (pe_callB (id := "len") (r := rLenQ K) call_len_seq (by rfl) T.m_len (by decide +kernel) (pa_cons (pv 10) pa_nil)) (pv 1) (nomark _)))))) pa_nil)))) (pw_or1 (pt_not (pt_cmpR (op_ltT (Nat.lt_of_le_of_lt (Nat.le_add_right _ 64) hr.units)) (pe_ix ix_list (pv 9) pe_int (fun _ _ => rfl)) (pe_ix ix_list (pv 9) pe_int (fun _ _ => rfl)) (nomark _))))))
            (pss_one (ps_ret pe_bl))
            pss_nil)
          (pss_cons (ps_if (pt_not (pt_val (pe_callB (cr_all rfl) (by rfl) T.m_all (by decide +kernel) (pa_cons (pe_lc (own := [("_law_row", 10)]) (g := gName 10) (by rfl) sc_right.nd (pi_list (pv 9)) (blkOk_by (own := [("_law_row", 10)]) (N := n_right) (sc := defScope s_right) (by decide +kernel)) (fun _ _ _ _ _ => (pg_name (i := 10) sc_right.nd rfl (.inl rfl) (.inr rfl))) (fun _ _ _ _ _ => pts_nil) (fun _ _ _ _ _ => (pe_call G_is_rest (hr.mono (by decide)) (by rfl) T.g_is_rest T.F_is_rest.kp T.b_is_rest .nil pass0 (pa_cons (pv 10) (pa_cons (pv 4) pa_nil))))) pa_nil))))
            (pss_one (ps_ret pe_bl))
            pss_nil)
          (pss_cons (ps_if (pt_not (pt_val (pe_call G_same (hr.mono (by decide)) (by rfl) T.g_same T.F_same.kp T.b_same .nil pass0 (pa_cons (pe_lc (own := [("_law_row", 10)]) (g := gName 10) (by rfl) sc_right.nd (pi_list (pv 9)) (blkOk_by (own := [("_law_row", 10)]) (N := n_right) (sc := defScope s_right) (by decide +kernel)) (fun _ _ _ _ _ => (pg_name (i := 10) sc_right.nd rfl (.inl rfl) (.inr rfl))) (fun _ _ _ _ _ => pts_nil) (fun _ _ _ _ _ => (pe_callN G_line_number (hr.mono (by decide)) (by rfl) T.g_line_number T.F_line_number.kp T.kb_line_number pass0 (pa_cons (pv 10) pa_nil) (pk_cons (pv 4) pk_nil)))) (pa_cons (pe_lst (pa_cons (pv 8) (pa_cons (pe_op op_add (pv 8) pe_int) pa_nil))) pa_nil)))))
            (pss_one (ps_ret pe_bl))
            pss_nil)
          (pss_one (ps_if (PW.pt (pw_and (pt_not (pt_val (pv 4))) (pw_and1 (pt_cmpR (op_neD hr.units) (pe_callN G_line_rest (hr.mono (by decide)) (by rfl) T.g_line_rest T.F_line_rest.kp T.kb_line_rest pass0 (pa_cons (pv 1) (pa_cons (pe_callN G_line_number (hr.mono (by decide)) (by rfl) T.g_line_number T.F_line_number.kp T.kb_line_number pass0 (pa_cons (pe_ix ix_list (pv 9) pe_int (fun _ _ => rfl)) pa_nil) (pk_cons pe_bl pk_nil)) pa_nil)) (pk_cons pe_bl pk_nil)) (pe_ix ix_list (pv 9) pe_int (fun _ _ => rfl)) (nomark _)))))
            (pss_one (ps_ret pe_bl))
            pss_nil)))))))))))
      (pss_one (ps_ret pe_bl)))))), ?_⟩
    refine ⟨.ref bx, rfl, bx, _, 52, rfl, by decide, by decide, by decide, hB, fun r1 H1 r10 r11 e1 b1 => ⟨9, r1, rfl, rfl, ?_⟩⟩
    obtain ⟨n, en⟩ : ∃ n : Nat, (9 : Int) + r1 = (n : Int) := ⟨(9 + r1).toNat, by omega⟩
    dsimp only
    rw [en]
    have n9 : 9 ≤ n := by omega
    have n60 : n ≤ 60 := by omega
    refine ⟨rfl, fun ls H2 s2 nls hls => ⟨by show 2 ≤ sizeLine; decide, fun u nu => ?_⟩⟩
    refine ⟨u, _, rfl, .inl (.inl upd_same), rfl, _, _, rfl, _, _, rfl, rfl, ?_⟩
    have sU := same_upd (o := .tup [.int (n : Int), .ref ls]) nu
    have hls2 := sU _ _ hls
    have b2 := (b1.same s2).same sU
    have e2 := (e1.trans (Ext.of s2)).trans (Ext.of sU)
    -- how many
    have ix1 : (n : Int) - 1 = ((n - 1 : Nat) : Int) := by omega
    have ix3 : (n : Int) - 3 = ((n - 3 : Nat) : Int) := by omega
    have gt1 := sum_get (k := 62) (i := n - 1) (by omega)
    have gt3 := sum_get (k := 62) (i := n - 3) (by omega)
    refine ⟨.ref ls, rfl, .int n, rfl, _, _, rfl, rfl, ls, _, _, _, rfl, rfl, .inl (.inl hls2), at_of ix1 gt1, ?_⟩
    refine ⟨.ref ls, rfl, .int n, rfl, _, _, rfl, rfl, ls, _, _, _, rfl, rfl, .inl (.inl hls2), at_of ix1 gt1, ?_⟩
    refine ⟨.ref ls, rfl, .int n, rfl, _, _, rfl, rfl, ls, _, _, _, rfl, rfl, .inl (.inl hls2), at_of ix3 gt3, ?_⟩
    refine ⟨_, _, rfl, rfl, by show 2 ≤ sizeLine; decide, fun cs ncs => ?_⟩
    dsimp only
    have ec1 : fb (n - 1 + 2) = cntK false n := by show fb (n - 1 + 2) = fb (n + 1); rw [show n - 1 + 2 = n + 1 by omega]
    have ec3 : ((fb (n - 1 + 2) : Nat) : Int) + ((fb (n - 3 + 2) : Nat) : Int) = (cntK true n : Nat) := by
      show _ = (((fb (n + 1) + fb (n - 1) : Nat)) : Int)
      rw [show n - 1 + 2 = n + 1 by omega, show n - 3 + 2 = n - 1 by omega, Int.natCast_add]
    rw [ec3, ec1]
    have sC := same_upd (o := .lst [.int (cntK false n : Nat), .int (cntK true n : Nat)]) ncs
    have b3 := b2.same sC
    have ncb : cs ≠ bx := b2.ne ncs
    -- they are told so
    refine ⟨.int n, rfl, n, false, rfl, by omega, by omega, ?_⟩
    refine ⟨.int n, rfl, rfl, rfl, n, true, rfl, by omega, by omega, ?_⟩
    refine ⟨by show 2 ≤ sizeLine; decide, fun l2 nl2 => ?_⟩
    have sL := same_upd (o := .lst [.int (cntK false n : Nat), .int (cntK true n : Nat)]) nl2
    have b4 := b3.same sL
    have hcs4 := sL _ _ (upd_same (a := cs) (o := HO.lst [.int (cntK false n : Nat), .int (cntK true n : Nat)]))
    refine ⟨.ref cs, rfl, bx, .ref l2, .ref cs, .list ([((cntK false n : Nat) : Int), ((cntK true n : Nat) : Int)].map PyData.int), rfl, .lst upd_same (b3.ne nl2) (RpAll.ints [((cntK false n : Nat) : Int), ((cntK true n : Nat) : Int)]), .lst hcs4 ncb (RpAll.ints [((cntK false n : Nat) : Int), ((cntK true n : Nat) : Int)]), okD_intsL (by show 2 ≤ 8388608; decide), fun H5 s5 => ⟨_, rfl, iteN rfl ?_⟩⟩
    have F0 : F38 bx 1 H cs n H5 := ⟨((e2.trans (Ext.of sC)).trans (Ext.of sL)).trans (Ext.of s5), (b4.same s5).mono (by omega), s5 _ _ hcs4⟩
    -- a line, a ring
    refine ⟨by show 2 ≤ sizeLine; decide, fun p np => ⟨p, rfl, ⟨_, .inl (.inl upd_same)⟩, ?_⟩⟩
    have sP := same_upd (o := .tup [.bl false, .bl true]) np
    refine for_it (walk_tup (xs := [V.bl false, V.bl true])) (fun i σ H3 => ∃ y4 y5 y6 y7 y8 y9 y10 : Option V, σ = [some (.ref bx), some (.int n), some (.ref ls), some (.ref cs), y4, y5, y6, y7, y8, y9, y10] ∧ F38 bx (1 + 8 * i) H cs n H3 ∧ H3 p = some (.tup [.bl false, .bl true])) ?_ ?_ ?_ ?_
    · exact ⟨_, _, _, _, _, _, _, rfl, ⟨F0.1.trans (Ext.of sP), (F0.2.1.same sP).mono (by omega), sP _ _ F0.2.2⟩, upd_same⟩
    · rintro i σ H3 _ ⟨y4, y5, y6, y7, y8, y9, y10, rfl, F3, h3⟩
      exact .inl (.inl h3)
    · rintro i x σ H3 H4 hi ⟨y4, y5, y6, y7, y8, y9, y10, rfl, F3, h3⟩ ⟨rfl, hv⟩
      have hi' : i < 2 := hi
      obtain ⟨ring, rfl⟩ : ∃ ring : Bool, x = .bl ring := by
        have hv' : [V.bl false, V.bl true][i]? = some x := hv
        rcases (by omega : i = 0 ∨ i = 1) with c | c
        · subst c; exact ⟨false, (Option.some.inj hv').symm⟩
        · subst c; exact ⟨true, (Option.some.inj hv').symm⟩
      clear hv
      have cp : 20 ≤ cntK ring n := by
        have m1 : ∀ k, fb 8 ≤ fb (k + 8) := fun k => by
          induction k with
          | zero => exact Nat.le_refl _
          | succ k ih => have := fb_mono (k + 7); show fb 8 ≤ fb (k + 9); exact Nat.le_trans ih this
        have h8 : fb (n + 1) = fb (n - 7 + 8) := by rw [show n - 7 + 8 = n + 1 by omega]
        have := m1 (n - 7)
        have e8 : fb 8 = 21 := by decide
        unfold cntK
        split <;> omega
      obtain ⟨m, em⟩ : ∃ m, n = m + 2 := ⟨n - 2, by omega⟩
      -- the numbers
      refine ⟨.ref cs, rfl, .bl ring, rfl, .inr ⟨ring, rfl, cs, _, _, .int (cntK ring n : Nat), rfl, rfl, .inl (.inl F3.2.2), by cases ring <;> rfl, by show 1 ≤ sizeLine; decide, fun l nl => ?_⟩⟩
      have sl := same_upd (o := .lst [.int 0]) nl
      have nlb : l ≠ bx := F3.2.1.ne nl
      have lcs : l ≠ cs := fun e => by rw [e, F3.2.2] at nl; cases nl
      have lp : l ≠ p := fun e => by rw [e, h3] at nl; cases nl
      refine ⟨_, _, rfl, 4, rfl, by decide, by decide, ?_⟩
      refine for_it walk_range (fun j σ H5 => ∃ (ks : List Int) (y7 : Option V), σ = [some (.ref bx), some (.int n), some (.ref ls), some (.ref cs), some (.bl ring), some (.int (cntK ring n : Nat)), some (.ref l), y7, y8, y9, y10] ∧ F38 bx (1 + 8 * i + 2 * j) H cs n H5 ∧ H5 p = some (.tup [.bl false, .bl true]) ∧ H5 l = some (.lst (ks.map V.int)) ∧ ks.length = j + 1 ∧ ∀ k ∈ ks, 0 ≤ k ∧ k + 1 < (cntK ring n : Nat)) ?_ (fun _ _ _ _ _ => trivial) ?_ ?_
      · refine ⟨[0], _, rfl, ⟨F3.1.trans (Ext.of sl), (F3.2.1.same sl).mono (by omega), sl _ _ F3.2.2⟩, sl _ _ h3, upd_same, rfl, fun k hk => ?_⟩
        rw [List.mem_singleton.mp hk]
        omega
      · rintro j x σ H5 H6 hj ⟨ks, y7', rfl, F5, h5, hl5, lk, kk⟩ ⟨rfl, rfl⟩
        have hj' : j < 4 := hj
        refine ⟨.ref l, rfl, .inl ⟨rfl, _, .inl (.inl hl5)⟩, ?_⟩
        refine ⟨.ref bx, rfl, 10, 9, rfl, rfl, ⟨by decide, by decide, by decide⟩, bx, _, _, rfl, by decide, by decide, by omega, F5.2.1, fun a1 H7 a10 a11 e7 b7 => ?_⟩
        refine ⟨10, 9, rfl, rfl, ⟨by decide, by decide, by decide⟩, _, _, rfl, rfl, .inr ⟨by decide, by decide⟩, ?_⟩
        refine ⟨.ref bx, rfl, 10, 9, rfl, rfl, ⟨by decide, by decide, by decide⟩, bx, _, _, rfl, by decide, by decide, by omega, b7, fun a2 H8 a20 a21 e8 b8 => ?_⟩
        have hl8 := e8 _ _ nlb (e7 _ _ nlb hl5)
        refine ⟨_, _, rfl, rfl, .int (cntK ring n : Nat), rfl, _, _, rfl, rfl, _, _, rfl, rfl, by show (0 : Int) < (cntK ring n : Nat) - 1; omega, l, _, _, rfl, rfl, hl8, by rw [List.length_map]; exact small1000 (by omega), ?_⟩
        dsimp only
        generalize ev : (a1 * (10 : Int) ^ (9 : Int).toNat + a2) % ((cntK ring n : Nat) - 1 : Int) = v
        have v0 : 0 ≤ v := by rw [← ev]; exact Int.emod_nonneg _ (by omega)
        have v1 : v < (cntK ring n : Nat) - 1 := by rw [← ev]; exact Int.emod_lt_of_pos _ (by omega)
        have e58 := e7.trans e8
        have nps : p ≠ bx := F5.2.1.neT h5
        refine ⟨ks ++ [v], _, rfl, ⟨?_, ?_, ?_⟩, ?_, by rw [upd_same, List.map_append]; rfl, by rw [List.length_append, lk]; rfl, fun k hk => ?_⟩
        · exact fun a o na ha => by
            by_cases c : a = l
            · exact absurd (F3.1 a o na ha) (by rw [c, nl]; exact fun z => by cases z)
            · rw [upd_ne c]; exact e58 _ _ na (F5.1 _ _ na ha)
        · obtain ⟨x1, x2, x3, hb8, r⟩ := b8
          exact Box.mono ⟨x1, x2, x3, by rw [upd_ne nlb.symm]; exact hb8, r⟩ (by omega)
        · rw [upd_ne lcs.symm]; exact e58 _ _ ncb F5.2.2
        · rw [upd_ne lp.symm]; exact e58 _ _ nps h5
        · rcases List.mem_append.mp hk with h | h
          · exact kk k h
          · rw [List.mem_singleton.mp h]; omega
      rintro σ H5 ⟨ks, y7', rfl, F5, h5, hl5, lk, kk⟩
      -- each of them
      refine ⟨.ref l, rfl, .int (cntK ring n : Nat), rfl, _, _, rfl, rfl, by show 1 ≤ sizeLine; decide, fun l2 nl2 => ?_⟩
      have sl2 := same_upd (o := .lst [.int ((cntK ring n : Nat) - 2 : Int)]) nl2
      refine ⟨l, l2, ks.map V.int, [.int ((cntK ring n : Nat) - 2 : Int)], rfl, rfl, sl2 _ _ hl5, upd_same, by rw [List.length_map]; exact Nat.le_of_lt (small1000 (by show ks.length + 1 ≤ 1000; omega)), fun l3 nl3 => ?_⟩
      rw [show ks.map V.int ++ [V.int ((cntK ring n : Nat) - 2 : Int)] = (ks ++ [((cntK ring n : Nat) - 2 : Int)]).map V.int by rw [List.map_append]; rfl]
      generalize eks : ks ++ [((cntK ring n : Nat) - 2 : Int)] = kz
      have kk2 : ∀ k ∈ kz, 0 ≤ k ∧ k + 1 < (cntK ring n : Nat) := fun k hk => by
        rw [← eks] at hk
        rcases List.mem_append.mp hk with h | h
        · exact kk k h
        · rw [List.mem_singleton.mp h]; omega
      have sl3 := same_upd (o := .lst (kz.map V.int)) nl3
      refine ⟨l3, rfl, ⟨_, .inl (.inl upd_same)⟩, ?_⟩
      have s5 := sl2.trans sl3
      refine for_it (walk_list (xs := kz.map V.int)) (fun j σ H6 => ∃ y8 y9 y10 : Option V, σ = [some (.ref bx), some (.int n), some (.ref ls), some (.ref cs), some (.bl ring), some (.int (cntK ring n : Nat)), some (.ref l), y7', y8, y9, y10] ∧ F38 bx (1 + 8 * i + 8) H cs n H6 ∧ H6 p = some (.tup [.bl false, .bl true]) ∧ H6 l3 = some (.lst (kz.map V.int))) ?_ ?_ ?_ ?_
      · exact ⟨_, _, _, rfl, ⟨F5.1.trans (Ext.of s5), (F5.2.1.same s5).mono (by show 1 + 8 * (i : Int) + 2 * ((4 : Nat) : Int) ≤ 1 + 8 * i + 8; omega), s5 _ _ F5.2.2⟩, s5 _ _ h5, upd_same⟩
      · rintro j σ H6 _ ⟨z8, z9, z10, rfl, F6, h6, hl6⟩
        exact .inl (.inl hl6)
      · rintro j x σ H6 H7 hj ⟨z8, z9, z10, rfl, F6, h6, hl6⟩ ⟨rfl, hv⟩
        have hv' : (kz.map V.int)[j]? = some x := hv
        rw [List.getElem?_map] at hv'
        obtain ⟨k, hk, rfl⟩ := Option.map_eq_some_iff.mp hv'
        obtain ⟨k0, k1⟩ := kk2 k (List.mem_of_getElem? hk)
        obtain ⟨a, rfl⟩ : ∃ a : Nat, k = (a : Int) := ⟨k.toNat, by omega⟩
        have al : a + 1 < cntK ring n := by omega
        -- the pair
        refine ⟨.int n, rfl, .int (a : Nat), rfl, .bl ring, rfl, rfl, rfl, n, a, ring, rfl, by omega, by omega, by omega, fun t1 H8 s8 h8 => ?_⟩
        refine ⟨.int n, rfl, .int (a : Nat), rfl, _, _, rfl, rfl, .bl ring, rfl, rfl, rfl, n, a + 1, ring, rfl, by omega, by omega, al, fun t2 H9 s9 h9 => ?_⟩
        refine ⟨by show 2 ≤ sizeLine; decide, fun pa npa => ?_⟩
        have sp := same_upd (o := .lst [.ref t1, .ref t2]) npa
        generalize hHA : upd H9 pa (.lst [.ref t1, .ref t2]) = HA at sp
        have hpa : HA pa = some (.lst [.ref t1, .ref t2]) := by rw [← hHA]; exact upd_same
        have t1A := (h8.keep (Keep.same s9)).keep (Keep.same sp)
        have t2A := h9.keep (Keep.same sp)
        have s6A := (s8.trans s9).trans sp
        have l1 := rowK_len ring n a
        have l2 := rowK_len ring n (a + 1)
        have pick : ∀ (j : Nat) (v : V), [V.ref t1, V.ref t2][j]? = some v → ∃ tv : Addr, v = .ref tv ∧ j < 2 ∧ TupAt HA tv ((rowK ring n (a + j)).map V.int) := fun j v h => by
          match j, h with
          | 0, h => exact ⟨t1, (Option.some.inj h).symm, by decide, t1A⟩
          | 1, h => exact ⟨t2, (Option.some.inj h).symm, by decide, t2A⟩
          | j + 2, h => cases h
        have lenA : ∀ b, (rowK ring n b).length = n := fun b => rowK_len ring n b
        -- rows of that many
        refine ⟨.ref pa, rfl, pa, rfl, ⟨_, .inl (.inl hpa)⟩, fun D hD => ?_⟩
        refine lc_true (walk_list (xs := [V.ref t1, V.ref t2])) hD (by show 2 ≤ 1000; decide) (fun H3 s3 => .inl (.inl (s3 _ _ hpa))) ?_ ?_
        · rintro j' v HB HC hj sB ⟨rfl, hv⟩ Q' Z hQ
          obtain ⟨tv, rfl, lj, htv⟩ := pick j' v hv
          have htB := htv.keep (Keep.same sB)
          refine ⟨rfl, yes (iteT ?_)⟩
          refine ⟨.ref tv, rfl, .ref tv, .ty "tuple", .type "tuple", .type "tuple", true, rfl, .ty "tuple", htB.ty, kit_ty (by decide +kernel), true, rfl, iteP rfl ?_⟩
          refine ⟨.ref tv, rfl, tv, _, rfl, .inr htB.sq, .int n, rfl, rfl, ?_⟩
          have := hQ _ (Same.refl _)
          rw [show (true : Bool) = decide (V.int (((rowK ring n (a + j')).map V.int).length : Int) = V.int n) by rw [List.length_map, lenA]; exact (decide_eq_true rfl).symm] at this
          exact this
        intro HB sB hDB
        refine ⟨D, _, rfl, .inl (.inl hDB), ?_⟩
        rw [all_rep]
        refine ⟨_, rfl, iteN rfl ?_⟩
        have hpB := sB _ _ hpa
        refine ⟨.ref pa, rfl, pa, _, 0, .ref t1, rfl, rfl, .inl (.inl hpB), rfl, .ref pa, rfl, pa, _, 1, .ref t2, rfl, rfl, .inl (.inl hpB), rfl, t1, t2, _, _, rfl, rfl, (t1A.keep (Keep.same sB)).sq, (t2A.keep (Keep.same sB)).sq, _, rfl, iteN ?_ ?_⟩
        · rw [em] at al ⊢
          rw [row_lt (Nat.lt_succ_self a) al]; rfl
        -- they are rests
        refine ⟨.ref pa, rfl, pa, rfl, ⟨_, .inl (.inl hpB)⟩, fun D2 hD2 => ?_⟩
        refine lc_true (walk_list (xs := [V.ref t1, V.ref t2])) hD2 (by show 2 ≤ 1000; decide) (fun H3 s3 => .inl (.inl (s3 _ _ hpB))) ?_ ?_
        · rintro j' v HC HC' hj sC' ⟨rfl, hv⟩ Q' Z hQ
          obtain ⟨tv, rfl, lj, htv⟩ := pick j' v hv
          have htC := (htv.keep (Keep.same sB)).keep (Keep.same sC')
          have lb := lenA (a + j')
          have bl : a + j' < cntK ring n := by omega
          refine ⟨rfl, yes (iteT ?_)⟩
          refine ⟨.ref tv, rfl, .bl ring, rfl, tv, ring, rowK ring n (a + j'), rfl, by omega, fun z => by rw [z] at lb; have : (0 : Nat) = n := lb; omega, htC, ?_, fun z => ?_, hQ⟩
          · rw [em] at bl ⊢
            exact row_rest bl
          · subst z
            exact ok_last _ (row_line_ok bl)
        intro HC sC' hDC
        refine ⟨D2, _, rfl, .inl (.inl hDC), ?_⟩
        rw [all_rep]
        refine ⟨_, rfl, iteN rfl ?_⟩
        have hpC := sC' _ _ hpB
        have sAC := sB.trans sC'
        -- their numbers
        refine ⟨.ref pa, rfl, pa, rfl, ⟨_, .inl (.inl hpC)⟩, fun D3 hD3 => ?_⟩
        refine lc_map (walk_list (xs := [V.ref t1, V.ref t2])) (fun j => .int ((a + j : Nat) : Int)) hD3 (by show 2 ≤ 1000; decide) (fun H3 s3 => .inl (.inl (s3 _ _ hpC))) ?_ ?_
        · rintro j' v HE HE' hj sE ⟨rfl, hv⟩ Q' Z hQ
          obtain ⟨tv, rfl, lj, htv⟩ := pick j' v hv
          have htE := (htv.keep (Keep.same sAC)).keep (Keep.same sE)
          have lb := lenA (a + j')
          have bl : a + j' < cntK ring n := by omega
          refine ⟨rfl, yes (iteT ?_)⟩
          refine ⟨.ref tv, rfl, .bl ring, rfl, rfl, rfl, tv, ring, rowK ring n (a + j'), rfl, by omega, htE, fun H' s' => ?_⟩
          have en : numP ring [] (rowK ring n (a + j')) = a + j' := by
            rw [em] at bl ⊢
            exact num_row bl
          rw [en]
          exact hQ _ s'
        intro HE sE hDE
        have hDE' : HE D3 = some (.lst ([(a : Int), (a : Int) + 1].map V.int)) := hDE
        refine ⟨.int (a : Nat), rfl, .int (a : Nat), rfl, _, _, rfl, rfl, by show 2 ≤ sizeLine; decide, fun l4 nl4 => ?_⟩
        have s4 := same_upd (o := .lst ([(a : Int), (a : Int) + 1].map V.int)) nl4
        have sAE := sAC.trans sE
        have bE := ((F6.2.1.same s6A).same sAE)
        refine ⟨bx, .ref D3, .ref l4, .list ([(a : Int), (a : Int) + 1].map PyData.int), rfl, .lst (s4 _ _ hDE') (((F6.2.1.same s6A).same sAC).ne hD3) (RpAll.ints [(a : Int), (a : Int) + 1]), .lst upd_same (bE.ne nl4) (RpAll.ints [(a : Int), (a : Int) + 1]), okD_intsL (by show 2 ≤ 8388608; decide), fun HF sF => ⟨_, rfl, iteN rfl ?_⟩⟩
        have sAF := (sAE.trans s4).trans sF
        have sHF := s6A.trans sAF
        have hpF := sAF _ _ hpa
        have t1F := t1A.keep (Keep.same sAF)
        have done : ∀ H' : Hp, Same HF H' → _ := fun H' s' => (⟨_, _, _, rfl, ⟨F6.1.trans (Ext.of (sHF.trans s')), F6.2.1.same (sHF.trans s'), (sHF.trans s') _ _ F6.2.2⟩, (sHF.trans s') _ _ h6, (sHF.trans s') _ _ hl6⟩ : ∃ y8 y9 y10 : Option V, [some (V.ref bx), some (.int n), some (.ref ls), some (.ref cs), some (.bl ring), some (.int (cntK ring n : Nat)), some (.ref l), y7', some (.int (a : Nat)), some (.ref pa), z10] = [some (V.ref bx), some (.int n), some (.ref ls), some (.ref cs), some (.bl ring), some (.int (cntK ring n : Nat)), some (.ref l), y7', y8, y9, y10] ∧ F38 bx (1 + 8 * i + 8) H cs n H' ∧ H' p = some (.tup [.bl false, .bl true]) ∧ H' l3 = some (.lst (kz.map V.int)))
        refine ⟨.bl ring, rfl, ring, rfl, ite2 (fun z => ?_) (fun z => ?_)⟩
        · have z : ring = false := by simpa using z
          subst z
          obtain ⟨q1, q2⟩ : numP true [] (rowK false n a) < cntK true n ∧ rowK true n (numP true [] (rowK false n a)) = rowK false n a := by
            rw [em] at al ⊢
            exact line_in_ring (by omega)
          refine ⟨.int n, rfl, .ref pa, rfl, pa, _, 0, .ref t1, rfl, rfl, .inl (.inl hpF), rfl, rfl, rfl, t1, true, rowK false n a, rfl, by omega, t1F, fun HG sG => ?_⟩
          refine ⟨rfl, rfl, n, numP true [] (rowK false n a), true, rfl, by omega, by omega, q1, fun t3 HI sI h3I => ?_⟩
          rw [q2] at h3I
          have sFI := sG.trans sI
          refine ⟨.ref pa, rfl, pa, _, 0, .ref t1, rfl, rfl, .inl (.inl (sFI _ _ hpF)), rfl, _, _, h3I.dp, (t1F.keep (Keep.same sFI)).dp, shaped_tup _, shaped_tup _, _, rfl, iteN ?_ (done _ sFI)⟩
          rw [eqv_tups, decide_eq_true rfl]; rfl
        · exact iteN rfl (done _ (Same.refl _))
      · rintro σ H6 ⟨z8, z9, z10, rfl, F6, h6, hl6⟩
        exact ⟨_, _, _, _, _, _, _, rfl, ⟨F6.1, F6.2.1.mono (by omega), F6.2.2⟩, h6⟩
    · rintro σ H3 ⟨y4, y5, y6, y7, y8, y9, y10, rfl, F3, h3⟩
      exact q H3 F3.1
end
end Lh

namespace Lh
open PySem PySem.Spec PyProof.Rows L2
section
variable {P : Program} {w : World} {K : PySem.W.Frag} {mg : Str → Option Value} {base : Heap}
def spLaw (K : PySem.W.Frag) : Sp := fun vs H Q _ => ∃ (a : Addr) (ns : List Int), vs = [.ref a] ∧ SqL K H a (ns.map V.int) ∧ ns.length ≤ 63 ∧ ∀ H', Q (.bl true) H'
theorem ok_law (T : Txt K mg w) : FnG P w K mg base 9 T.f_law T.fd_law ["_law_script"] (spLaw K) := by
  have G_folded := ok_folded (P := P) (w := w) (base := base) T
  have G_dip := ok_dip (P := P) (w := w) (base := base) T
  have G_right := ok_right (P := P) (w := w) (base := base) T
  refine okG T.F_law sc_law (fun vs H Q E h => ?_) (fun cdv A outer s H vs Q E hr hG h => ?_)
  · obtain ⟨a, ns, rfl, _⟩ := h
    rfl
  · obtain ⟨a, ns, rfl, hS, hl, q⟩ := h
    refine ⟨_, (pss_cons (ps_set (i := 1) sc_law.nd rfl (.inr rfl) (pe_call G_folded (hr.mono (by decide)) (by rfl) T.g_folded T.F_folded.kp T.b_folded .nil pass0 (pa_cons (pv 0) (pa_cons pe_int pa_nil))))
      (pss_one (ps_ret (pe_callB (cr_all rfl) (by rfl) T.m_all (by decide +kernel) (pa_cons (pe_lc (own := [("_law_k", 2)]) (g := gName 2) (by rfl) sc_law.nd (pi_range1 (by rfl) T.m_range (pa_cons (pe_callB (call_max2 rfl) (by rfl) T.m_max (by decide +kernel) (pa_cons pe_int (pa_cons (pe_callB call_len_seq (by rfl) T.m_len (by decide +kernel) (pa_cons (pv 1) pa_nil)) pa_nil))) pa_nil)) (blkOk_by (own := [("_law_k", 2)]) (N := n_law) (sc := defScope s_law) (by decide +kernel)) (fun _ _ _ _ _ => (pg_name (i := 2) sc_law.nd rfl (.inl rfl) (.inr rfl))) (fun _ _ _ _ _ => pts_nil) (fun _ _ _ _ _ => (pe_callG G_right (hr.mono (by decide)) hG (by rfl) T.g_right T.F_right.kp T.b_right (pa_cons (pe_call G_dip (hr.mono (by decide)) (by rfl) T.g_dip T.F_dip.kp T.b_dip .nil pass0 (pa_cons (pv 1) (pa_cons (pv 2) pa_nil))) pa_nil)))) pa_nil))))), ?_⟩
    refine ⟨.ref a, rfl, a, ns, rfl, hS, hl, fun p ms H1 s1 np hp ml => ?_⟩
    refine ⟨.ref p, rfl, p, _, rfl, .inl (.inl (.inl hp)), 1, _, rfl, _, rfl, ?_, ?_, fun D hD => ?_⟩
    · rw [List.length_map]; split <;> omega
    · rw [List.length_map]; split <;> omega
    generalize hn : (if ((ms.map V.int).length : Int) > 1 then ((ms.map V.int).length : Int) else 1).toNat = n
    have hn3 : n ≤ 3 := by
      rw [← hn, List.length_map]
      split <;> omega
    refine lc_it walk_range (fun i H3 => H3 p = some (.lst (ms.map V.int)) ∧ H3 D = some (.lst (List.replicate i (.bl true)))) ⟨same_upd hD _ _ hp, upd_same⟩ (fun _ _ _ _ => trivial) ?_ ?_
    · rintro i x H3 H4 hi ⟨h1, h2⟩ ⟨rfl, rfl⟩
      refine ⟨rfl, yes (iteT ?_)⟩
      refine ⟨.ref p, rfl, .int (0 + i), rfl, p, ms, i, by show [V.ref p, V.int (0 + (i : Int))] = _; rw [Int.zero_add], .inl (.inl h1), by omega, fun bx H5 s5 nb bB => ?_⟩
      refine ⟨bx, rfl, bB, fun H6 e6 => ?_⟩
      have nD : D ≠ bx := ne_of_none h2 nb
      have nP : p ≠ bx := ne_of_none h1 nb
      have nPD : p ≠ D := ne_of_none hp hD
      refine ⟨_, e6 _ _ nD (s5 _ _ h2), by rw [List.length_replicate]; exact small1000 (by omega), ?_, ?_⟩
      · rw [upd_ne nPD]; exact e6 _ _ nP (s5 _ _ h1)
      · rw [upd_same, List.replicate_succ']
    · rintro H3 ⟨h1, h2⟩
      refine ⟨D, List.replicate n true, rfl, .inl (.inl (by rw [h2, List.map_replicate])), blT ?_ (q _)⟩
      rw [List.all_eq_true]
      intro z hz
      rw [List.eq_of_mem_replicate hz]
      rfl
end

set_option maxHeartbeats 4000000 in
theorem all_mk {l : PySem.W.OpenLaw} {w : World} {K : PySem.W.Frag} {h : Heap} {mg : Str → Option Value} {fa : Addr} (X : K.In h) (G : h.Ns mainGlobals mg) (hfa : mg "law" = some (.ref fa))
    {f0 : Addr} {od0 an0 : Option Addr} {sl0 : Array (Option Value)} {oc0 kV0 dc0 pm0 cd0 ct0 : Value}
    (a0 : PySem.W.nsIn K mainGlobals "ways_of" = some (some (.ref f0)))
    (l0 : K.lookup f0 = some ⟨oc0, od0, .func (PySem.W.fnOf "ways_of" "ways_of" (defArgs s_ways_of) (defBody s_ways_of) (defScope s_ways_of) .none kV0 dc0 pm0 an0 cd0 ct0), sl0⟩) (c0 : PySem.W.codeIn K cd0 "ways_of" = true) (k0 : PySem.W.keepIn K (.ref f0) = true)
    {f1 kD1 : Addr} {od1 an1 : Option Addr} {sl1 : Array (Option Value)} {oc1 dc1 pm1 cd1 ct1 : Value}
    (a1 : PySem.W.nsIn K mainGlobals "line_counts" = some (some (.ref f1)))
    (l1 : K.lookup f1 = some ⟨oc1, od1, .func (PySem.W.fnOf "line_counts" "line_counts" (defArgs s_line_counts) (defBody s_line_counts) (defScope s_line_counts) .none (.ref kD1) dc1 pm1 an1 cd1 ct1), sl1⟩) (c1 : PySem.W.codeIn K cd1 "line_counts" = true) (k1 : PySem.W.keepIn K (.ref f1) = true)
    (w1_0 : PySem.W.nsIn K kD1 "ring" = some (some (.bool false)))
    {f2 : Addr} {od2 an2 : Option Addr} {sl2 : Array (Option Value)} {oc2 kV2 dc2 pm2 cd2 ct2 : Value}
    (a2 : PySem.W.nsIn K mainGlobals "ways_behind" = some (some (.ref f2)))
    (l2 : K.lookup f2 = some ⟨oc2, od2, .func (PySem.W.fnOf "ways_behind" "ways_behind" (defArgs s_ways_behind) (defBody s_ways_behind) (defScope s_ways_behind) .none kV2 dc2 pm2 an2 cd2 ct2), sl2⟩) (c2 : PySem.W.codeIn K cd2 "ways_behind" = true) (k2 : PySem.W.keepIn K (.ref f2) = true)
    {f3 kD3 : Addr} {od3 an3 : Option Addr} {sl3 : Array (Option Value)} {oc3 dc3 pm3 cd3 ct3 : Value}
    (a3 : PySem.W.nsIn K mainGlobals "line_rest" = some (some (.ref f3)))
    (l3 : K.lookup f3 = some ⟨oc3, od3, .func (PySem.W.fnOf "line_rest" "line_rest" (defArgs s_line_rest) (defBody s_line_rest) (defScope s_line_rest) .none (.ref kD3) dc3 pm3 an3 cd3 ct3), sl3⟩) (c3 : PySem.W.codeIn K cd3 "line_rest" = true) (k3 : PySem.W.keepIn K (.ref f3) = true)
    (w3_0 : PySem.W.nsIn K kD3 "ring" = some (some (.bool false)))
    {f4 kD4 : Addr} {od4 an4 : Option Addr} {sl4 : Array (Option Value)} {oc4 dc4 pm4 cd4 ct4 : Value}
    (a4 : PySem.W.nsIn K mainGlobals "line_number" = some (some (.ref f4)))
    (l4 : K.lookup f4 = some ⟨oc4, od4, .func (PySem.W.fnOf "line_number" "line_number" (defArgs s_line_number) (defBody s_line_number) (defScope s_line_number) .none (.ref kD4) dc4 pm4 an4 cd4 ct4), sl4⟩) (c4 : PySem.W.codeIn K cd4 "line_number" = true) (k4 : PySem.W.keepIn K (.ref f4) = true)
    (w4_0 : PySem.W.nsIn K kD4 "ring" = some (some (.bool false)))
    {f5 : Addr} {od5 an5 : Option Addr} {sl5 : Array (Option Value)} {oc5 kV5 dc5 pm5 cd5 ct5 : Value}
    (a5 : PySem.W.nsIn K mainGlobals "_law_dip" = some (some (.ref f5)))
    (l5 : K.lookup f5 = some ⟨oc5, od5, .func (PySem.W.fnOf "_law_dip" "_law_dip" (defArgs s_dip) (defBody s_dip) (defScope s_dip) .none kV5 dc5 pm5 an5 cd5 ct5), sl5⟩) (c5 : PySem.W.codeIn K cd5 "_law_dip" = true) (k5 : PySem.W.keepIn K (.ref f5) = true)
    {f6 : Addr} {od6 an6 : Option Addr} {sl6 : Array (Option Value)} {oc6 kV6 dc6 pm6 cd6 ct6 : Value}
    (a6 : PySem.W.nsIn K mainGlobals "_law_take" = some (some (.ref f6)))
    (l6 : K.lookup f6 = some ⟨oc6, od6, .func (PySem.W.fnOf "_law_take" "_law_take" (defArgs s_take) (defBody s_take) (defScope s_take) .none kV6 dc6 pm6 an6 cd6 ct6), sl6⟩) (c6 : PySem.W.codeIn K cd6 "_law_take" = true) (k6 : PySem.W.keepIn K (.ref f6) = true)
    {f7 : Addr} {od7 an7 : Option Addr} {sl7 : Array (Option Value)} {oc7 kV7 dc7 pm7 cd7 ct7 : Value}
    (a7 : PySem.W.nsIn K mainGlobals "_law_folded" = some (some (.ref f7)))
    (l7 : K.lookup f7 = some ⟨oc7, od7, .func (PySem.W.fnOf "_law_folded" "_law_folded" (defArgs s_folded) (defBody s_folded) (defScope s_folded) .none kV7 dc7 pm7 an7 cd7 ct7), sl7⟩) (c7 : PySem.W.codeIn K cd7 "_law_folded" = true) (k7 : PySem.W.keepIn K (.ref f7) = true)
    {f8 : Addr} {od8 an8 : Option Addr} {sl8 : Array (Option Value)} {oc8 kV8 dc8 pm8 cd8 ct8 : Value}
    (a8 : PySem.W.nsIn K mainGlobals "_law_same" = some (some (.ref f8)))
    (l8 : K.lookup f8 = some ⟨oc8, od8, .func (PySem.W.fnOf "_law_same" "_law_same" (defArgs s_same) (defBody s_same) (defScope s_same) .none kV8 dc8 pm8 an8 cd8 ct8), sl8⟩) (c8 : PySem.W.codeIn K cd8 "_law_same" = true) (k8 : PySem.W.keepIn K (.ref f8) = true)
    {f9 : Addr} {od9 an9 : Option Addr} {sl9 : Array (Option Value)} {oc9 kV9 dc9 pm9 cd9 ct9 : Value}
    (a9 : PySem.W.nsIn K mainGlobals "_law_sums" = some (some (.ref f9)))
    (l9 : K.lookup f9 = some ⟨oc9, od9, .func (PySem.W.fnOf "_law_sums" "_law_sums" (defArgs s_sums) (defBody s_sums) (defScope s_sums) .none kV9 dc9 pm9 an9 cd9 ct9), sl9⟩) (c9 : PySem.W.codeIn K cd9 "_law_sums" = true) (k9 : PySem.W.keepIn K (.ref f9) = true)
    {f10 : Addr} {od10 an10 : Option Addr} {sl10 : Array (Option Value)} {oc10 kV10 dc10 pm10 cd10 ct10 : Value}
    (a10 : PySem.W.nsIn K mainGlobals "_law_is_rest" = some (some (.ref f10)))
    (l10 : K.lookup f10 = some ⟨oc10, od10, .func (PySem.W.fnOf "_law_is_rest" "_law_is_rest" (defArgs s_is_rest) (defBody s_is_rest) (defScope s_is_rest) .none kV10 dc10 pm10 an10 cd10 ct10), sl10⟩) (c10 : PySem.W.codeIn K cd10 "_law_is_rest" = true) (k10 : PySem.W.keepIn K (.ref f10) = true)
    {f11 : Addr} {od11 an11 : Option Addr} {sl11 : Array (Option Value)} {oc11 kV11 dc11 pm11 cd11 ct11 : Value}
    (a11 : PySem.W.nsIn K mainGlobals "_law_right" = some (some (.ref f11)))
    (l11 : K.lookup f11 = some ⟨oc11, od11, .func (PySem.W.fnOf "_law_right" "_law_right" (defArgs s_right) (defBody s_right) (defScope s_right) .none kV11 dc11 pm11 an11 cd11 ct11), sl11⟩) (c11 : PySem.W.codeIn K cd11 "_law_right" = true) (k11 : PySem.W.keepIn K (.ref f11) = true)
    {f12 : Addr} {od12 an12 : Option Addr} {sl12 : Array (Option Value)} {oc12 kV12 dc12 pm12 cd12 ct12 : Value}
    (a12 : PySem.W.nsIn K mainGlobals "law" = some (some (.ref f12)))
    (l12 : K.lookup f12 = some ⟨oc12, od12, .func (PySem.W.fnOf "law" "law" (defArgs s_law) (defBody s_law) (defScope s_law) .none kV12 dc12 pm12 an12 cd12 ct12), sl12⟩) (c12 : PySem.W.codeIn K cd12 "law" = true) (k12 : PySem.W.keepIn K (.ref f12) = true)
    (z0 : PySem.W.nsIn K mainGlobals "abs" = some none)
    (z1 : PySem.W.nsIn K mainGlobals "all" = some none)
    (z2 : PySem.W.nsIn K mainGlobals "bool" = some none)
    (z3 : PySem.W.nsIn K mainGlobals "enumerate" = some none)
    (z4 : PySem.W.nsIn K mainGlobals "int" = some none)
    (z5 : PySem.W.nsIn K mainGlobals "isinstance" = some none)
    (z6 : PySem.W.nsIn K mainGlobals "len" = some none)
    (z7 : PySem.W.nsIn K mainGlobals "list" = some none)
    (z8 : PySem.W.nsIn K mainGlobals "max" = some none)
    (z9 : PySem.W.nsIn K mainGlobals "range" = some none)
    (z10 : PySem.W.nsIn K mainGlobals "str" = some none)
    (z11 : PySem.W.nsIn K mainGlobals "tuple" = some none)
    (z12 : PySem.W.nsIn K mainGlobals "zip" = some none) :
    ∃ fd : FuncData, (∀ (t : Shared) (v : Value), BindsTo t fd ⟨[v], []⟩ [("_law_script", v)]) ∧ ∀ base : Heap, K.In base → base.Ns mainGlobals mg → FnG l.prog w K mg base 9 fa fd ["_law_script"] (spLaw K) := by
  have e := hfa.symm.trans (PySem.W.mg_of X G a12)
  cases e
  refine ⟨PySem.W.fnOf "law" "law" (defArgs s_law) (defBody s_law) (defScope s_law) .none kV12 dc12 pm12 an12 cd12 ct12, fun t v => .of_eq rfl, fun base _ _ => ?_⟩
  exact ok_law (w := w) {
    t_ways_of := ⟨_, _, fun_mk (st := s_ways_of) l0 c0 k0, (fun_mk (st := s_ways_of) l0 c0 k0).binds (ps := p_ways_of) fun _ _ _ _ _ _ us hl => match us, hl with | [_], _ => rfl⟩,
    g_ways_of := PySem.W.mg_of X G a0,
    t_line_counts := FnKT.mk _ _ ⟨⟨_, _, _, _, _, _, _, _, _, _, rfl, l1, c1, .inl ⟨rfl, rfl⟩, .inr ⟨kD1, rfl, fun q hq => by simp only [List.mem_cons, List.not_mem_nil, or_false] at hq; rcases hq with rfl; exact ⟨_, w1_0, rfl⟩⟩⟩, k1⟩ (FunD.binds0 (kws := [("ring", V.bl false)]) ⟨⟨_, _, _, _, _, _, _, _, _, _, rfl, l1, c1, .inl ⟨rfl, rfl⟩, .inr ⟨kD1, rfl, fun q hq => by simp only [List.mem_cons, List.not_mem_nil, or_false] at hq; rcases hq with rfl; exact ⟨_, w1_0, rfl⟩⟩⟩, k1⟩ 1 (by decide) rfl fun D doc pm an cdv ct us ks h1 h2 => match us, ks, h1, h2 with | [_], [_], _, _ => ⟨_, _, _, _, _, _, rfl, rfl, rfl⟩) ⟨fun s us ws _ h1 h2 => match us, ws, h1, h2 with | [_], [_], _, _ => .of_eq rfl, fun r1 r2 => r1.append r2⟩,
    g_line_counts := PySem.W.mg_of X G a1,
    t_ways_behind := ⟨_, _, fun_mk (st := s_ways_behind) l2 c2 k2, (fun_mk (st := s_ways_behind) l2 c2 k2).binds (ps := p_ways_behind) fun _ _ _ _ _ _ us hl => match us, hl with | [_, _, _], _ => rfl⟩,
    g_ways_behind := PySem.W.mg_of X G a2,
    t_line_rest := FnKT.mk _ _ ⟨⟨_, _, _, _, _, _, _, _, _, _, rfl, l3, c3, .inl ⟨rfl, rfl⟩, .inr ⟨kD3, rfl, fun q hq => by simp only [List.mem_cons, List.not_mem_nil, or_false] at hq; rcases hq with rfl; exact ⟨_, w3_0, rfl⟩⟩⟩, k3⟩ (FunD.binds0 (kws := [("ring", V.bl false)]) ⟨⟨_, _, _, _, _, _, _, _, _, _, rfl, l3, c3, .inl ⟨rfl, rfl⟩, .inr ⟨kD3, rfl, fun q hq => by simp only [List.mem_cons, List.not_mem_nil, or_false] at hq; rcases hq with rfl; exact ⟨_, w3_0, rfl⟩⟩⟩, k3⟩ 2 (by decide) rfl fun D doc pm an cdv ct us ks h1 h2 => match us, ks, h1, h2 with | [_, _], [_], _, _ => ⟨_, _, _, _, _, _, rfl, rfl, rfl⟩) ⟨fun s us ws _ h1 h2 => match us, ws, h1, h2 with | [_, _], [_], _, _ => .of_eq rfl, fun r1 r2 => r1.append r2⟩,
    g_line_rest := PySem.W.mg_of X G a3,
    t_line_number := FnKT.mk _ _ ⟨⟨_, _, _, _, _, _, _, _, _, _, rfl, l4, c4, .inl ⟨rfl, rfl⟩, .inr ⟨kD4, rfl, fun q hq => by simp only [List.mem_cons, List.not_mem_nil, or_false] at hq; rcases hq with rfl; exact ⟨_, w4_0, rfl⟩⟩⟩, k4⟩ (FunD.binds0 (kws := [("ring", V.bl false)]) ⟨⟨_, _, _, _, _, _, _, _, _, _, rfl, l4, c4, .inl ⟨rfl, rfl⟩, .inr ⟨kD4, rfl, fun q hq => by simp only [List.mem_cons, List.not_mem_nil, or_false] at hq; rcases hq with rfl; exact ⟨_, w4_0, rfl⟩⟩⟩, k4⟩ 1 (by decide) rfl fun D doc pm an cdv ct us ks h1 h2 => match us, ks, h1, h2 with | [_], [_], _, _ => ⟨_, _, _, _, _, _, rfl, rfl, rfl⟩) ⟨fun s us ws _ h1 h2 => match us, ws, h1, h2 with | [_], [_], _, _ => .of_eq rfl, fun r1 r2 => r1.append r2⟩,
    g_line_number := PySem.W.mg_of X G a4,
    t_dip := ⟨_, _, fun_mk (st := s_dip) l5 c5 k5, (fun_mk (st := s_dip) l5 c5 k5).binds (ps := p_dip) fun _ _ _ _ _ _ us hl => match us, hl with | [_, _], _ => rfl⟩,
    g_dip := PySem.W.mg_of X G a5,
    t_take := ⟨_, _, fun_mk (st := s_take) l6 c6 k6, (fun_mk (st := s_take) l6 c6 k6).binds (ps := p_take) fun _ _ _ _ _ _ us hl => match us, hl with | [_, _], _ => rfl⟩,
    g_take := PySem.W.mg_of X G a6,
    t_folded := ⟨_, _, fun_mk (st := s_folded) l7 c7 k7, (fun_mk (st := s_folded) l7 c7 k7).binds (ps := p_folded) fun _ _ _ _ _ _ us hl => match us, hl with | [_, _], _ => rfl⟩,
    g_folded := PySem.W.mg_of X G a7,
    t_same := ⟨_, _, fun_mk (st := s_same) l8 c8 k8, (fun_mk (st := s_same) l8 c8 k8).binds (ps := p_same) fun _ _ _ _ _ _ us hl => match us, hl with | [_, _], _ => rfl⟩,
    g_same := PySem.W.mg_of X G a8,
    t_sums := ⟨_, _, fun_mk (st := s_sums) l9 c9 k9, (fun_mk (st := s_sums) l9 c9 k9).binds (ps := p_sums) fun _ _ _ _ _ _ us hl => match us, hl with | [_], _ => rfl⟩,
    g_sums := PySem.W.mg_of X G a9,
    t_is_rest := ⟨_, _, fun_mk (st := s_is_rest) l10 c10 k10, (fun_mk (st := s_is_rest) l10 c10 k10).binds (ps := p_is_rest) fun _ _ _ _ _ _ us hl => match us, hl with | [_, _], _ => rfl⟩,
    g_is_rest := PySem.W.mg_of X G a10,
    t_right := ⟨_, _, fun_mk (st := s_right) l11 c11 k11, (fun_mk (st := s_right) l11 c11 k11).binds (ps := p_right) fun _ _ _ _ _ _ us hl => match us, hl with | [_], _ => rfl⟩,
    g_right := PySem.W.mg_of X G a11,
    t_law := ⟨_, _, fun_mk (st := s_law) l12 c12 k12, (fun_mk (st := s_law) l12 c12 k12).binds (ps := p_law) fun _ _ _ _ _ _ us hl => match us, hl with | [_], _ => rfl⟩,
    g_law := PySem.W.mg_of X G a12,
    m_abs := PySem.W.mg_none_of X G z0,
    m_all := PySem.W.mg_none_of X G z1,
    m_bool := PySem.W.mg_none_of X G z2,
    m_enumerate := PySem.W.mg_none_of X G z3,
    m_int := PySem.W.mg_none_of X G z4,
    m_isinstance := PySem.W.mg_none_of X G z5,
    m_len := PySem.W.mg_none_of X G z6,
    m_list := PySem.W.mg_none_of X G z7,
    m_max := PySem.W.mg_none_of X G z8,
    m_range := PySem.W.mg_none_of X G z9,
    m_str := PySem.W.mg_none_of X G z10,
    m_tuple := PySem.W.mg_none_of X G z11,
    m_zip := PySem.W.mg_none_of X G z12 }
end Lh
open PySem PySem.W PyProof.Rows
set_option maxHeartbeats 0 in
theorem PySem.Challenge.cw_lesserhall_k38_great_lines_holds : PySem.Challenge.rw_lesserhall_k38_great_lines.Holds := by
  w_on; o_law; k_head; (case hw => w_witness2)
  k_fill
  refine Lh.walk_G (l := PySem.Challenge.rw_lesserhall_k38_great_lines) (n := 63) (k := 9) (x := "_law_script") (sp := fun w => Lh.spLaw _) rfl (by decide) rfl ⟨rfl, by decide, by decide⟩ (fun w h Y => PySem.W.kIn_of Y) ?F (fun _ _ a ns hl _ hS => ⟨a, ns, rfl, hS, hl, fun _ => rfl⟩)
  case F =>
    intro w mg fa h KX G hmg
    refine' Lh.all_mk KX G hmg ?a0 ?l0 ?c0 ?k0 ?a1 ?l1 ?c1 ?k1 ?w1_0 ?a2 ?l2 ?c2 ?k2 ?a3 ?l3 ?c3 ?k3 ?w3_0 ?a4 ?l4 ?c4 ?k4 ?w4_0 ?a5 ?l5 ?c5 ?k5 ?a6 ?l6 ?c6 ?k6 ?a7 ?l7 ?c7 ?k7 ?a8 ?l8 ?c8 ?k8 ?a9 ?l9 ?c9 ?k9 ?a10 ?l10 ?c10 ?k10 ?a11 ?l11 ?c11 ?k11 ?a12 ?l12 ?c12 ?k12 ?z0 ?z1 ?z2 ?z3 ?z4 ?z5 ?z6 ?z7 ?z8 ?z9 ?z10 ?z11 ?z12
    (case a0 => k_is); (case l0 => k_is); (case c0 => k_is); (case k0 => k_is); (case a1 => k_is); (case l1 => k_is); (case c1 => k_is); (case k1 => k_is); (case w1_0 => k_is); (case a2 => k_is); (case l2 => k_is); (case c2 => k_is); (case k2 => k_is); (case a3 => k_is); (case l3 => k_is); (case c3 => k_is); (case k3 => k_is); (case w3_0 => k_is); (case a4 => k_is); (case l4 => k_is); (case c4 => k_is); (case k4 => k_is); (case w4_0 => k_is); (case a5 => k_is); (case l5 => k_is); (case c5 => k_is); (case k5 => k_is); (case a6 => k_is); (case l6 => k_is); (case c6 => k_is); (case k6 => k_is); (case a7 => k_is); (case l7 => k_is); (case c7 => k_is); (case k7 => k_is); (case a8 => k_is); (case l8 => k_is); (case c8 => k_is); (case k8 => k_is); (case a9 => k_is); (case l9 => k_is); (case c9 => k_is); (case k9 => k_is); (case a10 => k_is); (case l10 => k_is); (case c10 => k_is); (case k10 => k_is); (case a11 => k_is); (case l11 => k_is); (case c11 => k_is); (case k11 => k_is); (case a12 => k_is); (case l12 => k_is); (case c12 => k_is); (case k12 => k_is); (case z0 => k_is); (case z1 => k_is); (case z2 => k_is); (case z3 => k_is); (case z4 => k_is); (case z5 => k_is); (case z6 => k_is); (case z7 => k_is); (case z8 => k_is); (case z9 => k_is); (case z10 => k_is); (case z11 => k_is); (case z12 => k_is)
